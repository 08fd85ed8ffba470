import PyProof.Rows.All
import Wide.All
import OpenK.AllK
import Wide.FinOn
import Lean
import PyProof.EqAt
import PyProof.EqKinds
import PyProof.TupleCall
import PyProof.ExcClass3
import PyProof.ExcAttrAll.ValueError
import KE.KIsAll
import PyProof.ExcBaseAll.ValueError
import PyProof.RulesAs
import KE.KTryMore
import PyProof.EnumFor
import PyProof.EnumMake
import PyProof.EnumStmt
import PyProof.Rows.EnumRows
import PyProof.RulesTry
import PyProof.Rows.StrWeight2
import PyProof.AutoListH
import PyProof.Draws
import PyProof.Rows.SortStr
import PyProof.Rows.SortShell
import PyProof.Rows.SortWalk
import PyProof.Rows.StrMeet
import PyProof.FitsReplace
import PySem.Challenge.RW_taglook_k35_behind_a_start
set_option Elab.async false
set_option bootstrap.genMatcherCode false
set_option genSizeOfSpec false
set_option linter.all false
set_option maxRecDepth 100000
namespace L2
open PySem PySem.Spec PyProof.Rows
noncomputable abbrev Key:=Sum Int Str
noncomputable def keyIs:Key->Value->Bool
 | .inl k,v=>Value.isInt k v
 | .inr x,v=>Value.isStrOf x v
noncomputable def keyH(w:World):Key->Int
 | .inl k=>hashInt k
 | .inr x=>hashStr w x
theorem keyIs_shape:∀ {k:Key} {v:Value},keyIs k v=true->(∃ i t,k=Sum.inl i/\v=Value.int i t)\/(∃ x t,k=Sum.inr x/\v=Value.str x t)
 | .inl i,v,h=>by
  obtain⟨t,e⟩:=Value.isInt_shape (k:=i) (v:=v) h
  exact .inl ⟨i,t,rfl,e⟩
 | .inr x,v,h=>by
  obtain⟨t,e⟩:=Value.isStrOf_shape (x:=x) (v:=v) h
  exact .inr ⟨x,t,rfl,e⟩
theorem keyIs_int(i:Int)(t:Tok):keyIs (.inl i) (.int i t)=true:=by simp[keyIs,Value.isInt]
theorem keyIs_str(x:Str)(t:Tok):keyIs (.inr x) (.str x t)=true:=by simp[keyIs,Value.isStrOf]
theorem key_ll(a b:Int):decide ((Sum.inl a:Key)=Sum.inl b)=(a == b):=by
 by_cases e:a=b
 ·subst e;simp
 ·have h:¬ (Sum.inl a:Key)=Sum.inl b:=fun q=>e (Sum.inl.inj q)
  rw[decide_eq_false h]
  exact(beq_eq_false_iff_ne.mpr e).symm
theorem key_rr(a b:Str):decide ((Sum.inr a:Key)=Sum.inr b)=decide (a=b):=by
 by_cases e:a=b
 ·subst e;simp
 ·have h:¬ (Sum.inr a:Key)=Sum.inr b:=fun q=>e (Sum.inr.inj q)
  rw[decide_eq_false h,decide_eq_false e]
theorem key_lr(a:Int)(b:Str):decide ((Sum.inl a:Key)=Sum.inr b)=false:=decide_eq_false (fun q=>nomatch q)
theorem key_rl(a:Str)(b:Int):decide ((Sum.inr a:Key)=Sum.inl b)=false:=decide_eq_false (fun q=>nomatch q)
noncomputable def mixKind(prog:Program)(w:World):PySem.KeyKind prog w Key where
 is:=keyIs
 hash:=keyH w
 inj:=fun v a b ha hb=>by
  rcases keyIs_shape ha with ⟨i,t,rfl,rfl⟩ | ⟨x,t,rfl,rfl⟩
  ·rcases keyIs_shape hb with ⟨j,u,rfl,e⟩ | ⟨y,u,rfl,e⟩
   ·injection e with e1 _;rw[e1]
   ·exact nomatch e
  ·rcases keyIs_shape hb with ⟨j,u,rfl,e⟩ | ⟨y,u,rfl,e⟩
   ·exact nomatch e
   ·injection e with e1 _;rw[e1]
 byValue:=fun k v h=>by
  rcases keyIs_shape h with ⟨i,t,rfl,rfl⟩ | ⟨x,t,rfl,rfl⟩<;>rfl
 pyHash:=fun hv h=>by
  rcases keyIs_shape hv with ⟨i,t,rfl,rfl⟩ | ⟨x,t,rfl,rfl⟩
  ·exact wpAny_pyHash_int h
  ·exact wpAny_pyHash_str h
 eqBool:=fun hu hv h=>by
  rcases keyIs_shape hu with ⟨i,t,rfl,rfl⟩ | ⟨x,t,rfl,rfl⟩
  ·rcases keyIs_shape hv with ⟨j,u,rfl,rfl⟩ | ⟨y,u,rfl,rfl⟩
   ·rw[key_ll]at h;exact wpAny_eqBool_int h
   ·rw[key_lr]at h;exact SeqAt.EqAt.int_str i t y u _ _ _ _ h
  ·rcases keyIs_shape hv with ⟨j,u,rfl,rfl⟩ | ⟨y,u,rfl,rfl⟩
   ·rw[key_rl]at h;exact SeqAt.EqAt.str_int x t j u _ _ _ _ h
   ·rw[key_rr]at h;exact wpAny_eqBool_str h
 «strs» := fun k x t v h=>by
  rcases keyIs_shape h with ⟨i,u,rfl,e⟩ | ⟨y,u,rfl,e⟩
  ·exact nomatch e
  ·injection e with e1 _
   subst e1
   cases v<;>rfl
theorem mixKind_int(prog:Program)(w:World)(i:Int)(t:Tok):(mixKind prog w).is (.inl i) (.int i t)=true:=keyIs_int i t
theorem mixKind_str(prog:Program)(w:World)(x:Str)(t:Tok):(mixKind prog w).is (.inr x) (.str x t)=true:=keyIs_str x t
end L2
namespace L2
open PySem PySem.Spec PyProof.Rows
inductive V where
 | non | bl (b:Bool) | int (i:Int) | str (x:Str) | byt (b:Array UInt8) | flt (b:UInt64) | ref (a:Addr) | ty (n:String)
 deriving DecidableEq
noncomputable def RelV:V->Value->Prop
 | .non,u=>u=Value.none
 | .bl b,u=>u=Value.bool b
 | .int i,u=>∃ t,u=Value.int i t
 | .str x,u=>∃ t,u=Value.str x t
 | .byt b,u=>∃ t,u=Value.bytes b t
 | .flt b,u=>∃ t,u=Value.float b t
 | .ref a,u=>u=Value.ref a
 | .ty n,u=>u=Value.type n
noncomputable abbrev Vals:List V->List Value->Prop:=Paired RelV
theorem Vals.length{xs:List V}{us:List Value}(r:Vals xs us):xs.length=us.length:=Paired.length r
theorem Vals.get:∀ {xs:List V} {us:List Value} {i:Nat} {x:V},Vals xs us->xs[i]?=some x->∃ u,us[i]?=some u/\RelV x u
 | _,_,_,_,.nil,e=>by simp at e
 | _,_,0,_,.cons r _,e=>by simp at e;subst e;exact⟨_,rfl,r⟩
 | _,_,i + 1,x,.cons _ t,e=>by
  obtain⟨u,h1,h2⟩:=Vals.get (i:=i) (x:=x) t (by simpa using e)
  exact⟨u,by simpa using h1,h2⟩
theorem Vals.set{x:V}{u:Value}(r:RelV x u):∀ {xs:List V} {us:List Value} (i:Nat),Vals xs us->Vals (xs.set i x) (us.set i u)
 | _,_,_,.nil=>.nil
 | _,_,0,.cons _ t=>.cons r t
 | _,_,i + 1,.cons q t=>.cons q (Vals.set r i t)
theorem Vals.append:∀ {xs ys:List V} {us ws:List Value},Vals xs us->Vals ys ws->Vals (xs++ys) (us++ws)
 | _,_,_,_,.nil,s=>s
 | _,_,_,_,.cons r t,s=>.cons r (Vals.append t s)
theorem Vals.take:∀ {xs:List V} {us:List Value} (n:Nat),Vals xs us->Vals (xs.take n) (us.take n)
 | _,_,0,_=>.nil
 | _,_,_ + 1,.nil=>.nil
 | _,_,n + 1,.cons r t=>.cons r (Vals.take n t)
theorem Vals.drop:∀ {xs:List V} {us:List Value} (n:Nat),Vals xs us->Vals (xs.drop n) (us.drop n)
 | _,_,0,r=>r
 | _,_,_ + 1,.nil=>.nil
 | _,_,n + 1,.cons _ t=>Vals.drop n t
noncomputable def RelO:Option V->Option Value->Prop
 | some v,some u=>RelV v u
 | none,none=>True
 | _,_=>False
noncomputable def KV{κ:Type}:List (κ×V)->List (κ×Value)->Prop:=Paired fun (p:κ×V) (q:κ×Value)=>p.1=q.1/\RelV p.2 q.2
noncomputable def kV:Key->V
 | .inl i=>.int i
 | .inr x=>.str x
inductive HO where
 | lst (xs:List V)
 | tup (xs:List V)
 | dK (kvs:List (Key×V)) | dT (kvs:List (List Key×V))
 | set (S:Int->Bool) (n:Nat)
 | ins (C dx:Addr) (fs:List (Str×V))
 | own (x:Addr)
 | xd (fs:List (Str×V))
 | met (f x:Addr)
 | rng (lo hi:Int)
 | frz (o:Obj) (u:HO)
 | tbl (ps:Array Value)
 | ext (φ:Heap->Prop)
noncomputable abbrev Hp:=Addr->Option HO
noncomputable def upd(H:Hp)(a:Addr)(o:HO):Hp:=fun b=>if b=a then some o else H b
theorem upd_same{H:Hp}{a:Addr}{o:HO}:upd H a o a=some o:=by unfold upd;rw[if_pos rfl]
theorem upd_ne{H:Hp}{a b:Addr}{o:HO}(h:b≠a):upd H a o b=H b:=by unfold upd;rw[if_neg h]
theorem ne_of{H:Hp}{a b:Addr}{o u:HO}(h:H a=some o)(h':H b=some u)(d:o≠u):a≠b:=by
 intro e;subst e;rw[h]at h';exact d (Option.some.inj h')
theorem ne_of_none{H:Hp}{a b:Addr}{o:HO}(h:H a=some o)(h':H b=none):a≠b:=by
 intro e;subst e;rw[h]at h';cases h'
section
variable(P:Program)(w:World)
noncomputable def ObjOk(H:Hp)(h:Heap)(a:Addr):HO->Prop
 | .lst xs=>xs.length<=sizeLine/\∃ (its:List Value) (n:Nat),Vals xs its/\h.get? a=some { cls:=.type "list",data:=.seq its.toArray n }
 | .tup xs=>xs.length<=sizeLine/\∃ its:List Value,Vals xs its/\IsTup h a its.toArray
 | .dK kvs=>kvs.length<=sizeLine/\(a == sysModules)=false/\∃ vs,KV kvs vs/\h.DictOf (mixKind P w) a vs
 | .dT kvs=>kvs.length<=sizeLine/\(a == sysModules)=false/\∃ xs:List (List Key×Addr×Value),
   Paired (fun (p:List Key×V) (q:List Key×Addr×Value)=>p.1=q.1/\H q.2.1=some (.tup (p.1.map kV))/\RelV p.2 q.2.2) kvs xs /\
   ∃ o es ep,h.get? a=some o/\o.ExactDict/\o.data=.dict es ep/\es.toList=xs.map (entryOfKey (tupleKind (mixKind P w)))/\(xs.map (·.1)).Nodup
 | .set S n=>h.SetOf (intKind P w) a S n
 | .ins C dx fs=>H dx=some (.own a)/\fs.length<=1000/\dx≠a/\h.get? a=some (PySem.W.instObj C dx) /\
   ∃ mA,h.Ns1 dx mA/\(∀ f,RelO (fs.lookup f) (mA f))/\PySem.Within mA (fs.map (·.1))
 | .own _=>∃ o,h.get? a=some o
 | .xd fs=>∃ mA,h.Ns1 a mA/\∀ f,RelO (fs.lookup f) (mA f)
 | .rng lo hi=>∃ t u v,h.get? a=some { cls:=.type "range",data:=.fields #[.int lo t,.int hi u,.int 1 v] }
 | .frz o u=>h.get? a=some o/\ObjOk H h a u
 | .tbl ps=>h.get? a=some { cls:=.none,data:=.fields ps }
 | .met f x=>h.get? a=some (PySem.W.methodObj (.ref f) (.ref x))
 | .ext φ=>φ h/\(∃ o,h.get? a=some o)/\∀ h1 h2:Heap,φ h1->(∀ o,h1.get? a=some o->h2.get? a=some o)->φ h2
noncomputable def HOk(H:Hp)(h:Heap):Prop:=∀ a o,H a=some o->ObjOk P w H h a o
end
section
variable{P:Program}{w:World}{H H':Hp}{h h':Heap}{a:Addr}{o:HO}
theorem ObjOk.lt(x:ObjOk P w H h a o):a < h.objs.size:=by
 cases o with
 | lst xs=>obtain⟨_,_,_,_,e⟩:=x;exact Heap.lt_size e
 | tup xs=>obtain⟨_,_,_,p⟩:=x;exact p.lt
 | dK kvs=>obtain⟨_,_,_,_,o,_,_,e,_⟩:=x;exact Heap.lt_size e
 | dT kvs=>obtain⟨_,_,_,_,o,_,_,e,_⟩:=x;exact Heap.lt_size e
 | set S n=>obtain⟨o,_,_,_,e,_⟩:=x;exact Heap.lt_size e
 | ins C dx fs=>obtain⟨_,_,_,e,_⟩:=x;exact Heap.lt_size e
 | own y=>obtain⟨_,e⟩:=x;exact Heap.lt_size e
 | xd fs=>obtain⟨_,⟨_,_,_,e,_⟩,_⟩:=x;exact Heap.lt_size e
 | rng lo hi=>obtain⟨_,_,_,e⟩:=x;exact Heap.lt_size e
 | frz ob u=>obtain⟨e,_⟩:=x;exact Heap.lt_size e
 | tbl ps=>exact Heap.lt_size (show h.get? a=some _ from x)
 | met f y=>exact Heap.lt_size (show h.get? a=some _ from x)
 | ext φ=>obtain⟨_,⟨_,e⟩,_⟩:=x;exact Heap.lt_size e
theorem Paired.mapP{α β:Type}{F G:α->β->Prop}:∀ {l₁:List α} {l₂:List β},Paired F l₁ l₂->(∀ a b,F a b->G a b)->Paired G l₁ l₂
 | _,_,.nil,_=>.nil
 | _,_,.cons r t,f=>.cons (f _ _ r) (Paired.mapP t f)
theorem ObjOk.stay(x:ObjOk P w H h a o)(k:∀ b u,(b=a\/H b=some (.own a))->h.get? b=some u->h'.get? b=some u)
  (ho:∀ b,H b=some (.own a)->H' b=some (.own a)) (ht:∀ b xs,H b=some (.tup xs)->H' b=some (.tup xs)):ObjOk P w H' h' a o:=by
 induction o with
 | lst xs=>obtain⟨z,its,n,r,e⟩:=x;exact⟨z,its,n,r,k _ _ (.inl rfl) e⟩
 | tup xs=>obtain⟨z,its,r,ob,e,c⟩:=x;exact⟨z,its,r,ob,k _ _ (.inl rfl) e,c⟩
 | dK kvs=>obtain⟨z,y,vs,r,ob,es,ep,e,c⟩:=x;exact⟨z,y,vs,r,ob,es,ep,k _ _ (.inl rfl) e,c⟩
 | dT kvs=>
  obtain⟨z,y,xs,r,ob,es,ep,e,c⟩:=x
  exact⟨z,y,xs,Paired.mapP r fun p q z=>⟨z.1,ht _ _ z.2.1,z.2.2⟩,ob,es,ep,k _ _ (.inl rfl) e,c⟩
 | set S n=>obtain⟨ob,es,ep,t,e,c⟩:=x;exact⟨ob,es,ep,t,k _ _ (.inl rfl) e,c⟩
 | ins C dx fs=>
  obtain⟨d,z,ne,e,mA,⟨od,es,ep,e2,c⟩,r⟩:=x
  exact⟨ho _ d,z,ne,k _ _ (.inl rfl) e,mA,⟨od,es,ep,k _ _ (.inr d) e2,c⟩,r⟩
 | own y=>obtain⟨ob,e⟩:=x;exact⟨ob,k _ _ (.inl rfl) e⟩
 | xd fs=>obtain⟨mA,⟨od,es,ep,e,c⟩,r⟩:=x;exact⟨mA,⟨od,es,ep,k _ _ (.inl rfl) e,c⟩,r⟩
 | rng lo hi=>obtain⟨t,u,v,e⟩:=x;exact⟨t,u,v,k _ _ (.inl rfl) e⟩
 | frz ob u ih=>obtain⟨e,q⟩:=x;exact⟨k _ _ (.inl rfl) e,ih q⟩
 | tbl ps=>
  have e:h.get? a=some { cls:=.none,data:=.fields ps }:=x
  show h'.get? a=some { cls:=.none,data:=.fields ps }
  exact k a _ (.inl rfl) e
 | met f y=>
  have e:h.get? a=some (PySem.W.methodObj (.ref f) (.ref y)):=x
  show h'.get? a=some (PySem.W.methodObj (.ref f) (.ref y))
  exact k a _ (.inl rfl) e
 | ext φ=>obtain⟨p,⟨o,e⟩,st⟩:=x;exact⟨st _ _ p fun o q=>k _ _ (.inl rfl) q,⟨o,k _ _ (.inl rfl) e⟩,st⟩
theorem HOk.lt(x:HOk P w H h)(e:H a=some o):a < h.objs.size:=(x a o e).lt
theorem HOk.fresh(x:HOk P w H h)(e:h.objs.size<=a):H a=none:=by
 cases q:H a with
 | none=>rfl
 | some u=>exact absurd (Nat.lt_of_lt_of_le (x.lt q) e) (Nat.lt_irrefl _)
theorem HOk.kept(x:HOk P w H h)(k:∀ b u,h.get? b=some u->h'.get? b=some u):HOk P w H h':=fun a o e=>
 (x a o e).stay (fun b u _ q=>k b u q) (fun _ q=>q) fun _ _ q=>q
theorem HOk.laid(x:HOk P w H h)(k:∀ b u,h.get? b=some u->h'.get? b=some u)(hp:h.objs.size<=a)(new:ObjOk P w (upd H a o) h' a o):HOk P w (upd H a o) h':=fun b u e=>by
 have hn:=x.fresh hp
 by_cases hb:b=a
 ·subst hb;rw[upd_same]at e;cases e;exact new
 ·rw[upd_ne hb]at e
  exact(x b u e).stay (fun c v _ q=>k c v q) (fun c q=>by rw[upd_ne (ne_of_none q hn)];exact q) fun c xs q=>by rw[upd_ne (ne_of_none q hn)];exact q
end
noncomputable def Rd(H:Hp)(a:Addr)(u:HO):Prop:=H a=some u\/∃ o,H a=some (.frz o u)
theorem Rd.of{H:Hp}{a:Addr}{u:HO}(h:H a=some u):Rd H a u:=.inl h
theorem Rd.ok{P:Program}{w:World}{H:Hp}{h:Heap}{a:Addr}{u:HO}(r:Rd H a u)(x:HOk P w H h):ObjOk P w H h a u:=by
 rcases r with r | ⟨o,r⟩
 ·exact x a u r
 ·obtain⟨_,q⟩:=x a _ r
  exact q
noncomputable def Mut:Option HO->Prop
 | some (.lst _)=>True
 | some (.dK _)=>True
 | some (.dT _)=>True
 | some (.set _ _)=>True
 | some (.ins _ _ _)=>True
 | some (.ext _)=>True
 | _=>False
section
variable{P:Program}{w:World}{H:Hp}{h h':Heap}{x e:Addr}{o':HO}
theorem HOk.write(ok:HOk P w H h)(mu:Mut (H x))(he:e=x\/H e=some (.own x))(k:∀ b u,b≠e->h.get? b=some u->h'.get? b=some u)(heo:∃ u,h'.get? e=some u)
  (new:ObjOk P w (upd H x o') h' x o'):HOk P w (upd H x o') h':=fun b u q=>by
 have nown:∀ c y,H c=some (.own y)->c≠x:=fun c y r z=>by subst z;rw[r]at mu;exact mu
 have ntup:∀ c xs,H c=some (.tup xs)->c≠x:=fun c xs r z=>by subst z;rw[r]at mu;exact mu
 by_cases hb:b=x
 ·subst hb;rw[upd_same]at q;cases q;exact new
 ·rw[upd_ne hb]at q
  by_cases hbe:b=e
  ·have q':H b=some (.own x):=by
    rcases he with z | z
    ·exact absurd (hbe.trans z) hb
    ·rw[hbe];exact z
   rw[q]at q';cases q'
   obtain⟨v,hv⟩:=heo
   exact⟨v,by rw[hbe];exact hv⟩
  ·refine(ok b u q).stay (fun c v hc r=>k c v ?_ r) (fun c r=>by rw[upd_ne (nown c b r)];exact r) fun c xs r=>by rw[upd_ne (ntup c xs r)];exact r
   rcases hc with rfl | hc
   ·exact hbe
   ·rintro rfl
    rcases he with z | z
    ·exact nown c b hc z
    ·rw[hc]at z;cases z;exact hb rfl
end
structure Un(fs ex:List Addr)(H H':Hp)(h h':Heap):Prop where
 keep:∀ b o,h.get? b=some o->H b=none->b∉fs->b∉ex->h'.get? b=some o
 slot:∀ b o,h.get? b=some o->H b=none->b∈fs->b∉ex->∃ sl,h'.get? b=some { o with slots:=sl }
 free:∀ b o,h.get? b=some o->H b=none->b∉ex->H' b=none
 there:∀ b o,h.get? b=some o->b∉ex->∃ o',h'.get? b=some o'
 tups:∀ b xs,H b=some (.tup xs)->H' b=some (.tup xs)
 frzs:∀ b o u,H b=some (.frz o u)->H' b=some (.frz o u)
 tbls:∀ b ps,H b=some (.tbl ps)->∃ more,H' b=some (.tbl (ps++more))
section
variable{fs fs' ex ex':List Addr}{H H1 H2:Hp}{h h1 h2 h':Heap}{a x e:Addr}{o:HO}
theorem Un.any(u:Un fs ex H H1 h h1){b:Addr}{ob:Obj}(q:h.get? b=some ob)(n:H b=none)(hx:b∉ex):∃ sl,h1.get? b=some { ob with slots:=sl }:=by
 by_cases hb:b∈fs
 ·exact u.slot b ob q n hb hx
 ·exact⟨ob.slots,u.keep b ob q n hb hx⟩
theorem Un.trans(a:Un fs ex H H1 h h1)(b:Un fs ex H1 H2 h1 h2):Un fs ex H H2 h h2 where
 keep:=fun c ob q n hc hx=>b.keep c ob (a.keep c ob q n hc hx) (a.free c ob q n hx) hc hx
 slot:=fun c ob q n hc hx=>by
  obtain⟨sl,e1⟩:=a.slot c ob q n hc hx
  obtain⟨sl',e2⟩:=b.slot c _ e1 (a.free c ob q n hx) hc hx
  exact⟨sl',e2⟩
 free:=fun c ob q n hx=>by
  obtain⟨o',e1⟩:=a.there c ob q hx
  exact b.free c o' e1 (a.free c ob q n hx) hx
 there:=fun c ob q hx=>by
  obtain⟨o',e1⟩:=a.there c ob q hx
  exact b.there c o' e1 hx
 tups:=fun c xs q=>b.tups c xs (a.tups c xs q)
 frzs:=fun c ob xs q=>b.frzs c ob xs (a.frzs c ob xs q)
 tbls:=fun c ps q=>by
  obtain⟨m1,e1⟩:=a.tbls c ps q
  obtain⟨m2,e2⟩:=b.tbls c _ e1
  exact⟨m1++m2,by rw[e2,Array.append_assoc]⟩
theorem Un.kept(k:∀ b u,h.get? b=some u->h'.get? b=some u):Un fs ex H H h h':=
 ⟨fun b ob q _ _ _=>k b ob q,fun b ob q _ _ _=>⟨ob.slots,k b ob q⟩,fun _ _ _ n _=>n,fun b ob q _=>⟨ob,k b ob q⟩,fun _ _ q=>q,fun _ _ _ q=>q,fun _ ps q=>⟨#[],by rw[q];simp⟩⟩
theorem Un.refl:Un fs ex H H h h:=Un.kept fun _ _ q=>q
theorem Un.laid(k:∀ b u,h.get? b=some u->h'.get? b=some u)(hp:h.objs.size<=a)(hn:H a=none):Un fs ex H (upd H a o) h h' where
 keep:=fun b u q _ _ _=>k b u q
 slot:=fun b u q _ _ _=>⟨u.slots,k b u q⟩
 free:=fun b u q n _=>by rw[upd_ne (Nat.ne_of_lt (Nat.lt_of_lt_of_le (Heap.lt_size q) hp))];exact n
 there:=fun b u q _=>⟨u,k b u q⟩
 tups:=fun b xs q=>by rw[upd_ne (ne_of_none q hn)];exact q
 frzs:=fun b u xs q=>by rw[upd_ne (ne_of_none q hn)];exact q
 tbls:=fun b ps q=>⟨#[],by rw[upd_ne (ne_of_none q hn),q];simp⟩
theorem Un.write(mu:Mut (H x))(he:e=x\/H e=some (.own x))(k:∀ b u,b≠e->h.get? b=some u->h'.get? b=some u)(heo:∃ u,h'.get? e=some u):Un fs ex H (upd H x o) h h':=by
 have hx:∀ b,H b=none->b≠x:=fun b n z=>by subst z;rw[n]at mu;exact mu
 have hb:∀ b,H b=none->b≠e:=fun b n z=>by
  subst z
  rcases he with r | r
  ·exact hx b n r
  ·rw[n]at r;cases r
 have hm:∀ b u,H b=some u->¬ Mut (some u)->b≠x:=fun b u q nm z=>by subst z;rw[q]at mu;exact nm mu
 refine⟨fun b u q n _ _=>k b u (hb b n) q,fun b u q n _ _=>⟨u.slots,k b u (hb b n) q⟩,fun b u q n _=>by rw[upd_ne (hx b n)];exact n,fun b u q _ => ?_,
  fun b xs q=>by rw[upd_ne (hm b _ q fun z=>z)];exact q,fun b u xs q=>by rw[upd_ne (hm b _ q fun z=>z)];exact q,fun b ps q=>⟨#[],by rw[upd_ne (hm b _ q fun z=>z),q];simp⟩⟩
 by_cases hbe:b=e
 ·subst hbe;exact heo
 ·exact⟨u,k b u hbe q⟩
theorem Un.mono(u:Un fs ex H H1 h h1)(hs:∀ b∈fs,b∈fs')(hx:∀ b∈ex,b∈ex'):Un fs' ex' H H1 h h1:=
 ⟨fun b ob q n hb he=>u.keep b ob q n (fun z=>hb (hs b z)) fun z=>he (hx b z),fun _ _ q n _ he=>u.any q n fun z=>he (hx _ z),fun b ob q n he=>u.free b ob q n fun z=>he (hx b z),fun b ob q he=>u.there b ob q fun z=>he (hx b z),u.tups,u.frzs,u.tbls⟩
end
noncomputable def trk(h:Heap)(H:Hp):List Addr:=(List.range h.objs.size).filter fun a=>(H a).isSome
noncomputable def hidT(h:Heap)(H:Hp):Heap:=PySem.W.hideAll h (trk h H)
theorem hidT_size(h:Heap)(H:Hp):(hidT h H).objs.size=h.objs.size:=PySem.W.hideAll_size _ _
theorem hidT_get{h:Heap}{H:Hp}{b:Addr}{o:Obj}(e:h.get? b=some o)(n:H b=none):(hidT h H).get? b=some o:=
 PySem.W.hideAll_get _ e fun hm=>by
  have q:(H b).isSome=true:=(List.mem_filter.mp hm).2
  rw[n]at q;simp at q
theorem of_hidT{h:Heap}{H:Hp}{b:Addr}{o:Obj}(e:(hidT h H).get? b=some o):h.get? b=some o/\H b=none:=by
 have e':h.get? b=some o:=PySem.W.of_hideAll (trk h H) e
 refine⟨e',?_⟩
 cases q:H b with
 | none=>rfl
 | some x=>
  have hm:b∈trk h H:=List.mem_filter.mpr ⟨List.mem_range.mpr (Heap.lt_size e'),by simp[q]⟩
  have z:(hidT h H).get? b=none:=PySem.W.hideAll_none (trk h H) hm
  rw[z]at e;cases e
noncomputable def allNews(g h:Heap)(L:Addr):List (Addr×Obj):=(List.range h.objs.size).filterMap fun a=>if a=L\/(g.get? a).isSome=true then none else (h.get? a).map fun o=>(a,o)
noncomputable def rest(g h:Heap)(L d:Addr):List (Addr×Obj):=(allNews g h L).filter fun p=>decide (p.1≠d)
end L2
namespace L2
open PySem PySem.Spec PyProof.Rows
structure Mod(K:PySem.W.Frag)(mg:Str->Option Value)(base:Heap):Prop where
 kin:K.In base
 glob:base.Ns mainGlobals mg
 blt:∃ mb,base.Ns builtinsNs mb/\∀ x:Str,x≠"__name__"->mb x=bootBuiltins x
 nolimit:base.NoLimit
structure Cx where
 prog:Program
 w:World
 K:PySem.W.Frag
 mg:Str->Option Value
 base:Heap
 A:Around
 N:List Str
 s₀:Shared
 H₀:Hp
 env:Env
 outer:List Env
 stack:List Env
 ex:List Addr
 fn:Str->Bool
 calm:Bool
 pn:List (Addr×Obj)
 xe:Value->Shared->Prop
noncomputable def frs(l:List Env):List Addr:=l.filterMap (·.frame)
noncomputable abbrev Cx.fs(X:Cx):List Addr:=frs X.outer
noncomputable def Vis(sc:Scope)(x:Str):Prop:=sc.names.lookup x=some .local\/sc.names.lookup x=some .cell\/sc.names.lookup x=some .free
noncomputable def Loc(sc:Scope)(x:Str):Prop:=sc.names.lookup x=some .local\/sc.names.lookup x=some .cell
noncomputable def Look(env:Env)(h:Heap)(m:Str->Option Value)(x:Str)(u:Value):Prop:=
 (env.kindOf x=some .local/\m x=some u)\/((env.kindOf x=some .cell\/env.kindOf x=some .free)/\∃ c,env.cells.lookup x=some c/\h.IsCell c (some u))
structure Cx.Ok(X:Cx):Prop where
 mod:Mod X.K X.mg X.base
 kind:X.env.scope.kind=.function
 glob:X.env.globals=mainGlobals
 blt:X.env.builtins=builtinsNs
 above:X.s₀.heap.objs.size<=X.env.locals
 inj:∀ x y c,X.env.cells.lookup x=some c->X.env.cells.lookup y=some c->x=y
 has:∀ x,(X.env.kindOf x=some .cell\/X.env.kindOf x=some .free)->∃ c,X.env.cells.lookup x=some c
 cab:∀ x c,X.fn x=true->X.env.cells.lookup x=some c->X.s₀.heap.objs.size<=c
 hd:X.calm=true->X.A.handled=none
 frames:X.A.frames=some X.stack
 stk:X.stack=X.outer\/(X.stack=X.env::X.outer/\X.env.frame=some X.env.locals)
 exf:∀ b∈X.ex,b≠X.env.locals/\∀ x c,X.env.cells.lookup x=some c->c≠b
 bs:∀ b o,X.base.get? b=some o->X.s₀.heap.get? b=some o/\X.H₀ b=none
 bsz:X.base.objs.size<=X.s₀.heap.objs.size
 noex:∀ b o,X.base.get? b=some o->b∉X.ex
 exfs:∀ b∈X.ex,b∉X.fs
 funs:X.s₀.heap.FunFrames X.base X.outer
 frf:∀ b∈X.fs,X.H₀ b=none
structure Inv(X:Cx)(pins:List (Addr×Obj))(σ:List (Option V))(H:Hp)(s:Shared):Prop where
 ok:X.Ok
 os:s.os=X.s₀.os
 bare:AllBare s.gens
 base:Un X.fs X.ex X.H₀ H X.s₀.heap s.heap
 loc:∃ m,s.heap.Ns X.env.locals m/\∀ (i:Nat) (x:Str) (v:V),X.N[i]?=some x->σ[i]?=some (some v)->Vis X.env.scope x->∃ u,RelV v u/\Look X.env s.heap m x u
 cell:∀ x c,X.env.cells.lookup x=some c->∃ v,s.heap.IsCell c v
 free:H X.env.locals=none
 freeC:∀ x c,X.env.cells.lookup x=some c->(H c=none\/∃ o u,H c=some (.frz o u))/\(X.fn x=true->H c=none)
 pin:∀ p∈X.pn++pins,s.heap.get? p.1=some p.2/\H p.1=none/\p.1≠X.env.locals/\p.1∉X.fs/\∀ v,p.2.data≠.cell v
 hok:HOk X.prog X.w H s.heap
 len:σ.length=X.N.length
section
variable{X:Cx}{pins:List (Addr×Obj)}{σ:List (Option V)}{H H':Hp}{s:Shared}{h':Heap}
theorem Cx.Ok.nofr(ok:X.Ok){b:Addr}{o:Obj}(e:X.base.get? b=some o):b∉X.fs:=fun hb=>by
 have:=(ok.funs.mem hb).1
 rw[e]at this;cases this
theorem Inv.bs(I:Inv X pins σ H s):∀ b o,X.base.get? b=some o->s.heap.get? b=some o/\H b=none:=fun b o e=>
 ⟨I.base.keep b o (I.ok.bs b o e).1 (I.ok.bs b o e).2 (I.ok.nofr e) (I.ok.noex b o e),I.base.free b o (I.ok.bs b o e).1 (I.ok.bs b o e).2 (I.ok.noex b o e)⟩
theorem Inv.bk(I:Inv X pins σ H s):∀ b o,X.base.get? b=some o->s.heap.get? b=some o:=fun b o e=>(I.bs b o e).1
theorem Inv.mod(I:Inv X pins σ H s):Mod X.K X.mg X.base:=I.ok.mod
theorem Inv.kIn(I:Inv X pins σ H s):X.K.In s.heap:=I.ok.mod.kin.keeps I.bk
theorem Inv.nolimit(I:Inv X pins σ H s):s.heap.NoLimit:=I.ok.mod.nolimit.keeps I.bk
theorem Inv.fr(I:Inv X pins σ H s):∃ m,Fr X.base X.env.locals s.heap m:=
 let ⟨m,hn,_⟩:=I.loc
 ⟨m,hn,I.bk,Nat.le_trans I.ok.bsz I.ok.above⟩
theorem Inv.lt(I:Inv X pins σ H s):X.env.locals < s.heap.objs.size:=let ⟨_,hn,_⟩:=I.loc;hn.lt
theorem Inv.sz(I:Inv X pins σ H s):X.s₀.heap.objs.size<=s.heap.objs.size:=Nat.le_trans I.ok.above (Nat.le_of_lt I.lt)
theorem Inv.nofs(I:Inv X pins σ H s){a:Addr}(h:s.heap.objs.size<=a):a∉X.fs:=fun hb=>by
 obtain⟨_,o,ho,_⟩:=I.ok.funs.mem hb
 exact absurd (Nat.lt_of_lt_of_le (Heap.lt_size ho) (Nat.le_trans I.sz h)) (Nat.lt_irrefl _)
theorem Inv.cne(I:Inv X pins σ H s):∀ x c,X.env.cells.lookup x=some c->c≠X.env.locals:=fun x c e z=>by
 obtain⟨v,o,ho,hd⟩:=I.cell x c e
 obtain⟨m,⟨o',es,ep,ho',hd',_⟩,_⟩:=I.loc
 rw[z,ho']at ho;cases ho;rw[hd']at hd;cases hd
theorem Inv.funs(I:Inv X pins σ H s):s.heap.FunFrames X.base X.outer:=by
 have all:∀ (l:List Env),(∀ b∈frs l,b∈X.fs)->X.s₀.heap.FunFrames X.base l->s.heap.FunFrames X.base l:=by
  intro l
  induction l with
  | nil=>intro _ _;trivial
  | cons env r ih=>
   intro hs hl
   obtain⟨hk,⟨L,o,hf,hn,ho,hd⟩,hr⟩:=hl
   have hL:L∈X.fs:=hs L (by unfold frs;rw[List.filterMap_cons,hf];exact List.mem_cons_self)
   obtain⟨sl,e⟩:=I.base.slot L o ho (I.ok.frf L hL) hL fun z=>I.ok.exfs L z hL
   exact⟨hk,⟨L,_,hf,hn,e,hd⟩,ih (fun b hb=>hs b (by unfold frs;rw[List.filterMap_cons,hf];exact List.mem_cons_of_mem _ hb)) hr⟩
 exact all X.outer (fun _ hb=>hb) I.ok.funs
theorem Inv.stack(I:Inv X pins σ H s):s.heap.FunFrames X.base X.stack:=by
 rcases I.ok.stk with e | ⟨e,hf⟩
 ·rw[e];exact I.funs
 ·rw[e]
  obtain⟨m,hn,_⟩:=I.loc
  refine .cons (by rw[I.ok.kind];decide) hf hn ?_ I.funs
  exact Heap.get?_none_of_le (Nat.le_trans I.ok.bsz I.ok.above)
theorem Inv.stkSub(I:Inv X pins σ H s):∀ b∈frs X.stack,b∈X.env.locals::X.fs:=fun b hb=>by
 rcases I.ok.stk with e | ⟨e,hf⟩
 ·rw[e]at hb;exact List.mem_cons_of_mem _ hb
 ·rw[e]at hb
  unfold frs at hb
  rw[List.filterMap_cons,hf]at hb
  exact hb
theorem Inv.stkFree(I:Inv X pins σ H s):∀ b∈frs X.stack,H b=none:=fun b hb=>by
 rcases List.mem_cons.mp (I.stkSub b hb) with e | hb
 ·rw[e];exact I.free
 ·obtain⟨_,o,ho,_⟩:=I.ok.funs.mem hb
  exact I.base.free b o ho (I.ok.frf b hb) fun z=>I.ok.exfs b z hb
theorem Inv.step{g':Array GenState}{t':Nat}{d':Drawn}{ch:List Addr}(I:Inv X pins σ H s)
  (hch:∀ b∈ch,(b∈X.ex\/X.s₀.heap.objs.size<=b)/\b≠X.env.locals/\(∀ x c,X.env.cells.lookup x=some c->c≠b)/\∀ p∈X.pn++pins,p.1≠b)
  (keep:∀ b o,b≠X.env.locals->b∉X.fs->b∉ch->s.heap.get? b=some o->H b=none->h'.get? b=some o)
  (slot:∀ b o,b≠X.env.locals->b∈X.fs->b∉ch->s.heap.get? b=some o->H b=none->∃ sl,h'.get? b=some { o with slots:=sl }) (free:∀ b o,b∉ch->s.heap.get? b=some o->H b=none->H' b=none)
  (there:∀ b o,b∉ch->s.heap.get? b=some o->∃ o',h'.get? b=some o')
  (tups:∀ b xs,H b=some (.tup xs)->H' b=some (.tup xs)) (frzs:∀ b o u,H b=some (.frz o u)->H' b=some (.frz o u)) (tbls:∀ b ps,H b=some (.tbl ps)->∃ more,H' b=some (.tbl (ps++more)))
  (ns:∀ m,s.heap.Ns X.env.locals m->h'.Ns X.env.locals m) (hok:HOk X.prog X.w H' h') (hg:AllBare g') :
  Inv X pins σ H' { s with heap:=h',gens:=g',drawn:=d',toks:=t' }:=by
 have neL:∀ b o,X.s₀.heap.get? b=some o->b≠X.env.locals:=fun b o e=>Nat.ne_of_lt (Nat.lt_of_lt_of_le (Heap.lt_size e) I.ok.above)
 have neC:∀ b o,X.s₀.heap.get? b=some o->b∉X.ex->b∉ch:=fun b o e hx hb=>by
  rcases(hch b hb).1 with z | z
  ·exact hx z
  ·exact absurd (Nat.lt_of_lt_of_le (Heap.lt_size e) z) (Nat.lt_irrefl _)
 have cellK:∀ x c,X.env.cells.lookup x=some c->∀ v,s.heap.IsCell c v->h'.IsCell c v:=fun x c e v ⟨o,ho,hd⟩=>by
  have nch:c∉ch:=fun z=>(hch c z).2.2.1 x c e rfl
  rcases(I.freeC x c e).1 with hn | ⟨oz,uz,hz⟩
  ·by_cases hc:c∈X.fs
   ·obtain⟨sl,q⟩:=slot c o (I.cne x c e) hc nch ho hn
    exact⟨_,q,hd⟩
   ·exact⟨o,keep c o (I.cne x c e) hc nch ho hn,hd⟩
  ·have e1:s.heap.get? c=some oz:=(I.hok c _ hz).1
   have e2:h'.get? c=some oz:=(hok c _ (frzs c oz uz hz)).1
   rw[ho]at e1;cases e1
   exact⟨o,e2,hd⟩
 refine⟨I.ok,I.os,hg,⟨fun b o e n hb hx => ?_,fun b o e n hb hx => ?_,fun b o e n hx => ?_,fun b o e hx => ?_,fun b xs e=>tups b xs (I.base.tups b xs e),fun b o xs e=>frzs b o xs (I.base.frzs b o xs e),fun b ps e => ?_⟩,?_,fun x c e => ?_,?_,fun x c e => ?_,fun p hp => ?_,hok,I.len⟩
 ·exact keep b o (neL b o e) hb (neC b o e hx) (I.base.keep b o e n hb hx) (I.base.free b o e n hx)
 ·obtain⟨sl,e1⟩:=I.base.slot b o e n hb hx
  obtain⟨sl',e2⟩:=slot b _ (neL b o e) hb (neC b o e hx) e1 (I.base.free b o e n hx)
  exact⟨sl',e2⟩
 ·obtain⟨o',e1⟩:=I.base.there b o e hx
  exact free b o' (neC b o e hx) e1 (I.base.free b o e n hx)
 ·obtain⟨o',e1⟩:=I.base.there b o e hx
  exact there b o' (neC b o e hx) e1
 ·obtain⟨m1,e1⟩:=I.base.tbls b ps e
  obtain⟨m2,e2⟩:=tbls b _ e1
  exact⟨m1++m2,by rw[e2,Array.append_assoc]⟩
 ·obtain⟨m,hn,hl⟩:=I.loc
  refine⟨m,ns m hn,fun i x v e1 e2 e3 => ?_⟩
  obtain⟨u,r,l⟩:=hl i x v e1 e2 e3
  refine⟨u,r,?_⟩
  rcases l with l | ⟨k,c,e,z⟩
  ·exact .inl l
  ·exact .inr ⟨k,c,e,cellK x c e _ z⟩
 ·obtain⟨v,z⟩:=I.cell x c e
  exact⟨v,cellK x c e v z⟩
 ·obtain⟨m,⟨o,_,_,ho,_⟩,_⟩:=I.loc
  exact free _ o (fun z=>(hch _ z).2.1 rfl) ho I.free
 ·obtain⟨v,o,ho,hd⟩:=I.cell x c e
  have nch:c∉ch:=fun z=>(hch c z).2.2.1 x c e rfl
  refine⟨?_,fun hf=>free c o nch ho ((I.freeC x c e).2 hf)⟩
  rcases(I.freeC x c e).1 with hn | ⟨oz,uz,hz⟩
  ·exact .inl (free c o nch ho hn)
  ·exact .inr ⟨oz,uz,frzs c oz uz hz⟩
 ·obtain⟨e,n,ne,nf,d⟩:=I.pin p hp
  have nch:p.1∉ch:=fun z=>(hch p.1 z).2.2.2 p hp rfl
  exact⟨keep p.1 p.2 ne nf nch e n,free p.1 p.2 nch e n,ne,nf,d⟩
theorem Inv.un{t':Nat}(I:Inv X pins σ H s)(u:Un X.fs [] H H' s.heap h')(hok:HOk X.prog X.w H' h'):Inv X pins σ H' { s with heap:=h',toks:=t' }:=by
 obtain⟨m,⟨o,es,ep,ho,r⟩,_⟩:=id I.loc
 obtain⟨sl,hL⟩:=u.any ho I.free (by simp)
 exact I.step (g':=s.gens) (d':=s.drawn) (ch:=[]) (fun _ z=>nomatch z) (fun b o _ hb _ e n=>u.keep b o e n hb (by simp)) (fun b o _ hb _ e n=>u.slot b o e n hb (by simp)) (fun b o _ e n=>u.free b o e n (by simp)) (fun b o _ e=>u.there b o e (by simp)) u.tups u.frzs u.tbls (fun m' hm=>by
  obtain⟨o',es',ep',ho',r'⟩:=hm
  rw[ho]at ho';cases ho'
  exact⟨_,es',ep',hL,r'⟩) hok I.bare
theorem Inv.call{g':Array GenState}{t':Nat}{d':Drawn}{ch:List Addr}(I:Inv X pins σ H s)(u:Un (frs X.stack) ch H H' s.heap h')(hok:HOk X.prog X.w H' h')(hg:AllBare g')
  (hch:∀ b∈ch,(b∈X.ex\/X.s₀.heap.objs.size<=b)/\b≠X.env.locals/\(∀ x c,X.env.cells.lookup x=some c->c≠b)/\∀ p∈X.pn++pins,p.1≠b) :
  Inv X pins σ H' { s with heap:=h',gens:=g',drawn:=d',toks:=t' }:=by
 obtain⟨m,⟨o,es,ep,ho,r⟩,_⟩:=id I.loc
 obtain⟨sl,hL⟩:=u.any ho I.free fun z=>(hch _ z).2.1 rfl
 exact I.step (ch:=ch) hch (fun b o hL hb hc e n=>u.keep b o e n (fun z=>(List.mem_cons.mp (I.stkSub b z)).elim hL hb) hc) (fun b o _ _ hc e n=>u.any e n hc) (fun b o hc e n=>u.free b o e n hc) (fun b o hc e=>u.there b o e hc) u.tups u.frzs u.tbls (fun m' hm=>by
  obtain⟨o',es',ep',ho',r'⟩:=hm
  rw[ho]at ho';cases ho'
  exact⟨_,es',ep',hL,r'⟩) hok hg
theorem Inv.turned{t':Nat}{it:Addr}(I:Inv X pins σ H s)(k:∀ b o,b≠it->s.heap.get? b=some o->h'.get? b=some o)(hn:H it=none)(hL:it≠X.env.locals)
  (h1:it∈X.ex\/X.s₀.heap.objs.size<=it) (h2:∀ x c,X.env.cells.lookup x=some c->c≠it) (h3:∀ p∈X.pn++pins,p.1≠it):Inv X pins σ H { s with heap:=h',toks:=t' }:=by
 have nit:∀ b u,H b=some u->b≠it:=fun b u e z=>by rw[z,hn]at e;cases e
 refine I.step (g':=s.gens) (d':=s.drawn) (ch:=[it]) (fun b hb => ?_) (fun b o _ _ hc e _=>k b o (fun z=>hc (by simp[z])) e) (fun b o _ _ hc e _=>⟨o.slots,k b o (fun z=>hc (by simp[z])) e⟩) (fun _ _ _ _ n=>n)
  (fun b o hc e=>⟨o,k b o (fun z=>hc (by simp[z])) e⟩) (fun _ _ e=>e) (fun _ _ _ e=>e) (fun b ps e=>⟨#[],by rw[e];simp⟩) (fun m hm => ?_) (fun b u e => ?_) I.bare
 ·have e:b=it:=by simpa using hb
  subst e
  exact⟨h1,hL,h2,h3⟩
 ·obtain⟨o,es,ep,ho,r⟩:=hm
  exact⟨o,es,ep,k _ o (Ne.symm hL) ho,r⟩
 ·refine(I.hok b u e).stay (fun c v hc q=>k c v ?_ q) (fun _ q=>q) fun _ _ q=>q
  rcases hc with z | z
  ·rw[z];exact nit b u e
  ·exact nit c _ z
theorem Inv.tok(I:Inv X pins σ H s)(t:Nat):Inv X pins σ H { s with toks:=t }:=I.un (h':=s.heap) (t':=t) Un.refl I.hok
theorem Inv.kept{t':Nat}(I:Inv X pins σ H s)(k:∀ b u,s.heap.get? b=some u->h'.get? b=some u):Inv X pins σ H { s with heap:=h',toks:=t' }:=I.un (Un.kept k) (I.hok.kept k)
theorem Inv.laid{a:Addr}{o:HO}{t':Nat}(I:Inv X pins σ H s)(k:∀ b u,s.heap.get? b=some u->h'.get? b=some u)(hp:s.heap.objs.size<=a)(new:ObjOk X.prog X.w (upd H a o) h' a o) :
  Inv X pins σ (upd H a o) { s with heap:=h',toks:=t' }:=I.un (Un.laid k hp (I.hok.fresh hp)) (I.hok.laid k hp new)
theorem Inv.write{x e:Addr}{o:HO}{t':Nat}(I:Inv X pins σ H s)(mu:Mut (H x))(he:e=x\/H e=some (.own x))(k:∀ b u,b≠e->s.heap.get? b=some u->h'.get? b=some u)(heo:∃ u,h'.get? e=some u)
  (new:ObjOk X.prog X.w (upd H x o) h' x o):Inv X pins σ (upd H x o) { s with heap:=h',toks:=t' }:=I.un (Un.write mu he k heo) (I.hok.write mu he k heo new)
theorem Inv.weak{σ':List (Option V)}(I:Inv X pins σ H s)(hl:σ'.length=σ.length)(w:∀ (i:Nat) v,σ'[i]?=some (some v)->σ[i]?=some (some v)):Inv X pins σ' H s:=
 ⟨I.ok,I.os,I.bare,I.base,let ⟨m,hn,hl'⟩:=I.loc;⟨m,hn,fun i x v e1 e2 e3=>hl' i x v e1 (w i v e2) e3⟩,I.cell,I.free,I.freeC,I.pin,I.hok,hl.trans I.len⟩
theorem Inv.pins_of{pins':List (Addr×Obj)}(I:Inv X pins σ H s)(h:∀ p∈pins',s.heap.get? p.1=some p.2/\H p.1=none/\p.1≠X.env.locals/\p.1∉X.fs/\∀ v,p.2.data≠.cell v):Inv X pins' σ H s:=
 ⟨I.ok,I.os,I.bare,I.base,I.loc,I.cell,I.free,I.freeC,fun p hp=>(List.mem_append.mp hp).elim (fun z=>I.pin p (List.mem_append_left _ z)) (h p),I.hok,I.len⟩
theorem nodup_ix{N:List Str}(hN:N.Nodup){i j:Nat}{x:Str}(a:N[i]?=some x)(b:N[j]?=some x):i=j:=by
 obtain⟨h1,e1⟩:=List.getElem?_eq_some_iff.mp a
 obtain⟨h2,e2⟩:=List.getElem?_eq_some_iff.mp b
 exact(List.getElem_inj hN).mp (e1.trans e2.symm)
theorem store_ok2{M:Model}{A:Around}{E:Value->Shared->Prop}{i:Nat}{x:Str}{v:V}{u:Value}{Q:Unit->Shared->Prop}(I:Inv X pins σ H s)(hN:X.N.Nodup)(hi:X.N[i]?=some x)(hx:Loc X.env.scope x)(r:RelV v u)
  (h:∀ s',Inv X pins (σ.set i (some v)) H s'->(∃ a,Heap.SameBut a s.heap s'.heap/\(a=X.env.locals\/X.env.cells.lookup x=some a))->Q () s') (hf:X.fn x=true\/X.env.scope.names.lookup x=some .local:=by first | exact .inl rfl | exact .inr rfl | assumption):wpAny M A (storeName X.env x u) Q E s:=by
 obtain⟨m,hn,hl⟩:=id I.loc
 have hcls:(X.env.scope.kind == .class || (X.env.scope.kind == .module && X.env.locals != X.env.globals))=false:=by rw[I.ok.kind];rfl
 have hiσ:i < σ.length:=by rw[I.len];exact(List.getElem?_eq_some_iff.mp hi).1
 have cne:=I.cne
 have tracked:∀ {a:Addr} {h':Heap},(∃ o,s.heap.get? a=some o/\H a=none)->Heap.SameBut a s.heap h'->HOk X.prog X.w H h':=fun {a h'} ha hs b ob e=>by
  obtain⟨_,_,hfree⟩:=ha
  refine(I.hok b ob e).stay (fun c w' hc q=>(hs.2 c ?_).trans q) (fun _ q=>q) fun _ _ q=>q
  rintro rfl
  rcases hc with rfl | hc
  ·rw[hfree]at e;cases e
  ·rw[hfree]at hc;cases hc
 rcases hx with hk | hk
 ·refine wpAny_storeName_local hk hn (fun h' hn' hs => ?_) hcls
  obtain⟨oL,_,_,hoL,_⟩:=id hn
  refine h _ ⟨I.ok,I.os,I.bare,⟨fun b o e n hb hx => ?_,fun b o e n hb hx => ?_,I.base.free,fun b o e hx => ?_,I.base.tups,I.base.frzs,I.base.tbls⟩,⟨_,hn',fun j y v' e1 e2 e3 => ?_⟩,fun y c e => ?_,I.free,I.freeC,fun p hp => ?_,tracked ⟨oL,hoL,I.free⟩ hs,by simpa using I.len⟩ ⟨_,hs,.inl rfl⟩
  ·exact(hs.2 b (Nat.ne_of_lt (Nat.lt_of_lt_of_le (Heap.lt_size e) I.ok.above))).trans (I.base.keep b o e n hb hx)
  ·obtain⟨sl,e1⟩:=I.base.slot b o e n hb hx
   exact⟨sl,(hs.2 b (Nat.ne_of_lt (Nat.lt_of_lt_of_le (Heap.lt_size e) I.ok.above))).trans e1⟩
  ·obtain⟨o',e1⟩:=I.base.there b o e hx
   exact⟨o',(hs.2 b (Nat.ne_of_lt (Nat.lt_of_lt_of_le (Heap.lt_size e) I.ok.above))).trans e1⟩
  ·by_cases hj:j=i
   ·subst hj
    rw[hi]at e1;cases e1
    rw[List.getElem?_set_self hiσ]at e2
    cases e2
    exact⟨u,r,.inl ⟨hk,by simp⟩⟩
   ·rw[List.getElem?_set_ne (Ne.symm hj)]at e2
    obtain⟨u',r',q⟩:=hl j y v' e1 e2 e3
    refine⟨u',r',?_⟩
    rcases q with ⟨k,e⟩ | ⟨k,c,e,z⟩
    ·refine .inl ⟨k,?_⟩
     have:y≠x:=fun e=>hj (nodup_ix hN e1 (e▸hi))
     simp[this,e]
    ·exact .inr ⟨k,c,e,z.sameBut hs (cne y c e)⟩
  ·obtain⟨w',z⟩:=I.cell y c e
   exact⟨w',z.sameBut hs (cne y c e)⟩
  ·obtain⟨e,n,ne,nf,d⟩:=I.pin p hp
   exact⟨(hs.2 p.1 ne).trans e,n,ne,nf,d⟩
 ·have hfn:X.fn x=true:=by
   rcases hf with z | z
   ·exact z
   ·rw[z]at hk;cases hk
  obtain⟨c,hc⟩:=I.ok.has x (.inl hk)
  obtain⟨w',z⟩:=I.cell x c hc
  refine wpAny_storeName_cell I.ok.kind hk hc z (fun h' hc' hs => ?_)
  obtain⟨oc,hoc,hocd⟩:=id z
  refine h { s with heap:=h' } ⟨I.ok,I.os,I.bare,⟨fun b o e n hb hx => ?_,fun b o e n hb hx => ?_,I.base.free,fun b o e hx => ?_,I.base.tups,I.base.frzs,I.base.tbls⟩,⟨m,hn.sameBut hs (Ne.symm (cne x c hc)),fun j y v' e1 e2 e3 => ?_⟩,fun y c' e => ?_,I.free,I.freeC,fun p hp => ?_,tracked ⟨oc,hoc,(I.freeC x c hc).2 hfn⟩ hs,by simpa using I.len⟩ ⟨c,hs,.inr hc⟩
  ·exact(hs.2 b (Nat.ne_of_lt (Nat.lt_of_lt_of_le (Heap.lt_size e) (I.ok.cab x c hfn hc)))).trans (I.base.keep b o e n hb hx)
  ·obtain⟨sl,e1⟩:=I.base.slot b o e n hb hx
   exact⟨sl,(hs.2 b (Nat.ne_of_lt (Nat.lt_of_lt_of_le (Heap.lt_size e) (I.ok.cab x c hfn hc)))).trans e1⟩
  ·obtain⟨o',e1⟩:=I.base.there b o e hx
   exact⟨o',(hs.2 b (Nat.ne_of_lt (Nat.lt_of_lt_of_le (Heap.lt_size e) (I.ok.cab x c hfn hc)))).trans e1⟩
  ·by_cases hj:j=i
   ·subst hj
    rw[hi]at e1;cases e1
    rw[List.getElem?_set_self hiσ]at e2
    cases e2
    exact⟨u,r,.inr ⟨.inl hk,c,hc,hc'⟩⟩
   ·rw[List.getElem?_set_ne (Ne.symm hj)]at e2
    obtain⟨u',r',q⟩:=hl j y v' e1 e2 e3
    refine⟨u',r',?_⟩
    rcases q with q | ⟨k,c',e,z'⟩
    ·exact .inl q
    ·refine .inr ⟨k,c',e,z'.sameBut hs ?_⟩
     rintro rfl
     exact hj (nodup_ix hN e1 (I.ok.inj _ _ _ e hc▸hi))
  ·by_cases hcc:c'=c
   ·subst hcc;exact⟨_,hc'⟩
   ·obtain⟨w2,z2⟩:=I.cell y c' e
    exact⟨w2,z2.sameBut hs hcc⟩
  ·obtain⟨e,n,ne,nf,d⟩:=I.pin p hp
   refine⟨(hs.2 p.1 ?_).trans e,n,ne,nf,d⟩
   intro q
   rw[q,hoc]at e
   have q':oc=p.2:=Option.some.inj e
   exact d w' (by rw[← q'];exact hocd)
theorem store_ok{M:Model}{A:Around}{E:Value->Shared->Prop}{i:Nat}{x:Str}{v:V}{u:Value}{Q:Unit->Shared->Prop}(I:Inv X pins σ H s)(hN:X.N.Nodup)(hi:X.N[i]?=some x)(hx:Loc X.env.scope x)(r:RelV v u)
  (h:∀ s',Inv X pins (σ.set i (some v)) H s'->Q () s') (hf:X.fn x=true\/X.env.scope.names.lookup x=some .local:=by first | exact .inl rfl | exact .inr rfl | assumption):wpAny M A (storeName X.env x u) Q E s:=
 store_ok2 I hN hi hx r (fun s' I' _=>h s' I') hf
theorem Inv.call'{s':Shared}{ch:List Addr}(I:Inv X pins σ H s)(ho:s'.os=s.os)(u:Un (frs X.stack) ch H H' s.heap s'.heap)(hok:HOk X.prog X.w H' s'.heap)(hg:AllBare s'.gens)
  (hch:∀ b∈ch,(b∈X.ex\/X.s₀.heap.objs.size<=b)/\b≠X.env.locals/\(∀ x c,X.env.cells.lookup x=some c->c≠b)/\∀ p∈X.pn++pins,p.1≠b):Inv X pins σ H' s':=by
 obtain⟨h',g',d',t',o'⟩:=s'
 have e:o'=s.os:=ho
 subst e
 exact I.call (g':=g') (t':=t') (d':=d') u hok hg hch
end
noncomputable abbrev XK:=Value->Option Addr->Hp->Prop
noncomputable abbrev St:=List (Option V)
noncomputable abbrev VK:=V->Hp->Prop
noncomputable abbrev TE:=St->Hp->VK->Prop
noncomputable abbrev TT:=St->Hp->(Bool->Hp->Prop)->Prop
noncomputable abbrev TA:=St->Hp->(List V->Hp->Prop)->Prop
structure Ends where
 nx:St->Hp->Prop
 rt:VK
 bk:St->Hp->Prop:=fun _ _=>False
 ct:St->Hp->Prop:=fun _ _=>False
noncomputable abbrev TS:=Ends->St->Hp->Prop
noncomputable def EP(X:Cx)(pins:List (Addr×Obj))(σ:St)(Q:VK)(u:Value)(s':Shared):Prop:=∃ v H',Inv X pins σ H' s'/\RelV v u/\Q v H'
noncomputable def TP(X:Cx)(pins:List (Addr×Obj))(σ:St)(Q:Bool->Hp->Prop)(b:Bool)(s':Shared):Prop:=∃ H',Inv X pins σ H' s'/\Q b H'
noncomputable def AP(X:Cx)(pins:List (Addr×Obj))(σ:St)(Q:List V->Hp->Prop)(us:List Value)(s':Shared):Prop:=∃ vs H',Inv X pins σ H' s'/\Vals vs us/\Q vs H'
noncomputable def SP(X:Cx)(pins:List (Addr×Obj))(D:Ends)(f:Flow)(s':Shared):Prop:=
 match f with
 | .next=>∃ σ' H',Inv X pins σ' H' s'/\D.nx σ' H'
 | .brk=>∃ σ' H',Inv X pins σ' H' s'/\D.bk σ' H'
 | .cont=>∃ σ' H',Inv X pins σ' H' s'/\D.ct σ' H'
 | .ret u=>∃ v σ' H',Inv X pins σ' H' s'/\RelV v u/\D.rt v H'
noncomputable def PE(X:Cx)(e:Expr)(t:TE):Prop:=
 ∀ (pins:List (Addr×Obj)) (s:Shared) (σ:St) (H:Hp) (Q:VK),Inv X pins σ H s->t σ H Q->wpAny (model X.prog X.w) X.A (eval e X.env) (EP X pins σ Q) X.xe s
noncomputable def PT(X:Cx)(e:Expr)(t:TT):Prop:=
 ∀ (pins:List (Addr×Obj)) (s:Shared) (σ:St) (H:Hp) (Q:Bool->Hp->Prop),Inv X pins σ H s->t σ H Q->wpAny (model X.prog X.w) X.A (isTrue e X.env (eval e X.env)) (TP X pins σ Q) X.xe s
noncomputable def PW(X:Cx)(e:Expr)(t:TT):Prop:=
 ∀ (whole:Sem Value) (pins:List (Addr×Obj)) (s:Shared) (σ:St) (H:Hp) (Q:Bool->Hp->Prop),Inv X pins σ H s->t σ H Q->wpAny (model X.prog X.w) X.A (isTrue e X.env whole) (TP X pins σ Q) X.xe s
theorem PW.pt{X:Cx}{e:Expr}{t:TT}(h:PW X e t):PT X e t:=h _
noncomputable def PA(X:Cx)(es:List Expr)(t:TA):Prop:=
 ∀ (pos:Pos) (pins:List (Addr×Obj)) (s:Shared) (σ:St) (H:Hp) (Q:List V->Hp->Prop),Inv X pins σ H s->t σ H Q->wpAny (model X.prog X.w) X.A (spliced (backTo pos (starEach es X.env))) (AP X pins σ Q) X.xe s
noncomputable def PS(X:Cx)(st:Stmt)(t:TS):Prop:=
 ∀ (pins:List (Addr×Obj)) (s:Shared) (σ:St) (H:Hp) (D:Ends),Inv X pins σ H s->t D σ H->wpAny (model X.prog X.w) X.A (exec st X.env) (SP X pins D) X.xe s
noncomputable def PSs(X:Cx)(st:List Stmt)(t:TS):Prop:=
 ∀ (pins:List (Addr×Obj)) (s:Shared) (σ:St) (H:Hp) (D:Ends),Inv X pins σ H s->t D σ H->wpAny (model X.prog X.w) X.A (execs st X.env) (SP X pins D) X.xe s
theorem thn{α:Type}{t:Sem α}{Q Q':α->Shared->Prop}{M:Model}{A:Around}{E:Value->Shared->Prop}{s:Shared}(h:wpAny M A t Q E s)(hQ:∀ a s,Q a s->Q' a s):wpAny M A t Q' E s:=wpAny_mono h hQ fun _ _ x=>x
end L2
namespace L2
open PySem PySem.Spec PyProof.Rows
section
variable{X:Cx}
theorem bin{a b:Expr}{ta tb:TE}(ha:PE X a ta)(hb:PE X b tb){pins:List (Addr×Obj)}{s:Shared}{σ:St}{H:Hp}{R:V->V->Hp->Prop}(I:Inv X pins σ H s)(h:ta σ H fun x H1=>tb σ H1 fun y H2=>R x y H2)
  {α:Type} {Q:α->Shared->Prop} {f:Value->Value->Sem α}
  (hf:∀ v u s2 x y H2,Inv X pins σ H2 s2->RelV x v->RelV y u->R x y H2->wpAny (model X.prog X.w) X.A (f v u) Q X.xe s2) :
  wpAny (model X.prog X.w) X.A (eval a X.env) (fun v s₁=>wpAny (model X.prog X.w) X.A (eval b X.env) (fun u s₂=>wpAny (model X.prog X.w) X.A (f v u) Q X.xe s₂) X.xe s₁) X.xe s:=by
 refine thn (ha pins s σ H _ I h) fun v s1 ⟨x,H1,I1,r1,q1⟩ => ?_
 refine thn (hb pins s1 σ H1 _ I1 q1) fun u s2 ⟨y,H2,I2,r2,q2⟩ => ?_
 exact hf v u s2 x y H2 I2 r1 r2 q2
noncomputable def tVar(i:Nat):TE:=fun σ H Q=>∃ v,σ[i]?=some (some v)/\Q v H
noncomputable def tC(v:V):TE:=fun _ H Q=>Q v H
theorem pe_var{i:Nat}{x:Str}{pos:Pos}(hN:X.N[i]?=some x)(hv:Vis X.env.scope x)(hd:(x == ("__debug__":Str))=false:=by decide)(hcd:(x == ("__classdict__":Str))=false:=by decide):PE X (.Name x pos) (tVar i):=by
 intro pins s σ H Q I h
 obtain⟨v,e,h⟩:=h
 obtain⟨m,hn,hl⟩:=I.loc
 obtain⟨u,r,l⟩:=hl i x v hN e hv
 have fin:EP X pins σ Q u s:=⟨v,H,I,r,h⟩
 rcases l with ⟨hk,hm⟩ | ⟨hk,c,hc,hcell⟩
 ·exact wpAny_Name (wpAny_loadName_local I.ok.kind hk hn hm fin) hd
 ·rcases hk with hk | hk
  ·exact wpAny_Name (wpAny_loadName_cell I.ok.kind hk hc hcell fin) hd
  ·exact wpAny_Name (wpAny_loadName_free I.ok.kind hk hc hcell fin hcd) hd
theorem pe_int{i j pos}:PE X (.Constant (.int i) j pos) (tC (.int i)):=fun _ _ _ H _ I h=>wpAny_Constant_int ⟨.int i,H,I.tok _,⟨_,rfl⟩,h⟩
theorem pe_bl{b j pos}:PE X (.Constant (.bool b) j pos) (tC (.bl b)):=fun _ _ _ H _ I h=>Constant_bool ⟨.bl b,H,I,rfl,h⟩
theorem pe_non{j pos}:PE X (.Constant .none j pos) (tC .non):=fun _ _ _ H _ I h=>Constant_none ⟨.non,H,I,rfl,h⟩
theorem pe_str{x j pos}:PE X (.Constant (.str x) j pos) (tC (.str x)):=fun _ _ _ H _ I h=>Calls.Constant_str ⟨.str x,H,I.tok _,⟨_,rfl⟩,h⟩
noncomputable def Gl(X:Cx)(x:Str):Prop:=X.env.kindOf x=some .globalImplicit
theorem ld_glob{E:Value->Shared->Prop}{pins:List (Addr×Obj)}{s:Shared}{σ:St}{H:Hp}{x:Str}{u:Value}{pos:Pos}{Q:Value->Shared->Prop}(I:Inv X pins σ H s)(hg:Gl X x)(hm:X.mg x=some u)(h:Q u s)
  (hd:(x == ("__debug__":Str))=false:=by decide):wpAny (model X.prog X.w) X.A (eval (.Name x pos) X.env) Q E s:=
 Calls.Name_function_global I.ok.kind hg (Calls.loadGlobal_global (by rw[I.ok.glob];exact I.mod.glob.keeps I.bk) hm h) hd
theorem ld_blt{E:Value->Shared->Prop}{pins:List (Addr×Obj)}{s:Shared}{σ:St}{H:Hp}{x:Str}{u:Value}{pos:Pos}{Q:Value->Shared->Prop}(I:Inv X pins σ H s)(hg:Gl X x)(hm:X.mg x=none)(hv:bootBuiltins x=some u)(h:Q u s)
  (hn:x≠"__name__":=by decide) (hd:(x == ("__debug__":Str))=false:=by decide):wpAny (model X.prog X.w) X.A (eval (.Name x pos) X.env) Q E s:=by
 obtain⟨mb,h1,h2⟩:=I.mod.blt
 exact Calls.Name_function_global I.ok.kind hg (Calls.loadGlobal_builtin (by rw[I.ok.glob];exact I.mod.glob.keeps I.bk) hm (by rw[I.ok.blt];exact h1.keeps I.bk) ((h2 x hn).trans hv) h) hd
theorem pe_glob{x:Str}{v:V}{u:Value}{pos:Pos}(hg:Gl X x)(hm:X.mg x=some u)(r:RelV v u)(hd:(x == ("__debug__":Str))=false:=by decide):PE X (.Name x pos) (tC v):=
 fun _ _ _ H _ I h=>ld_glob I hg hm ⟨v,H,I,r,h⟩ hd
theorem pe_bltn{x:Str}{v:V}{u:Value}{pos:Pos}(hg:Gl X x)(hm:X.mg x=none)(hv:bootBuiltins x=some u)(r:RelV v u)(hn:x≠"__name__":=by decide)(hd:(x == ("__debug__":Str))=false:=by decide):PE X (.Name x pos) (tC v):=
 fun _ _ _ H _ I h=>ld_blt I hg hm hv ⟨v,H,I,r,h⟩ hn hd
variable{a b:Expr}{ta tb:TE}{pos:Pos}
noncomputable def PC(X:Cx)(op:CmpOp)(a b:Expr)(t:TE):Prop:=
 ∀ (pins:List (Addr×Obj)) (s:Shared) (σ:St) (H:Hp) (Q:VK),Inv X pins σ H s->t σ H Q ->
  wpAny (model X.prog X.w) X.A (eval a X.env) (fun v s₁=>wpAny (model X.prog X.w) X.A (eval b X.env) (fun u s₂=>wpAny (model X.prog X.w) X.A (compareOp op v u) (EP X pins σ Q) X.xe s₂) X.xe s₁) X.xe s
theorem nobehind(b:Expr){op:CmpOp}(h:op≠.In)(h2:op≠.NotIn):behindInMarks op b=false:=by
 have e1:(op == CmpOp.In)=false:=by cases op<;>first | rfl | exact absurd rfl h
 have e2:(op == CmpOp.NotIn)=false:=by cases op<;>first | rfl | exact absurd rfl h2
 cases b<;>simp[behindInMarks,e1,e2]
noncomputable def tB(t:TE):TT:=fun σ H Q=>t σ H fun x H1=>∃ c,x=.bl c/\Q c H1
theorem pt_cmp{op:CmpOp}{t:TE}(h:PC X op a b t)(h1:behindInMarks op b=false:=by first | exact nobehind _ (by decide) (by decide) | rfl):PT X (.Compare a [op] [b] pos) (tB t):=by
 intro pins s σ H Q I hw
 refine wpAny_isTrue_Compare1 (thn (h pins s σ H _ I hw) fun v s1 h1=>thn h1 fun u s2 h2=>thn h2 fun c s3 ⟨x,H1,I1,r1,q1⟩ => ?_) h1
 obtain⟨d,rfl,q⟩:=q1
 cases r1
 exact wpAny_truthy_bool ⟨H1,I1,q⟩
theorem pt_val{e:Expr}{t:TE}(h:PE X e t)(he:∀ whole,isTrue e X.env whole=(do let v ← whole;standAt e.pos;holding [v] (truthy v)):=by intro _;rfl):PT X e (tB t):=by
 intro pins s σ H Q I hw
 refine isTrue_plain (thn (h pins s σ H _ I hw) fun v s1 ⟨x,H1,I1,r1,q1⟩ => ?_) (he _)
 obtain⟨d,rfl,q⟩:=q1
 cases r1
 exact wpAny_truthy_bool ⟨H1,I1,q⟩
variable{tA tB':TT}{rest:List Expr}
noncomputable def tAnd(t u:TT):TT:=fun σ H Q=>t σ H fun c H1=>if c=true then u σ H1 Q else Q false H1
noncomputable def tOr(t u:TT):TT:=fun σ H Q=>t σ H fun c H1=>if c=true then Q true H1 else u σ H1 Q
noncomputable def tNot(t:TT):TT:=fun σ H Q=>t σ H fun c H1=>Q (!c) H1
theorem pw_and1(ha:PT X a tA):PW X (.BoolOp .And [a] pos) tA:=by
 intro wh pins s σ H Q I h
 refine isTrue_and (thn (ha pins s σ H Q I h) fun c s1 e => ?_)
 cases c with
 | true=>exact isTrue_and_nil e
 | false=>exact e
theorem pw_or1(ha:PT X a tA):PW X (.BoolOp .Or [a] pos) tA:=by
 intro wh pins s σ H Q I h
 refine isTrue_or (thn (ha pins s σ H Q I h) fun c s1 e => ?_)
 cases c with
 | false=>exact isTrue_or_nil e
 | true=>exact e
theorem pw_and(ha:PT X a tA)(hb:PW X (.BoolOp .And (b::rest) pos) tB'):PW X (.BoolOp .And (a::b::rest) pos) (tAnd tA tB'):=by
 intro wh pins s σ H Q I h
 refine isTrue_and (thn (ha pins s σ H _ I h) fun c s1 ⟨H1,I1,q1⟩ => ?_)
 cases c with
 | true=>exact hb wh pins s1 σ H1 Q I1 q1
 | false=>exact⟨H1,I1,q1⟩
theorem pw_or(ha:PT X a tA)(hb:PW X (.BoolOp .Or (b::rest) pos) tB'):PW X (.BoolOp .Or (a::b::rest) pos) (tOr tA tB'):=by
 intro wh pins s σ H Q I h
 refine isTrue_or (thn (ha pins s σ H _ I h) fun c s1 ⟨H1,I1,q1⟩ => ?_)
 cases c with
 | true=>exact⟨H1,I1,q1⟩
 | false=>exact hb wh pins s1 σ H1 Q I1 q1
theorem pt_not(ha:PT X a tA):PT X (.UnaryOp .Not a pos) (tNot tA):=by
 intro pins s σ H Q I h
 exact isTrue_not (ha pins s σ H (fun c H1=>Q (!c) H1) I h)
noncomputable def tAndV(ta tb:TE):TE:=fun σ H Q=>ta σ H fun x H1=>∃ c,x=.bl c/\if c=true then tb σ H1 Q else Q (.bl false) H1
theorem pe_one{op}{t:TE}(h:PE X a t):PE X (.BoolOp op [a] pos) t:=fun pins s σ H Q I hw=>BoolOp_one (h pins s σ H Q I hw)
theorem pe_and(ha:PE X a ta)(hb:PE X (.BoolOp .And (b::rest) pos) tb):PE X (.BoolOp .And (a::b::rest) pos) (tAndV ta tb):=by
 intro pins s σ H Q I h
 refine BoolOp_and (thn (ha pins s σ H _ I h) fun v s1 ⟨x,H1,I1,r1,q1⟩ => ?_)
 obtain⟨c,rfl,q1⟩:=q1
 cases r1
 refine wpAny_truthy_bool ?_
 cases c with
 | true=>exact hb pins s1 σ H1 Q I1 q1
 | false=>exact⟨.bl false,H1,I1,rfl,q1⟩
noncomputable def tIf(t:TT)(ta tb:TE):TE:=fun σ H Q=>t σ H fun c H1=>if c=true then ta σ H1 Q else tb σ H1 Q
theorem pe_ifExp{c:Expr}(hc:PT X c tA)(ha:PE X a ta)(hb:PE X b tb):PE X (.IfExp c a b pos) (tIf tA ta tb):=by
 intro pins s σ H Q I h
 refine wpAny_IfExp (thn (hc pins s σ H _ I h) fun d s1 ⟨H1,I1,q1⟩ => ?_)
 cases d with
 | true=>exact ha pins s1 σ H1 Q I1 q1
 | false=>exact hb pins s1 σ H1 Q I1 q1
end
end L2
namespace L2
open PySem PySem.Spec PyProof.Rows
noncomputable def SqL(K:PySem.W.Frag)(H:Hp)(a:Addr)(xs:List V):Prop:=
 Rd H a (.lst xs) \/
  ∃ (o:Obj) (its:Array Value) (n:Nat),K.lookup a=some o/\o.cls=.type "list"/\o.dict=none/\o.data=.seq its n/\its.size<=sizeLine/\Vals xs its.toList
noncomputable def SqT(K:PySem.W.Frag)(H:Hp)(a:Addr)(xs:List V):Prop:=
 Rd H a (.tup xs) \/
  ∃ (o:Obj) (its:Array Value) (n:Nat),K.lookup a=some o/\o.cls=.type "tuple"/\o.data=.seq its n/\its.size<=sizeLine/\Vals xs its.toList
noncomputable def absV:Value->Option V
 | .none=>some .non
 | .bool b=>some (.bl b)
 | .int i _=>some (.int i)
 | .str x _=>some (.str x)
 | .bytes b _=>some (.byt b)
 | .float b _=>some (.flt b)
 | .ref a=>some (.ref a)
 | .type n=>some (.ty n)
 | _=>none
theorem RelV.abs{x:V}{u:Value}(r:RelV x u):absV u=some x:=by
 cases x with
 | non=>cases r;rfl
 | bl _=>cases r;rfl
 | int _=>obtain⟨t,rfl⟩:=r;rfl
 | str _=>obtain⟨t,rfl⟩:=r;rfl
 | byt _=>obtain⟨t,rfl⟩:=r;rfl
 | flt _=>obtain⟨t,rfl⟩:=r;rfl
 | ref _=>cases r;rfl
 | ty _=>cases r;rfl
theorem RelV.inj{x y:V}{u:Value}(r:RelV x u)(q:RelV y u):x=y:=Option.some.inj (r.abs.symm.trans q.abs)
theorem Vals.inj:∀ {xs ys:List V} {us:List Value},Vals xs us->Vals ys us->xs=ys
 | _,_,_,.nil,.nil=>rfl
 | _,_,_,.cons r t,.cons r' t'=>by rw[r.inj r',Vals.inj t t']
section
variable{X:Cx}{pins:List (Addr×Obj)}{σ:St}{H:Hp}{s:Shared}{a:Addr}{xs ys:List V}
theorem SqL.of{K:PySem.W.Frag}(h:H a=some (.lst xs)):SqL K H a xs:=.inl (.inl h)
theorem SqT.of{K:PySem.W.Frag}(h:H a=some (.tup xs)):SqT K H a xs:=.inl (.inl h)
theorem Inv.list(I:Inv X pins σ H s)(h:SqL X.K H a xs):∃ its:List Value,Vals xs its/\PlainL s.heap a its.toArray/\xs.length<=sizeLine:=by
 rcases h with h | ⟨o,its,n,hk,hc,hd,hs,hz,r⟩
 ·obtain⟨z,its,n,r,e⟩:=h.ok I.hok
  exact⟨its,r,⟨_,n,e,rfl,rfl,rfl⟩,z⟩
 ·refine⟨its.toList,r,⟨o,n,I.kIn a o hk,hc,hd,by simpa using hs⟩,?_⟩
  have e:=r.length
  simp only[Array.length_toList]at e
  omega
theorem Inv.tuple(I:Inv X pins σ H s)(h:SqT X.K H a xs):∃ its:List Value,Vals xs its/\IsTup s.heap a its.toArray/\xs.length<=sizeLine:=by
 rcases h with h | ⟨o,its,n,hk,hc,hs,hz,r⟩
 ·obtain⟨z,its,r,p⟩:=h.ok I.hok
  exact⟨its,r,p,z⟩
 ·refine⟨its.toList,r,⟨o,I.kIn a o hk,hc,n,by simpa using hs⟩,?_⟩
  have e:=r.length
  simp only[Array.length_toList]at e
  omega
theorem Inv.list_inj(I:Inv X pins σ H s)(h:SqL X.K H a xs)(h':SqL X.K H a ys):xs=ys:=by
 obtain⟨its,r,⟨o,n,e,_,_,d⟩,_⟩:=I.list h
 obtain⟨its',r',⟨o',n',e',_,_,d'⟩,_⟩:=I.list h'
 rw[e]at e';cases e'
 rw[d]at d'
 injection d' with d1 _
 have:its=its':=by simpa using congrArg Array.toList d1
 subst this
 exact r.inj r'
theorem Inv.tuple_inj(I:Inv X pins σ H s)(h:SqT X.K H a xs)(h':SqT X.K H a ys):xs=ys:=by
 obtain⟨its,r,⟨o,e,_,n,d⟩,_⟩:=I.tuple h
 obtain⟨its',r',⟨o',e',_,n',d'⟩,_⟩:=I.tuple h'
 rw[e]at e';cases e'
 rw[d]at d'
 injection d' with d1 _
 have:its=its':=by simpa using congrArg Array.toList d1
 subst this
 exact r.inj r'
end
noncomputable abbrev Cx.wish(X:Cx)(E:Value->Shared->Prop):Cx:={ X with xe:=E }
noncomputable abbrev Cx.nox(X:Cx):Cx:=X.wish fun _ _=>False
theorem Cx.Ok.wish{X:Cx}(ok:X.Ok)(E:Value->Shared->Prop):(X.wish E).Ok:=
 ⟨ok.mod,ok.kind,ok.glob,ok.blt,ok.above,ok.inj,ok.has,ok.cab,ok.hd,ok.frames,ok.stk,ok.exf,ok.bs,ok.bsz,ok.noex,ok.exfs,ok.funs,ok.frf⟩
theorem Cx.Ok.unwish{X:Cx}{E:Value->Shared->Prop}(ok:(X.wish E).Ok):X.Ok:=
 ⟨ok.mod,ok.kind,ok.glob,ok.blt,ok.above,ok.inj,ok.has,ok.cab,ok.hd,ok.frames,ok.stk,ok.exf,ok.bs,ok.bsz,ok.noex,ok.exfs,ok.funs,ok.frf⟩
section
variable{X:Cx}{pins:List (Addr×Obj)}{σ:St}{H:Hp}{s:Shared}{E:Value->Shared->Prop}
theorem Inv.wish(I:Inv X pins σ H s)(E:Value->Shared->Prop):Inv (X.wish E) pins σ H s:=⟨I.ok.wish E,I.os,I.bare,I.base,I.loc,I.cell,I.free,I.freeC,I.pin,I.hok,I.len⟩
theorem Inv.unwish(I:Inv (X.wish E) pins σ H s):Inv X pins σ H s:=⟨I.ok.unwish,I.os,I.bare,I.base,I.loc,I.cell,I.free,I.freeC,I.pin,I.hok,I.len⟩
theorem SP.unwish{D:Ends}{f:Flow}{s':Shared}(h:SP (X.wish E) pins D f s'):SP X pins D f s':=by
 cases f with
 | next=>obtain⟨σ',H',I,q⟩:=h;exact⟨σ',H',I.unwish,q⟩
 | brk=>obtain⟨σ',H',I,q⟩:=h;exact⟨σ',H',I.unwish,q⟩
 | cont=>obtain⟨σ',H',I,q⟩:=h;exact⟨σ',H',I.unwish,q⟩
 | ret u=>obtain⟨v,σ',H',I,r,q⟩:=h;exact⟨v,σ',H',I.unwish,r,q⟩
theorem PE.nox{e:Expr}{t:TE}(h:PE X.nox e t):PE X e t:=fun pins s σ H Q I hw=>
 wpAny_mono (h pins s σ H Q (I.wish _) hw) (fun _ _ ⟨v,H',I',r,q⟩=>⟨v,H',I'.unwish,r,q⟩) fun _ _ z=>False.elim z
theorem PT.nox{e:Expr}{t:TT}(h:PT X.nox e t):PT X e t:=fun pins s σ H Q I hw=>
 wpAny_mono (h pins s σ H Q (I.wish _) hw) (fun _ _ ⟨H',I',q⟩=>⟨H',I'.unwish,q⟩) fun _ _ z=>False.elim z
theorem PSs.nox{st:List Stmt}{t:TS}(h:PSs X.nox st t):PSs X st t:=fun pins s σ H D I hw=>
 wpAny_mono (h pins s σ H D (I.wish _) hw) (fun _ _ q=>q.unwish) fun _ _ z=>False.elim z
end
section
variable{X:Cx}{st:Stmt}{rest:List Stmt}{t u:TS}{e:Expr}{te:TE}{pos:Pos}
noncomputable def tNext:TS:=fun D σ H=>D.nx σ H
noncomputable def tSeq(t u:TS):TS:=fun D σ H=>t { D with nx:=u D } σ H
theorem pss_nil:PSs X [] tNext:=fun _ _ σ H _ I h=>wpAny_execs_nil ⟨σ,H,I,h⟩
theorem pss_cons(h1:PS X st t)(h2:PSs X rest u):PSs X (st::rest) (tSeq t u):=by
 intro pins s σ H D I h
 refine wpAny_execs_cons (thn (h1 pins s σ H { D with nx:=u D } I h) fun f s1 q => ?_)
 cases f with
 | next=>
  obtain⟨σ',H',I',q⟩:=q
  exact h2 pins s1 σ' H' D I' q
 | ret v=>exact q
 | brk=>exact q
 | cont=>exact q
theorem pss_one(h1:PS X st t):PSs X [st] t:=by
 intro pins s σ H D I h
 refine wpAny_execs_cons (thn (h1 pins s σ H D I h) fun f s1 q => ?_)
 cases f with
 | next=>exact wpAny_execs_nil q
 | ret v=>exact q
 | brk=>exact q
 | cont=>exact q
theorem Inv.quiet{pins:List (Addr×Obj)}{σ:St}{H:Hp}{s:Shared}(I:Inv X pins σ H s):interactive X.env=false:=by simp[interactive,I.ok.kind]
noncomputable def tDrop(te:TE):TS:=fun D σ H=>te σ H fun _ H1=>D.nx σ H1
theorem ps_expr(he:PE X e te)(hs:swapsWith e none pos.line X.env=pure false:=by rfl):PS X (.Expr e pos) (tDrop te):=by
 intro pins s σ H D I h
 exact wpAny_Expr_any (thn (he pins s σ H _ I h) fun v s1 ⟨x,H1,I1,r1,q1⟩=>⟨σ,H1,I1,q1⟩) I.quiet hs
noncomputable def tRet(te:TE):TS:=fun D σ H=>te σ H D.rt
theorem ps_ret(he:PE X e te):PS X (.Return (some e) pos) (tRet te):=by
 intro pins s σ H D I h
 exact wpAny_Return_some (thn (he pins s σ H _ I h) fun v s1 ⟨x,H1,I1,r1,q1⟩=>⟨x,σ,H1,I1,r1,q1⟩)
noncomputable def tIfS(c:TT)(t u:TS):TS:=fun D σ H=>c σ H fun b H1=>if b=true then t D σ H1 else u D σ H1
theorem ps_if{c:Expr}{a b:List Stmt}{tc:TT}(hc:PT X c tc)(ha:PSs X a t)(hb:PSs X b u):PS X (.If c a b pos) (tIfS tc t u):=by
 intro pins s σ H D I h
 refine wpAny_If (thn (hc pins s σ H _ I h) fun d s1 ⟨H1,I1,q1⟩ => ?_)
 cases d with
 | true=>exact ha pins s1 σ H1 D I1 q1
 | false=>exact hb pins s1 σ H1 D I1 q1
end
noncomputable abbrev TG:=V->St->Hp->(St->Hp->Prop)->Prop
noncomputable abbrev TGs:=List V->St->Hp->(St->Hp->Prop)->Prop
noncomputable def PG(X:Cx)(target:Expr)(t:TG):Prop:=
 ∀ (pins:List (Addr×Obj)) (s:Shared) (σ:St) (H:Hp) (v:V) (u:Value) (Q:St->Hp->Prop),Inv X pins σ H s->RelV v u->t v σ H Q ->
  wpAny (model X.prog X.w) X.A (assign target X.env u) (fun _ s'=>∃ σ' H',Inv X pins σ' H' s'/\Q σ' H') X.xe s
noncomputable def PGs(X:Cx)(ts:List Expr)(t:TGs):Prop:=
 ∀ (pins:List (Addr×Obj)) (s:Shared) (σ:St) (H:Hp) (vs:List V) (us:List Value) (Q:St->Hp->Prop),Inv X pins σ H s->Vals vs us->t vs σ H Q ->
  wpAny (model X.prog X.w) X.A (assignInOrder ((assignEach ts X.env).map (·.2)) us) (fun _ s'=>∃ σ' H',Inv X pins σ' H' s'/\Q σ' H') X.xe s
noncomputable abbrev TSet:=V->V->V->Hp->(Hp->Prop)->Prop
noncomputable def PSet(X:Cx)(t:TSet):Prop:=
 ∀ (pins:List (Addr×Obj)) (s:Shared) (σ:St) (H:Hp) (o i v:V) (ov iv u:Value) (Q:Hp->Prop),Inv X pins σ H s->RelV o ov->RelV i iv->RelV v u->t o i v H Q ->
  wpAny (model X.prog X.w) X.A (setItem ov iv u) (fun _ s'=>∃ H',Inv X pins σ H' s'/\Q H') X.xe s
section
variable{X:Cx}{pos:Pos}
noncomputable def gName(i:Nat):TG:=fun v σ H Q=>Q (σ.set i (some v)) H
theorem pg_name{i:Nat}{x:Str}(hN:X.N.Nodup)(hi:X.N[i]?=some x)(hx:Loc X.env.scope x)(hf:X.fn x=true\/X.env.scope.names.lookup x=some .local:=by first | exact .inl rfl | exact .inr rfl | assumption):PG X (.Name x pos) (gName i):=by
 intro pins s σ H v u Q I r h
 exact wpAny_assign_Name (store_ok I hN hi hx r (fun s' I'=>⟨_,H,I',h⟩) hf)
noncomputable def gNil:TGs:=fun vs σ H Q=>vs=[]/\Q σ H
noncomputable def gCons(t:TG)(u:TGs):TGs:=fun vs σ H Q=>∃ v r,vs=v::r/\t v σ H fun σ' H'=>u r σ' H' Q
theorem pgs_nil:PGs X [] gNil:=by
 intro pins s σ H vs us Q I r h
 obtain⟨e,h⟩:=h
 subst e
 cases r
 exact assignInOrder_nil ⟨σ,H,I,h⟩
theorem pgs_cons{e:Expr}{es:List Expr}{t:TG}{u:TGs}(h1:PG X e t)(h2:PGs X es u)
  (hs:(assignEach (e::es) X.env).map (·.2)=assign e X.env::(assignEach es X.env).map (·.2):=by rfl):PGs X (e::es) (gCons t u):=by
 intro pins s σ H vs us Q I r h
 obtain⟨v,vr,e1,h⟩:=h
 subst e1
 cases r with
 | cons r rr=>
  rw[hs]
  refine assignInOrder_cons (thn (h1 pins s σ H _ _ _ I r h) fun _ s1 ⟨σ1,H1,I1,q1⟩ => ?_)
  exact h2 pins s1 σ1 H1 _ _ Q I1 rr q1
noncomputable def gTup(K:PySem.W.Frag)(n:Nat)(t:TGs):TG:=fun v σ H Q=>∃ a xs,v=.ref a/\SqT K H a xs/\xs.length=n/\t xs σ H Q
theorem pg_tup{es:List Expr}{k:Nat}{t:TGs}{n:Nat}(hc:X.calm=true)(h:PGs X es t)
  (hn:(assignEach es X.env).length=n:=by rfl) (hst:(assignEach es X.env).findIdx? (·.1)=none:=by rfl):PG X (.Tuple es k pos) (gTup X.K n t):=by
 intro pins s σ H v u Q I r hw
 obtain⟨a,xs,e1,hq,hl,hw⟩:=hw
 subst e1
 cases r
 obtain⟨its,rv,ht,hz⟩:=I.tuple hq
 refine assign_Tuple_tuple (I.ok.hd hc) ht (by simp[hn,← hl,rv.length]) hst fun h' hx => ?_
 have I1:Inv X pins σ H { s with heap:=h' }:=I.kept (t':=s.toks) fun b o e=>hx b o (Nat.ne_of_lt (Heap.lt_size e)) e
 exact h pins _ σ H xs _ Q I1 (by simpa using rv) hw
noncomputable def tAsg(te:TE)(g:TG):TS:=fun D σ H=>te σ H fun x H1=>g x σ H1 D.nx
theorem ps_asg{tg e:Expr}{te:TE}{g:TG}(he:PE X e te)(hg:PG X tg g)(hs:swapsWithSole [tg] e pos.line X.env=pure false:=by rfl)(hw:swappedStores [tg] e X.env=pure none:=by rfl)
  (h1:(assignEach [tg] X.env).map (·.2)=[assign tg X.env]:=by rfl):PS X (.Assign [tg] e pos) (tAsg te g):=by
 intro pins s σ H D I h
 refine wpAny_Assign_stores (thn (he pins s σ H _ I h) fun v s1 ⟨x,H1,I1,r1,q1⟩ => ?_) hs hw
 rw[h1]
 exact thn (hg pins s1 σ H1 x v _ I1 r1 q1) fun _ s2 q=>q
theorem ps_set{i:Nat}{x:Str}{e:Expr}{te:TE}{pos':Pos}(hN:X.N.Nodup)(hi:X.N[i]?=some x)(hx:Loc X.env.scope x)(he:PE X e te)(hs:swapsWith e (some (.Name x pos')) pos.line X.env=pure false:=by rfl)(hf:X.fn x=true\/X.env.scope.names.lookup x=some .local:=by first | exact .inl rfl | exact .inr rfl | assumption) :
  PS X (.Assign [.Name x pos'] e pos) (tAsg te (gName i)):=by
 intro pins s σ H D I h
 refine wpAny_Assign_Name (thn (he pins s σ H _ I h) fun v s1 ⟨y,H1,I1,r1,q1⟩ => ?_) hs
 exact store_ok I1 hN hi hx r1 (fun s2 I2=>⟨_,H1,I2,q1⟩) hf
end
section
variable{X:Cx}{pos:Pos}
noncomputable def tWhile(c:TT)(tb:TS):TS:=fun D σ H=>∃ W:Nat->St->Hp->Prop,(∃ m,W m σ H)/\∀ m σ H,W m σ H ->
 c σ H fun b H1=>if b=true then ∃ N:St->Hp->Prop,(∀ σ' H',N σ' H'->∃ m',m' < m/\W m' σ' H')/\tb { D with nx:=N,ct:=N,bk:=D.nx } σ H1 else D.nx σ H1
theorem ps_while{c:Expr}{body:List Stmt}{tc:TT}{tb:TS}(hp:PassesOwn (model X.prog X.w) X.A X.env X.xe)(hc:PT X c tc)(hb:PSs X body tb):PS X (.While c body [] pos) (tWhile tc tb):=by
 intro pins s σ H D I h
 obtain⟨W,⟨m0,w0⟩,turn⟩:=h
 refine wpAny_While (codeAny_whileLoop (fun n s'=>∃ σ' H',Inv X pins σ' H' s'/\W n σ' H') ?_ m0 ⟨σ,H,I,w0⟩)
 rintro n s1 ⟨σ1,H1,I1,w1⟩
 refine wpAny_passesOwn hp (thn (hc pins s1 σ1 H1 _ I1 (turn n σ1 H1 w1)) fun b s2 ⟨H2,I2,q2⟩ => ?_)
 cases b with
 | true=>
  obtain⟨N,hN,q2⟩:=q2
  rw[if_pos rfl]
  refine wpAny_passesOwn hp (thn (hb pins s2 σ1 H2 _ I2 q2) fun f s3 q3 => ?_)
  cases f with
  | next=>
   obtain⟨σ3,H3,I3,n3⟩:=q3
   obtain⟨m',hm,w3⟩:=hN σ3 H3 n3
   exact⟨m',hm,σ3,H3,I3,w3⟩
  | cont=>
   obtain⟨σ3,H3,I3,n3⟩:=q3
   obtain⟨m',hm,w3⟩:=hN σ3 H3 n3
   exact⟨m',hm,σ3,H3,I3,w3⟩
  | brk=>exact q3
  | ret v=>exact q3
 | false=>
  rw[if_neg Bool.false_ne_true]
  exact wpAny_execs_nil ⟨σ1,H2,I2,q2⟩
end
structure It where
 go:Nat->Hp->Prop
 yld:Nat->Hp->V->Hp->Prop
 stop:Nat->Hp->Prop
noncomputable def FpOk(X:Cx)(pins:List (Addr×Obj))(H:Hp)(b:Addr):Prop:=
 H b=none/\b≠X.env.locals/\b∉X.fs/\(b∈X.ex\/X.s₀.heap.objs.size<=b)/\(∀ x c,X.env.cells.lookup x=some c->c≠b)/\∀ p∈X.pn++pins,p.1≠b
theorem Inv.fpOk{X:Cx}{pins:List (Addr×Obj)}{σ:St}{H H':Hp}{s:Shared}{b:Addr}(I:Inv X pins σ H s)(hb:s.heap.objs.size<=b)(hn:H' b=none):FpOk X pins H' b:=by
 refine⟨hn,Nat.ne_of_gt (Nat.lt_of_lt_of_le I.lt hb),I.nofs hb,.inr (Nat.le_trans I.sz hb),fun x c e z => ?_,fun p hp z => ?_⟩
 ·obtain⟨v,q⟩:=I.cell x c e
  exact absurd (Nat.lt_of_lt_of_le q.lt (by rw[z];exact hb)) (Nat.lt_irrefl _)
 ·exact absurd (Nat.lt_of_lt_of_le (Heap.lt_size (I.pin p hp).1) (by rw[z];exact hb)) (Nat.lt_irrefl _)
structure Turn(P:Program)(w:World)(K:PySem.W.Frag)(tg:Expr)(J:It)(fp:List Addr)(it:Addr)(tn:Nat->Heap->Prop):Prop where
 mem:it∈fp
 obj:∀ i h,tn i h->∀ b∈fp,∃ o,h.get? b=some o/\∀ v,o.data≠.cell v
 keep:∀ i h h',tn i h->(∀ b∈fp,∀ o,h.get? b=some o->h'.get? b=some o)->tn i h'
 item:∀ (X:Cx),X.prog=P->X.w=w->X.K=K->X.calm=true->∀ (i:Nat) (pins:List (Addr×Obj)) (s:Shared) (σ:St) (H:Hp) (E:Value->Shared->Prop),Inv X pins σ H s->(∀ b∈fp,FpOk X pins H b)->tn i s.heap->J.go i H ->
  wpAny (model P w) X.A (pyNext (.ref it)) (fun r s1=>∃ u,r=some u /\
   wpAny (model P w) X.A (letOwnedTupleGo tg (.ref it) u) (fun _ s2=>∃ x H',Inv X pins σ H' s2/\RelV x u/\J.yld i H x H'/\tn (i + 1) s2.heap/\∀ b∈fp,H' b=none) E s1) E s
 done:∀ (X:Cx),X.prog=P->X.w=w->X.K=K->X.calm=true->∀ (i:Nat) (pins:List (Addr×Obj)) (s:Shared) (σ:St) (H:Hp) (E:Value->Shared->Prop),Inv X pins σ H s->(∀ b∈fp,FpOk X pins H b)->tn i s.heap->J.stop i H ->
  wpAny (model P w) X.A (pyNext (.ref it)) (fun r s1=>r=none/\Inv X pins σ H s1) E s
 self:∀ (A:Around) (i:Nat) (s:Shared) (Q:Value->Shared->Prop) (E:Value->Shared->Prop),tn i s.heap->Q (.ref it) s->wpAny (model P w) A (pyIter (.ref it)) Q E s
noncomputable abbrev TI:=St->Hp->(It->Hp->Prop)->Prop
noncomputable def PIE(X:Cx)(pins:List (Addr×Obj))(σ:St)(tg:Expr)(R:It->Hp->Prop)(itv:Value)(s2:Shared):Prop:=
 ∃ (it:Addr) (fp:List Addr) (tn:Nat->Heap->Prop) (J:It) (H':Hp),itv=.ref it/\Inv X pins σ H' s2/\Turn X.prog X.w X.K tg J fp it tn/\tn 0 s2.heap/\(∀ b∈fp,FpOk X pins H' b)/\R J H'
noncomputable def PI(X:Cx)(tg iter:Expr)(wi:TI):Prop:=
 ∀ (pins:List (Addr×Obj)) (s:Shared) (σ:St) (H:Hp) (R:It->Hp->Prop),Inv X pins σ H s->wi σ H R ->
  wpAny (model X.prog X.w) X.A (eval iter X.env) (fun v s1=>wpAny (model X.prog X.w) X.A (pyIter v) (PIE X pins σ tg R) X.xe s1) X.xe s
theorem go_of{M:Model}{A:Around}{E:Value->Shared->Prop}{s:Shared}{tg:Expr}{it:Addr}{u:Value}{o:Obj}{n:String}{vs:Array Value}{Q:Unit->Shared->Prop}(ho:s.heap.get? it=some o)(hc:o.cls=.type n)(hd:o.data=.fields vs)
    (hn:["enumerate","zip","dict_itemiterator","dict_reverseitemiterator","odict_iterator","itertools.zip_longest","itertools.pairwise"].contains n=false) (hQ:Q () s):wpAny M A (letOwnedTupleGo tg (.ref it) u) Q E s:=by
  unfold letOwnedTupleGo
  cases tg<;>first
    | exact wpAny_pure hQ
    | (cases u<;>first
        | exact wpAny_pure hQ
        | (refine wpAny_bind (wpAny_load ho ?_)
           rw[hc,hd]
           show wpAny M A (if (["enumerate","zip","dict_itemiterator","dict_reverseitemiterator","odict_iterator","itertools.zip_longest","itertools.pairwise"].contains n && vs[0]? == some (rawInt _))=true then _ else _) Q E s
           rw[if_neg (by intro h;rw[hn,Bool.false_and]at h;cases h)]
           exact wpAny_pure hQ))
noncomputable def Itl(K:PySem.W.Frag)(a:Addr):It:=
 ⟨fun i H=>∃ xs x,SqL K H a xs/\xs[i]?=some x,fun i H x H'=>H'=H/\∀ xs,SqL K H a xs->xs[i]?=some x,fun i H=>∃ xs,SqL K H a xs/\xs.length<=i⟩
noncomputable def Itt(K:PySem.W.Frag)(a:Addr):It:=
 ⟨fun i H=>∃ xs x,SqT K H a xs/\xs[i]?=some x,fun i H x H'=>H'=H/\∀ xs,SqT K H a xs->xs[i]?=some x,fun i H=>∃ xs,SqT K H a xs/\xs.length<=i⟩
noncomputable def Itr(lo:Int)(n:Nat):It:=⟨fun i _=>i < n,fun i H x H'=>H'=H/\x=.int (lo + i),fun i _=>n<=i⟩
theorem turn_list{P:Program}{w:World}{K:PySem.W.Frag}{tg:Expr}(a it:Addr):Turn P w K tg (Itl K a) [it] it (fun i h=>h.IsListIter it a i) where
 mem:=by simp
 obj:=fun i h st b hb=>by
  have e:b=it:=by simpa using hb
  subst e
  obtain⟨o,e,c,d⟩:=st
  exact⟨o,e,fun v z=>by rw[d]at z;cases z⟩
 keep:=fun i h h' st k=>st.at fun o e=>k it (by simp) o e
 item:=by
  intro X hP hw hK hc i pins s σ H E I hf st hg
  subst hP hw hK
  obtain⟨xs,x,hq,hx⟩:=hg
  obtain⟨its,rv,p,hz⟩:=I.list hq
  obtain⟨u,hu,ru⟩:=rv.get hx
  obtain⟨f0,f1,f2,f3,f4,f5⟩:=hf it (by simp)
  refine wpAny_pyNext_list_item st p.isList (x:=u) (by simpa using hu) fun h' st' sb => ?_
  have I1:Inv X pins σ H { s with heap:=h' }:=I.turned (t':=s.toks) (fun b o hb e=>(sb.2 b hb).trans e) f0 f1 f3 f4 f5
  obtain⟨o,e,c,d⟩:=id st'
  exact⟨u,rfl,go_of (s:={ s with heap:=h' }) e c d (by decide) ⟨x,H,I1,ru,⟨rfl,fun ys hy=>by rw[I.list_inj hy hq];exact hx⟩,st',fun b hb=>(hf b hb).1⟩⟩
 done:=by
  intro X hP hw hK hc i pins s σ H E I hf st hg
  subst hP hw hK
  obtain⟨xs,hq,hx⟩:=hg
  obtain⟨its,rv,p,hz⟩:=I.list hq
  obtain⟨f0,f1,f2,f3,f4,f5⟩:=hf it (by simp)
  have hl:=rv.length
  exact wpAny_pyNext_list_end (I.ok.hd hc) st p.isList (by simp;omega) fun h' eb=>⟨rfl,I.turned (t':=s.toks) (fun b o hb e=>eb b o hb e) f0 f1 f3 f4 f5⟩
 self:=fun _ _ _ _ _ st h=>wpAny_pyIter_listiter st h
theorem turn_tuple{P:Program}{w:World}{K:PySem.W.Frag}{tg:Expr}(a it:Addr):Turn P w K tg (Itt K a) [it] it (fun i h=>h.IsTupleIter it a i) where
 mem:=by simp
 obj:=fun i h st b hb=>by
  have e:b=it:=by simpa using hb
  subst e
  obtain⟨o,e,c,d⟩:=st
  exact⟨o,e,fun v z=>by rw[d]at z;cases z⟩
 keep:=fun i h h' st k=>st.at fun o e=>k it (by simp) o e
 item:=by
  intro X hP hw hK hc i pins s σ H E I hf st hg
  subst hP hw hK
  obtain⟨xs,x,hq,hx⟩:=hg
  obtain⟨its,rv,p,hz⟩:=I.tuple hq
  obtain⟨u,hu,ru⟩:=rv.get hx
  obtain⟨f0,f1,f2,f3,f4,f5⟩:=hf it (by simp)
  refine wpAny_pyNext_tuple_item st (show s.heap.IsTuple a its.toArray from p) (x:=u) (by simpa using hu) fun h' st' sb => ?_
  have I1:Inv X pins σ H { s with heap:=h' }:=I.turned (t':=s.toks) (fun b o hb e=>(sb.2 b hb).trans e) f0 f1 f3 f4 f5
  obtain⟨o,e,c,d⟩:=id st'
  exact⟨u,rfl,go_of (s:={ s with heap:=h' }) e c d (by decide) ⟨x,H,I1,ru,⟨rfl,fun ys hy=>by rw[I.tuple_inj hy hq];exact hx⟩,st',fun b hb=>(hf b hb).1⟩⟩
 done:=by
  intro X hP hw hK hc i pins s σ H E I hf st hg
  subst hP hw hK
  obtain⟨xs,hq,hx⟩:=hg
  obtain⟨its,rv,p,hz⟩:=I.tuple hq
  obtain⟨f0,f1,f2,f3,f4,f5⟩:=hf it (by simp)
  have hl:=rv.length
  exact wpAny_pyNext_tuple_end (I.ok.hd hc) st (show s.heap.IsTuple a its.toArray from p) (by simp;omega) fun h' eb=>⟨rfl,I.turned (t':=s.toks) (fun b o hb e=>eb b o hb e) f0 f1 f3 f4 f5⟩
 self:=fun _ _ _ _ _ st h=>wpAny_pyIter_tupleiter st h
theorem turn_range{P:Program}{w:World}{K:PySem.W.Frag}{tg:Expr}(it:Addr)(lo:Int)(n:Nat):Turn P w K tg (Itr lo n) [it] it (fun i h=>IsRangeIter h it (lo + (i:Nat) * 1) ((n:Int) - (i:Nat)) 1) where
 mem:=by simp
 obj:=fun i h st b hb=>by
  have e:b=it:=by simpa using hb
  subst e
  exact⟨_,st,fun v z=>by
   have z':Data.fields _=Data.cell v:=z
   cases z'⟩
 keep:=fun i h h' st k=>k it (by simp) _ st
 item:=by
  intro X hP hw hK hc i pins s σ H E I hf st hg
  subst hP hw hK
  obtain⟨f0,f1,f2,f3,f4,f5⟩:=hf it (by simp)
  have W:=Walks.range (prog:=X.prog) (w:=X.w) (I.ok.hd hc) it lo 1 n
  refine W.item i s _ _ hg st fun v h' tk hv st' kk => ?_
  obtain⟨t,rfl⟩:=hv
  have I1:Inv X pins σ H { s with heap:=h',toks:=tk }:=I.turned (fun b o hb e=>kk b o (by simpa using hb) e) f0 f1 f3 f4 f5
  refine⟨_,rfl,go_of (s:={ s with heap:=h',toks:=tk }) (n:="range_iterator") st' rfl rfl (by decide) ⟨.int (lo + i),H,I1,⟨t,?_⟩,⟨rfl,rfl⟩,st',fun b hb=>(hf b hb).1⟩⟩
  rw[Int.mul_one]
 done:=by
  intro X hP hw hK hc i pins s σ H E I hf st hg
  subst hP hw hK
  obtain⟨f0,f1,f2,f3,f4,f5⟩:=hf it (by simp)
  exact wpAny_pyNext_range_end (I.ok.hd hc) st (by have:n<=i:=hg;omega) fun h' eb=>⟨rfl,I.turned (t':=s.toks) (fun b o hb e=>eb b o hb e) f0 f1 f3 f4 f5⟩
 self:=fun _ _ _ _ _ st h=>wpAny_pyIter_rangeiter st h
end L2
namespace L2
open PySem PySem.Spec PyProof.Rows
section
variable{X:Cx}{tg:Expr}
theorem range_it{pins:List (Addr×Obj)}{σ:St}{H:Hp}{s:Shared}{R:It->Hp->Prop}{E:Value->Shared->Prop}{lo hi:Int}{t u v:Tok}{tk:Nat}(I:Inv X pins σ H s)(h1 : -(2 ^ 62)<=lo)(h2:lo < 2 ^ 62)(h3 : -(2 ^ 62)<=hi)(h4:hi < 2 ^ 62)
  (q:R (Itr lo (hi - lo).toNat) H):wpAny (model X.prog X.w) X.A (pyIter (.ref s.heap.objs.size)) (PIE X pins σ tg R) E { s with heap:=s.heap.push { cls:=.type "range",data:=.fields #[.int lo t,.int hi u,.int 1 v] },toks:=tk }:=by
 refine wpAny_pyIter_range (IsRange.new ..) (small_one h1 h2 h3 h4) ?_
 have I1:Inv X pins σ H { s with heap:=s.heap.push { cls:=.type "range",data:=.fields #[.int lo t,.int hi u,.int 1 v] },toks:=tk }:=I.kept fun b o e=>Heap.get?_push_of_some _ e
 refine⟨(s.heap.push { cls:=.type "range",data:=.fields #[.int lo t,.int hi u,.int 1 v] }).objs.size,[(s.heap.push { cls:=.type "range",data:=.fields #[.int lo t,.int hi u,.int 1 v] }).objs.size],_,_,H,rfl,
  I1.kept (t':=tk) fun b o e=>Heap.get?_push_of_some _ e,turn_range _ lo (hi - lo).toNat,?_,fun b hb => ?_,q⟩
 ·have e1:lo + ((0:Nat):Int) * 1=lo:=by simp
  have e2:(((hi - lo).toNat:Nat):Int) - ((0:Nat):Int)=Builtin.Range.rangeSize lo hi 1:=by rw[rangeSize_one];split<;>omega
  show IsRangeIter _ _ (lo + ((0:Nat):Int) * 1) ((((hi - lo).toNat:Nat):Int) - ((0:Nat):Int)) 1
  rw[e1,e2]
  exact Heap.get?_push_size _ rfl
 ·have e:b=(s.heap.push { cls:=.type "range",data:=.fields #[.int lo t,.int hi u,.int 1 v] }).objs.size:=by simpa using hb
  subst e
  exact I1.fpOk (Nat.le_refl _) (I1.hok.fresh (Nat.le_refl _))
noncomputable def iRng1(ta:TA):TI:=fun σ H R=>ta σ H fun vs H1=>∃ j:Int,vs=[.int j] /\ -(2 ^ 62)<=j/\j < 2 ^ 62/\R (Itr 0 j.toNat) H1
theorem pi_range1{a:Expr}{ta:TA}{p pos:Pos}(hg:Gl X "range")(hm:X.mg "range"=none)(ha:PA X [a] ta)(hs:starEach [a] X.env=[(false,eval a X.env)]:=by rfl):PI X tg (.Call (.Name "range" p) [a] [] pos) (iRng1 ta):=by
 intro pins s σ H R I h
 refine Call_ (ld_blt I hg hm boot_range (PyProof.Rows.callWith_type1 (thn (ha pos pins s σ H _ I h) fun us s1 ⟨vs,H1,I1,r1,q1⟩ => ?_) hs rfl))
 obtain⟨j,e,q1,q2,q⟩:=q1
 subst e
 cases r1 with
 | cons r rr=>
  cases rr
  obtain⟨t,rfl⟩:=r
  exact call_range_1 (range_it I1 (by omega) (by omega) q1 q2 (by simpa using q))
noncomputable def tFor(wi:TI)(g:TG)(tb:TS):TS:=fun D σ H=>wi σ H fun J H1=>∃ W:Nat->Nat->St->Hp->Prop,(∃ m,W 0 m σ H1)/\∀ i m σ H,W i m σ H ->
 (J.stop i H/\D.nx σ H)\/(J.go i H/\∃ N:St->Hp->Prop,(∀ σ' H',N σ' H'->∃ m',m' < m/\W (i + 1) m' σ' H')/\∀ x H',J.yld i H x H'->g x σ H' fun σ2 H2=>tb { D with nx:=N,ct:=N,bk:=D.nx } σ2 H2)
noncomputable def pinsAt(fp:List Addr)(h:Heap):List (Addr×Obj):=fp.filterMap fun b=>(h.get? b).map fun o=>(b,o)
theorem mem_pinsAt{fp:List Addr}{h:Heap}{b:Addr}{o:Obj}(hb:b∈fp)(e:h.get? b=some o):(b,o)∈pinsAt fp h:=List.mem_filterMap.mpr ⟨b,hb,by rw[e];rfl⟩
theorem of_pinsAt{fp:List Addr}{h:Heap}{p:Addr×Obj}(hp:p∈pinsAt fp h):p.1∈fp/\h.get? p.1=some p.2:=by
 obtain⟨b,hb,e⟩:=List.mem_filterMap.mp hp
 cases q:h.get? b with
 | none=>rw[q]at e;cases e
 | some o=>
  rw[q]at e
  have e':(b,o)=p:=Option.some.inj e
  subst e'
  exact⟨hb,q⟩
theorem Inv.pinned{pins:List (Addr×Obj)}{σ:St}{H:Hp}{s:Shared}{fp:List Addr}(I:Inv X pins σ H s)(hf:∀ b∈fp,FpOk X pins H b)(ho:∀ b∈fp,∃ o,s.heap.get? b=some o/\∀ v,o.data≠.cell v):Inv X (pins++pinsAt fp s.heap) σ H s:=
 I.pins_of fun p hp=>(List.mem_append.mp hp).elim (fun z=>I.pin p (List.mem_append_right _ z)) fun z=>by
  obtain⟨hb,e⟩:=of_pinsAt z
  obtain⟨f0,f1,f2,_⟩:=hf p.1 hb
  obtain⟨o,e',d⟩:=ho p.1 hb
  rw[e]at e';cases e'
  exact⟨e,f0,f1,f2,d⟩
theorem Inv.unpinned{pins pl:List (Addr×Obj)}{σ:St}{H:Hp}{s:Shared}(I:Inv X (pins++pl) σ H s):Inv X pins σ H s:=I.pins_of fun p hp=>I.pin p (List.mem_append_right _ (List.mem_append_left _ hp))
theorem ps_for{iter:Expr}{body:List Stmt}{wi:TI}{g:TG}{tb:TS}{pos:Pos}(hp:PassesOwn (model X.prog X.w) X.A X.env X.xe)(hc:X.calm=true)(hi:PI X tg iter wi)(hg:PG X tg g)(hb:PSs X body tb)
  (hs:∀ x,foldedSetIterable iter X.env x=pure x:=by intro _;rfl):PS X (.For tg iter body [] pos) (tFor wi g tb):=by
 intro pins s σ H D I h
 refine wpAny_For (thn (hi pins s σ H _ I h) fun v s1 h1=>thn h1 fun itv s2 h2 => ?_) hs
 obtain⟨it,fp,tn,J,H2,e,I2,T,st2,f2,W,⟨m0,w0⟩,turn⟩:=h2
 subst e
 have stat:∀ {H':Hp},(∀ b∈fp,H' b=none)->∀ b∈fp,FpOk X pins H' b:=fun hn b hb=>⟨hn b hb,(f2 b hb).2⟩
 refine codeAny_forLoop_any (fun n s'=>∃ i σ' H',Inv X pins σ' H' s'/\tn i s'.heap/\(∀ b∈fp,H' b=none)/\W i n σ' H') ?_ m0 ⟨0,σ,H2,I2,st2,fun b hb=>(f2 b hb).1,w0⟩
 rintro n s3 ⟨i,σ3,H3,I3,st3,fr3,w3⟩
 rcases turn i n σ3 H3 w3 with ⟨stop,qn⟩ | ⟨go,N,hN,step⟩
 ·refine wpAny_passesOwn hp (thn (T.done X rfl rfl rfl hc i pins s3 σ3 H3 X.xe I3 (stat fr3) st3 stop) fun r s4 ⟨hr,I4⟩ => ?_)
  subst hr
  exact wpAny_execs_nil ⟨σ3,H3,I4,qn⟩
 ·refine wpAny_passesOwn hp (thn (T.item X rfl rfl rfl hc i pins s3 σ3 H3 X.xe I3 (stat fr3) st3 go) fun r s4 ⟨u,hr,h4⟩ => ?_)
  subst hr
  refine wpAny_passesOwn hp (thn h4 fun _ s5 ⟨x,H5,I5,r5,y5,st5,fr5⟩ => ?_)
  have I5':=I5.pinned (stat fr5) (T.obj _ _ st5)
  refine wpAny_passesOwn hp (thn (hg _ s5 σ3 H5 x u _ I5' r5 (step x H5 y5)) fun _ s6 ⟨σ6,H6,I6,q6⟩ => ?_)
  refine wpAny_passesOwn hp (thn (hb _ s6 σ6 H6 _ I6 q6) fun f s7 q7 => ?_)
  have again:∀ {σ7:St} {H7:Hp},Inv X (pins++pinsAt fp s5.heap) σ7 H7 s7->N σ7 H7->∃ m,m < n/\∃ i σ' H',Inv X pins σ' H' s7/\tn i s7.heap/\(∀ b∈fp,H' b=none)/\W i m σ' H':=fun {σ7 H7} I7 n7=>by
   obtain⟨m',hm,w7⟩:=hN σ7 H7 n7
   refine⟨m',hm,i + 1,σ7,H7,I7.unpinned,T.keep _ _ _ st5 fun b hb o e=>(I7.pin (b,o) (List.mem_append_right _ (List.mem_append_right _ (mem_pinsAt hb e)))).1,fun b hb => ?_,w7⟩
   obtain⟨o,e,d⟩:=T.obj _ _ st5 b hb
   exact(I7.pin (b,o) (List.mem_append_right _ (List.mem_append_right _ (mem_pinsAt hb e)))).2.1
  cases f with
  | next=>obtain⟨σ7,H7,I7,n7⟩:=q7;exact again I7 n7
  | cont=>obtain⟨σ7,H7,I7,n7⟩:=q7;exact again I7 n7
  | brk=>obtain⟨σ7,H7,I7,q7⟩:=q7;exact⟨σ7,H7,I7.unpinned,q7⟩
  | ret v=>obtain⟨x7,σ7,H7,I7,r7,q7⟩:=q7;exact⟨x7,σ7,H7,I7.unpinned,r7,q7⟩
end
end L2
namespace L2
open PySem PySem.Spec PyProof.Rows
noncomputable abbrev R2:=V->V->Hp->VK->Prop
noncomputable def OpR(X:Cx)(f:Value->Value->Sem Value)(r:R2):Prop:=
 ∀ (pins:List (Addr×Obj)) (s:Shared) (σ:St) (H:Hp) (x y:V) (v u:Value) (Q:VK),Inv X pins σ H s->RelV x v->RelV y u->r x y H Q ->
  wpAny (model X.prog X.w) X.A (f v u) (EP X pins σ Q) X.xe s
noncomputable def UnR(X:Cx)(f:Value->Sem Value)(r:V->Hp->VK->Prop):Prop:=
 ∀ (pins:List (Addr×Obj)) (s:Shared) (σ:St) (H:Hp) (x:V) (v:Value) (Q:VK),Inv X pins σ H s->RelV x v->r x H Q ->
  wpAny (model X.prog X.w) X.A (f v) (EP X pins σ Q) X.xe s
noncomputable def CallR(X:Cx)(f:Value)(r:List V->Hp->VK->Prop):Prop:=
 ∀ (pins:List (Addr×Obj)) (s:Shared) (σ:St) (H:Hp) (xs:List V) (us:List Value) (Q:VK),Inv X pins σ H s->Vals xs us->r xs H Q ->
  wpAny (model X.prog X.w) X.A (call f us) (EP X pins σ Q) X.xe s
noncomputable def TruR(X:Cx)(r:V->Hp->(Bool->Hp->Prop)->Prop):Prop:=
 ∀ (pins:List (Addr×Obj)) (s:Shared) (σ:St) (H:Hp) (x:V) (v:Value) (Q:Bool->Hp->Prop),Inv X pins σ H s->RelV x v->r x H Q ->
  wpAny (model X.prog X.w) X.A (truthy v) (TP X pins σ Q) X.xe s
noncomputable def tOp(r:R2)(ta tb:TE):TE:=fun σ H Q=>ta σ H fun x H1=>tb σ H1 fun y H2=>r x y H2 Q
noncomputable def tUn(r:V->Hp->VK->Prop)(ta:TE):TE:=fun σ H Q=>ta σ H fun x H1=>r x H1 Q
noncomputable def rI(C:Int->Int->Prop)(g:Int->Int->V):R2:=fun x y H Q=>∃ i j,x=.int i/\y=.int j/\C i j/\Q (g i j) H
noncomputable def rI0(g:Int->Int->V):R2:=fun x y H Q=>∃ i j,x=.int i/\y=.int j/\Q (g i j) H
noncomputable def rU(g:Int->V):V->Hp->VK->Prop:=fun x H Q=>∃ i,x=.int i/\Q (g i) H
section
variable{X:Cx}{a b c:Expr}{ta tb tc:TE}{pos:Pos}
theorem binT(ha:PE X a ta)(hb:PE X b tb){pins:List (Addr×Obj)}{s:Shared}{σ:St}{H:Hp}{R:V->V->Hp->Prop}(I:Inv X pins σ H s)
  (h:ta σ H fun x H1=>tb σ H1 fun y H2=>R x y H2) {Q:Value->Shared->Prop} {f:Value->Value->Sem Value}
  (hf:∀ v u s2 x y H2,Inv X pins σ H2 s2->RelV x v->RelV y u->R x y H2->wpAny (model X.prog X.w) X.A (f v u) Q X.xe s2) :
  wpAny (model X.prog X.w) X.A (eval a X.env) (fun v s₁=>wpAny (model X.prog X.w) X.A (eval b X.env) (fun u s₂=>wpAny (model X.prog X.w) X.A (f v u) Q X.xe s₂) X.xe s₁) X.xe s:=by
 refine thn (ha pins s σ H _ I h) fun v s1 ⟨x,H1,I1,r1,q1⟩ => ?_
 refine thn (hb pins s1 σ H1 _ I1 q1) fun u s2 ⟨y,H2,I2,r2,q2⟩ => ?_
 exact hf v u s2 x y H2 I2 r1 r2 q2
theorem pe_op{op:Operator}{r:R2}(ho:OpR X (binaryOp op) r)(ha:PE X a ta)(hb:PE X b tb):PE X (.BinOp a op b pos) (tOp r ta tb):=by
 intro pins s σ H Q I h
 exact wpAny_BinOp (binT ha hb I h fun v u s2 x y H2 I2 rx ry q=>ho pins s2 σ H2 x y v u Q I2 rx ry q)
theorem pe_un{op:UnaryOp}{r:V->Hp->VK->Prop}(ho:UnR X (unaryOp op) r)(ha:PE X a ta):PE X (.UnaryOp op a pos) (tUn r ta):=by
 intro pins s σ H Q I h
 exact UnaryOp_ (thn (ha pins s σ H _ I h) fun v s1 ⟨x,H1,I1,r1,q1⟩=>ho pins s1 σ H1 x v Q I1 r1 q1)
theorem opI{f:Value->Value->Sem Value}{C:Int->Int->Prop}{g:Int->Int->Int}
  (rule:∀ (i j:Int) (t u:Tok) (s:Shared) (Q:Value->Shared->Prop) (E:Value->Shared->Prop),C i j->Q (.int (g i j) s.toks) { s with toks:=s.toks + 1 }->wpAny (model X.prog X.w) X.A (f (.int i t) (.int j u)) Q E s) :
  OpR X f (rI C fun i j=>.int (g i j)):=by
 intro pins s σ H x y v u Q I rx ry h
 obtain⟨i,j,rfl,rfl,hc,q⟩:=h
 obtain⟨t,rfl⟩:=rx
 obtain⟨t',rfl⟩:=ry
 exact rule i j t t' s _ _ hc ⟨.int (g i j),H,I.tok _,⟨_,rfl⟩,q⟩
theorem opI0{f:Value->Value->Sem Value}{g:Int->Int->Int}
  (rule:∀ (i j:Int) (t u:Tok) (s:Shared) (Q:Value->Shared->Prop) (E:Value->Shared->Prop),Q (.int (g i j) s.toks) { s with toks:=s.toks + 1 }->wpAny (model X.prog X.w) X.A (f (.int i t) (.int j u)) Q E s) :
  OpR X f (rI0 fun i j=>.int (g i j)):=by
 intro pins s σ H x y v u Q I rx ry h
 obtain⟨i,j,rfl,rfl,q⟩:=h
 obtain⟨t,rfl⟩:=rx
 obtain⟨t',rfl⟩:=ry
 exact rule i j t t' s _ _ ⟨.int (g i j),H,I.tok _,⟨_,rfl⟩,q⟩
theorem opB0{f:Value->Value->Sem Value}{g:Int->Int->Bool}
  (rule:∀ (i j:Int) (t u:Tok) (s:Shared) (Q:Value->Shared->Prop) (E:Value->Shared->Prop),Q (.bool (g i j)) s->wpAny (model X.prog X.w) X.A (f (.int i t) (.int j u)) Q E s) :
  OpR X f (rI0 fun i j=>.bl (g i j)):=by
 intro pins s σ H x y v u Q I rx ry h
 obtain⟨i,j,rfl,rfl,q⟩:=h
 obtain⟨t,rfl⟩:=rx
 obtain⟨t',rfl⟩:=ry
 exact rule i j t t' s _ _ ⟨.bl (g i j),H,I,rfl,q⟩
noncomputable def CDiv(i j:Int):Prop:=0 < j/\j < 1073741824
noncomputable def CPow(i j:Int):Prop:=0<=j/\j<=1000000/\i.natAbs < 2 ^ 64
noncomputable def CMul(i j:Int):Prop:=(-(2 ^ 64) < i/\i < 2 ^ 64)\/(-(2 ^ 64) < j/\j < 2 ^ 64)
theorem CMul.ok{i j:Int}(h:CMul i j):IntMulOk i j:=by
 rcases h with ⟨h1,h2⟩ | ⟨h1,h2⟩
 ·exact .of_left (intBits_le_64 h1 h2)
 ·exact .of_right (intBits_le_64 h1 h2)
theorem op_add:OpR X (binaryOp .Add) (rI0 fun i j=>.int (i + j)):=opI0 fun _ _ _ _ _ _ _ q=>add_int q
theorem op_sub:OpR X (binaryOp .Sub) (rI0 fun i j=>.int (i - j)):=opI0 fun _ _ _ _ _ _ _ q=>sub_int q
theorem op_mul:OpR X (binaryOp .Mult) (rI CMul fun i j=>.int (i * j)):=opI fun _ _ _ _ _ _ _ hc q=>mul_int q hc.ok
theorem op_fdiv:OpR X (binaryOp .FloorDiv) (rI CDiv fun i j=>.int (i / j)):=opI fun i j _ _ _ _ _ hc q=>by
 have h1:(0:Int) < j:=hc.1
 have h2:j < 1073741824:=hc.2
 exact floordiv_int (by omega) (by rw[Int.fdiv_eq_ediv_of_nonneg i (by omega)];exact q) (.inl (PyProof.noPylong_small (by omega)))
theorem op_mod:OpR X (binaryOp .Mod) (rI (fun _ j=>0 < j) fun i j=>.int (i % j)):=opI fun i j _ _ _ _ _ hc q=>by
 have h1:(0:Int) < j:=hc
 exact mod_int' (by omega) (by rw[Int.fmod_eq_emod_of_nonneg i (by omega)];exact q)
theorem op_pow:OpR X (binaryOp .Pow) (rI CPow fun i j=>.int (i ^ j.toNat)):=opI fun _ _ _ _ _ _ _ hc q=>pow_int_small hc.1 hc.2.1 hc.2.2 q
theorem unI{f:Value->Sem Value}{g:Int->Int}
  (rule:∀ (i:Int) (t:Tok) (s:Shared) (Q:Value->Shared->Prop) (E:Value->Shared->Prop),Q (.int (g i) s.toks) { s with toks:=s.toks + 1 }->wpAny (model X.prog X.w) X.A (f (.int i t)) Q E s) :
  UnR X f (rU fun i=>.int (g i)):=by
 intro pins s σ H x v Q I rx h
 obtain⟨i,rfl,q⟩:=h
 obtain⟨t,rfl⟩:=rx
 exact rule i t s _ _ ⟨.int (g i),H,I.tok _,⟨_,rfl⟩,q⟩
theorem un_neg:UnR X (unaryOp .USub) (rU fun i=>.int (-i)):=unI fun _ _ _ _ _ q=>neg_int q
end
noncomputable def scal:V->V->Bool
 | .non,.non=>true | .non,.int _=>true | .int _,.non=>true | .non,.bl _=>true | .bl _,.non=>true | .non,.str _=>true | .str _,.non=>true
 | .int _,.int _=>true | .bl _,.bl _=>true | .str _,.str _=>true | .byt _,.byt _=>true
 | .int _,.str _=>true | .str _,.int _=>true | .bl _,.str _=>true | .str _,.bl _=>true
 | _,_=>false
noncomputable def rEq:R2:=fun x y H Q=>scal x y=true/\Q (.bl (decide (x=y))) H
theorem dec_int{i j:Int}:decide (V.int i=V.int j)=(i == j):=by
 rw[Bool.eq_iff_iff]
 simp
theorem dec_bl{i j:Bool}:decide (V.bl i=V.bl j)=(i == j):=by
 rw[Bool.eq_iff_iff]
 simp
theorem dec_str{i j:Str}:decide (V.str i=V.str j)=(i == j):=by
 rw[Bool.eq_iff_iff]
 simp
theorem dec_byt{i j:Array UInt8}:decide (V.byt i=V.byt j)=(i.toList == j.toList):=by
 rw[Bool.eq_iff_iff]
 cases i
 cases j
 simp
section
variable{X:Cx}{a b c:Expr}{ta tb tc:TE}{pos:Pos}
theorem fin_bl{pins:List (Addr×Obj)}{σ:St}{H:Hp}{s:Shared}{Q:VK}{k k':Bool}(I:Inv X pins σ H s)(q:Q (.bl k) H)(e:k=k'):EP X pins σ Q (.bool k') s:=by
 subst e
 exact⟨.bl k,H,I,rfl,q⟩
theorem op_eq:OpR X (compareOp .Eq) rEq:=by
 intro pins s σ H x y v u Q I rx ry h
 obtain⟨hs,q⟩:=h
 cases x with
 | non=>
  cases rx
  cases y with
  | non=>cases ry;exact PySem.EqNone.eq_none_none (fin_bl I q (by simp))
  | bl j=>cases ry;exact PySem.EqNone.eq_none_bool (fin_bl I q (by simp))
  | int j=>obtain⟨t',rfl⟩:=ry;exact PySem.EqNone.eq_none_int (fin_bl I q (by simp))
  | str j=>obtain⟨t',rfl⟩:=ry;exact PySem.EqNone.eq_none_str (fin_bl I q (by simp))
  | _=>exact absurd (show false=true from hs) Bool.false_ne_true
 | bl i=>
  cases rx
  cases y with
  | non=>cases ry;exact PySem.EqNone.eq_bool_none (fin_bl I q (by simp))
  | bl j=>cases ry;exact eq_bool (fin_bl I q dec_bl)
  | str j=>obtain⟨t',rfl⟩:=ry;exact PySem.EqMixed.eq_bool_str (fin_bl I q (by simp))
  | _=>exact absurd (show false=true from hs) Bool.false_ne_true
 | int i=>
  obtain⟨t,rfl⟩:=rx
  cases y with
  | non=>cases ry;exact PySem.EqNone.eq_int_none (fin_bl I q (by simp))
  | int j=>obtain⟨t',rfl⟩:=ry;exact eq_int (fin_bl I q dec_int)
  | str j=>obtain⟨t',rfl⟩:=ry;exact PySem.EqMixed.eq_int_str (fin_bl I q (by simp))
  | _=>exact absurd (show false=true from hs) Bool.false_ne_true
 | str i=>
  obtain⟨t,rfl⟩:=rx
  cases y with
  | non=>cases ry;exact PySem.EqNone.eq_str_none (fin_bl I q (by simp))
  | bl j=>cases ry;exact PySem.EqMixed.eq_str_bool (fin_bl I q (by simp))
  | int j=>obtain⟨t',rfl⟩:=ry;exact PySem.EqMixed.eq_str_int (fin_bl I q (by simp))
  | str j=>obtain⟨t',rfl⟩:=ry;exact eq_str (fin_bl I q dec_str)
  | _=>exact absurd (show false=true from hs) Bool.false_ne_true
 | byt i=>
  obtain⟨t,rfl⟩:=rx
  cases y with
  | byt j=>obtain⟨t',rfl⟩:=ry;exact PySem.W.eq_bytes (fin_bl I q dec_byt)
  | _=>exact absurd (show false=true from hs) Bool.false_ne_true
 | _=>cases y<;>exact absurd (show false=true from hs) Bool.false_ne_true
theorem op_lt:OpR X (compareOp .Lt) (rI0 fun i j=>.bl (decide (i < j))):=opB0 fun _ _ _ _ _ _ _ q=>lt_int q
theorem op_le:OpR X (compareOp .LtE) (rI0 fun i j=>.bl (decide (i<=j))):=opB0 fun _ _ _ _ _ _ _ q=>le_int q
theorem op_gt:OpR X (compareOp .Gt) (rI0 fun i j=>.bl (decide (j < i))):=opB0 fun _ _ _ _ _ _ _ q=>gt_int q
theorem op_ge:OpR X (compareOp .GtE) (rI0 fun i j=>.bl (decide (j<=i))):=opB0 fun _ _ _ _ _ _ _ q=>ge_int q
theorem op_in_str:OpR X (compareOp .In) (fun x y H Q=>∃ i j,x=.str i/\y=.str j/\Q (.bl (!(Builtin.Str.occurrences j i 0 j.length 1).isEmpty)) H):=by
 intro pins s σ H x y v u Q I rx ry h
 obtain⟨i,j,rfl,rfl,q⟩:=h
 obtain⟨t,rfl⟩:=rx
 obtain⟨t',rfl⟩:=ry
 exact in_str (fin_bl I q rfl)
theorem op_isN:OpR X (compareOp .Is) (fun x y H Q=>y=.non/\Q (.bl (decide (x=.non))) H):=by
 intro pins s σ H x y v u Q I rx ry h
 obtain⟨rfl,q⟩:=h
 cases ry
 refine is_none_gen (fin_bl I q ?_)
 cases x<;>first
  | (cases rx;rfl)
  | (obtain⟨t,rfl⟩:=rx;rfl)
theorem op_notN:OpR X (compareOp .IsNot) (fun x y H Q=>y=.non/\Q (.bl (!decide (x=.non))) H):=by
 intro pins s σ H x y v u Q I rx ry h
 obtain⟨rfl,q⟩:=h
 cases ry
 refine isnot_none_gen (fin_bl I q ?_)
 cases x<;>first
  | (cases rx;rfl)
  | (obtain⟨t,rfl⟩:=rx;rfl)
theorem op_notin_str:OpR X (compareOp .NotIn) (fun x y H Q=>∃ i j,x=.str i/\y=.str j/\Q (.bl (!(!(Builtin.Str.occurrences j i 0 j.length 1).isEmpty))) H):=by
 intro pins s σ H x y v u Q I rx ry h
 obtain⟨i,j,rfl,rfl,q⟩:=h
 obtain⟨t,rfl⟩:=rx
 obtain⟨t',rfl⟩:=ry
 exact notIn_str (fin_bl I q rfl)
theorem OpR.or{f:Value->Value->Sem Value}{r r':R2}(h:OpR X f r)(h':OpR X f r'):OpR X f (fun x y H Q=>r x y H Q\/r' x y H Q):=by
 intro pins s σ H x y v u Q I rx ry q
 rcases q with q | q
 ·exact h pins s σ H x y v u Q I rx ry q
 ·exact h' pins s σ H x y v u Q I rx ry q
theorem nomark(b:Expr){op:CmpOp}(h:op≠.In:=by decide)(h2:op≠.NotIn:=by decide):behindInMarks op b=false:=by
 have e1:(op == CmpOp.In)=false:=by cases op<;>first | rfl | exact absurd rfl h
 have e2:(op == CmpOp.NotIn)=false:=by cases op<;>first | rfl | exact absurd rfl h2
 cases b<;>simp[behindInMarks,e1,e2]
theorem pe_cmpR{op:CmpOp}{r:R2}(ho:OpR X (compareOp op) r)(ha:PE X a ta)(hb:PE X b tb)(hm:behindInMarks op b=false):PE X (.Compare a [op] [b] pos) (tOp r ta tb):=by
 intro pins s σ H Q I h
 exact wpAny_Compare1 (binT ha hb I h fun v u s2 x y H2 I2 rx ry q=>ho pins s2 σ H2 x y v u Q I2 rx ry q) hm
noncomputable def tTest(t:TE):TT:=fun σ H Q=>t σ H fun x H'=>∃ k,x=.bl k/\Q k H'
theorem pt_cmpR{op:CmpOp}{r:R2}(ho:OpR X (compareOp op) r)(ha:PE X a ta)(hb:PE X b tb)(hm:behindInMarks op b=false):PT X (.Compare a [op] [b] pos) (tTest (tOp r ta tb)):=by
 intro pins s σ H Q I h
 refine wpAny_isTrue_Compare1 (thn (ha pins s σ H _ I h) fun v s1 ⟨x,H1,I1,r1,q1⟩=>thn (hb pins s1 σ H1 _ I1 q1) fun u s2 ⟨y,H2,I2,r2,q2⟩=>
  thn (ho pins s2 σ H2 x y v u _ I2 r1 r2 q2) fun c s3 ⟨z,H3,I3,r3,k,e,q3⟩ => ?_) hm
 subst e
 cases r3
 exact wpAny_truthy_bool ⟨H3,I3,q3⟩
noncomputable def tChain(r r':R2)(ta tb tc:TE):TE:=fun σ H Q=>ta σ H fun x H1=>tb σ H1 fun y H2=>r x y H2 fun z H3=>∃ k,z=.bl k /\
 (if k=true then tc σ H3 fun w' H4=>r' y w' H4 Q else Q (.bl false) H3)
theorem pe_chain{op op':CmpOp}{r r':R2}(ho:OpR X (compareOp op) r)(ho':OpR X (compareOp op') r')(ha:PE X a ta)(hb:PE X b tb)(hc:PE X c tc)
  (hm:lastMarks [op,op'] [b,c]=false:=by with_unfolding_all rfl):PE X (.Compare a [op,op'] [b,c] pos) (tChain r r' ta tb tc):=by
 intro pins s σ H Q I h
 refine Compare_chain (thn (ha pins s σ H _ I h) fun v s1 ⟨x,H1,I1,r1,q1⟩=>chain_link (thn (hb pins s1 σ H1 _ I1 q1) fun u s2 ⟨y,H2,I2,r2,q2⟩=>
  thn (ho pins s2 σ H2 x y v u _ I2 r1 r2 q2) fun d s3 ⟨z,H3,I3,r3,k,e,q3⟩ => ?_)) hm
 subst e
 cases r3
 refine wpAny_truthy_bool ?_
 cases k with
 | false=>exact ite_ff ⟨.bl false,H3,I3,rfl,q3⟩
 | true=>exact ite_tt (chain_last (thn (hc pins s3 σ H3 _ I3 q3) fun w' s4 ⟨z',H4,I4,r4,q4⟩=>ho' pins s4 σ H4 y z' u w' Q I4 r2 r4 q4))
theorem pt_chain{op op':CmpOp}{r r':R2}(ho:OpR X (compareOp op) r)(ho':OpR X (compareOp op') r')(ha:PE X a ta)(hb:PE X b tb)(hc:PE X c tc)
  (hm:lastMarks [op,op'] [b,c]=false:=by with_unfolding_all rfl):PT X (.Compare a [op,op'] [b,c] pos) (tTest (tChain r r' ta tb tc)):=by
 intro pins s σ H Q I h
 refine isTrue_chain (thn (ha pins s σ H _ I h) fun v s1 ⟨x,H1,I1,r1,q1⟩=>test_link (thn (hb pins s1 σ H1 _ I1 q1) fun u s2 ⟨y,H2,I2,r2,q2⟩=>
  thn (ho pins s2 σ H2 x y v u _ I2 r1 r2 q2) fun d s3 ⟨z,H3,I3,r3,k,e,q3⟩ => ?_)) hm
 subst e
 cases r3
 refine wpAny_truthy_bool ?_
 cases k with
 | false=>
  obtain⟨k',e',q'⟩:=q3
  cases e'
  exact ite_ff ⟨H3,I3,q'⟩
 | true=>
  refine ite_tt (test_last (thn (hc pins s3 σ H3 _ I3 q3) fun w' s4 ⟨z',H4,I4,r4,q4⟩=>thn (ho' pins s4 σ H4 y z' u w' _ I4 r2 r4 q4) fun d' s5 ⟨z2,H5,I5,r5,k2,e2,q5⟩ => ?_))
  subst e2
  cases r5
  exact wpAny_truthy_bool ⟨H5,I5,q5⟩
noncomputable def TruV(K:PySem.W.Frag)(x:V)(H:Hp)(k:Bool):Prop:=
 match x with
 | .non=>k=false
 | .bl b=>k=b
 | .int i=>k=(i != 0)
 | .str y=>y.length<=sizeLine/\k=((y.length:Int) != 0)
 | .byt y=>y.size<=sizeLine/\k=((y.size:Int) != 0)
 | .ref p=>(∃ xs,SqL K H p xs/\k = !xs.isEmpty)\/(∃ xs,SqT K H p xs/\k = !xs.isEmpty)\/∃ kvs,H p=some (.dK kvs)/\k = !kvs.isEmpty
 | _=>False
theorem isEmpty_kv{κ:Type}{kvs:List (κ×V)}{vs:List (κ×Value)}(r:KV kvs vs):(!vs.isEmpty) = !kvs.isEmpty:=by
 cases r<;>rfl
theorem isEmpty_of{xs:List V}{its:List Value}(r:Vals xs its):(!its.toArray.isEmpty) = !xs.isEmpty:=by
 cases r<;>simp
theorem line63:(sizeLine:Nat) < 2 ^ 63:=by rw[sizeLine_eq];decide
theorem tru_ok:TruR X (fun x H Q=>∃ k,TruV X.K x H k/\Q k H):=by
 intro pins s σ H x v Q I rx h
 obtain⟨k,e,q⟩:=h
 have hl:=line63
 have hs:sizeLine=16777216:=sizeLine_eq
 cases x with
 | non=>
  cases rx
  have e':k=false:=e
  subst e'
  exact truthy_none ⟨H,I,q⟩
 | bl b=>
  cases rx
  have e':k=b:=e
  subst e'
  exact wpAny_truthy_bool ⟨H,I,q⟩
 | int i=>
  obtain⟨t,rfl⟩:=rx
  have e':k=(i != 0):=e
  subst e'
  exact PySem.P.truthy_int ⟨H,I,q⟩
 | str y=>
  obtain⟨t,rfl⟩:=rx
  obtain⟨hy,e'⟩:y.length<=sizeLine/\k=((y.length:Int) != 0):=e
  subst e'
  exact PySem.P.truthy_str (by omega) ⟨H,I.tok _,q⟩
 | byt y=>
  obtain⟨t,rfl⟩:=rx
  obtain⟨hy,e'⟩:y.size<=sizeLine/\k=((y.size:Int) != 0):=e
  subst e'
  exact PySem.W.truthy_bytes (by omega) ⟨H,I.tok _,q⟩
 | ref p=>
  cases rx
  have e':(∃ xs,SqL X.K H p xs/\k = !xs.isEmpty)\/(∃ xs,SqT X.K H p xs/\k = !xs.isEmpty)\/∃ kvs,H p=some (.dK kvs)/\k = !kvs.isEmpty:=e
  rcases e' with ⟨xs,hx,e'⟩ | ⟨xs,hx,e'⟩ | ⟨kvs,hx,e'⟩
  ·subst e'
   obtain⟨its,r,pl,hz⟩:=I.list hx
   have hlen:=r.length
   exact wpAny_truthy_list pl.isList (by simp only[List.size_toArray];omega) ⟨H,I.tok _,by rw[isEmpty_of r];exact q⟩
  ·subst e'
   obtain⟨its,r,pl,hz⟩:=I.tuple hx
   have hlen:=r.length
   exact truthy_tuple pl (by simp only[List.size_toArray];omega) ⟨H,I.tok _,by rw[isEmpty_of r];exact q⟩
  ·subst e'
   obtain⟨hz,hS,vs,r,m⟩:kvs.length<=sizeLine/\(p == sysModules)=false/\∃ vs,KV kvs vs/\s.heap.DictOf (mixKind X.prog X.w) p vs:=I.hok p _ hx
   have hlen:kvs.length=vs.length:=Paired.length r
   exact wpAny_truthy_dict hS m (by omega) ⟨H,I.tok _,by rw[isEmpty_kv r];exact q⟩
 | _=>exact(show False from e).elim
theorem pt_truth(ha:PE X a ta)(he:∀ whole,isTrue a X.env whole=(do let v ← whole;standAt a.pos;holding [v] (truthy v))) :
  PT X a (fun σ H Q=>ta σ H fun x H'=>∃ k,TruV X.K x H' k/\Q k H'):=by
 intro pins s σ H Q I h
 exact isTrue_plain (thn (ha pins s σ H _ I h) fun v s1 ⟨x,H1,I1,r1,q1⟩=>tru_ok pins s1 σ H1 x v Q I1 r1 q1) (he _)
theorem op_add_str:OpR X (binaryOp .Add) (fun x y H Q=>∃ i j,x=.str i/\y=.str j/\i.length + j.length<=sizeLine/\Q (.str (i++j)) H):=by
 intro pins s σ H x y v u Q I rx ry h
 obtain⟨i,j,rfl,rfl,hz,q⟩:=h
 obtain⟨t,rfl⟩:=rx
 obtain⟨t',rfl⟩:=ry
 exact add_str (fun t' tk=>⟨.str (i++j),H,I.tok _,⟨_,rfl⟩,q⟩) hz
theorem vals1{x:V}{us:List Value}(r:Vals [x] us):∃ u,us=[u]/\RelV x u:=by
 cases r with
 | cons r1 r2=>cases r2;exact⟨_,rfl,r1⟩
theorem vals2{x y:V}{us:List Value}(r:Vals [x,y] us):∃ u w',us=[u,w']/\RelV x u/\RelV y w':=by
 cases r with
 | cons r1 r2=>
  cases r2 with
  | cons r3 r4=>cases r4;exact⟨_,_,rfl,r1,r3⟩
theorem call_min2(hc:X.calm=true):CallR X (.builtin "min") (fun xs H Q=>∃ i j,xs=[.int i,.int j]/\Q (.int (if j < i then j else i)) H):=by
 intro pins s σ H xs us Q I r h
 obtain⟨i,j,rfl,q⟩:=h
 obtain⟨u,w',rfl,⟨t,rfl⟩,⟨t',rfl⟩⟩:=vals2 r
 refine min_two_ints (I.ok.hd hc) fun h' tk k=>⟨_,H,I.kept k,?_,q⟩
 by_cases hj:j < i
 ·rw[if_pos hj,if_pos hj];exact⟨_,rfl⟩
 ·rw[if_neg hj,if_neg hj];exact⟨_,rfl⟩
end
end L2
namespace L2
open PySem PySem.Spec PyProof.Rows
structure ObjM(h:Heap)(x dx C:Addr)(mA:Str->Option Value):Prop where
 obj:h.get? x=some (PySem.W.instObj C dx)
 ns:h.Ns1 dx mA
 ne:dx≠x
theorem lookIn_ns{h:Heap}{dx:Addr}{mA:Str->Option Value}(n:h.Ns1 dx mA):∃ od,h.get? dx=some od/\∀ name,PySem.W.lookIn name od=some (mA name):=by
 obtain⟨o,es,ep,ho,hd,hk,_,hm⟩:=n
 refine⟨o,ho,fun name => ?_⟩
 have e:=hm name
 unfold nsFind findBy at e
 rw[← Array.find?_toList]at e
 unfold PySem.W.lookIn
 rw[hd]
 dsimp only
 split
 ·rename_i y q
  rw[q]at e
  exact congrArg some e
 ·rename_i q
  rw[q]at e
  have a:es.toList.any (·.refKey)=false:=by
   rw[List.any_eq_false]
   intro y hy
   obtain⟨z,t,hkey⟩:=hk y (Array.mem_toList_iff.mp hy)
   simp[DictEntry.refKey,hkey]
  have a':¬ es.toList.any (·.refKey)=true:=by rw[a];exact Bool.false_ne_true
  rw[if_neg a']
  exact congrArg some e
theorem ObjM.look{h:Heap}{x dx C:Addr}{mA:Str->Option Value}(I:ObjM h x dx C mA):∃ od,PySem.W.InstAt h x (PySem.W.instObj C dx) C (some od)/\∀ name,PySem.W.lookIn name od=some (mA name):=
 let ⟨od,ho,hl⟩:=lookIn_ns I.ns
 ⟨od,⟨I.obj,rfl,rfl,ho⟩,hl⟩
section
variable{prog:Program}{w:World}{A:Around}{E:Value->Shared->Prop}{s:Shared}{K:PySem.W.Frag}{x dx C f:Addr}{mA:Str->Option Value}{name:Str}{v:Value}
end
theorem RelO.some_of{v:V}{o:Option Value}(r:RelO (some v) o):∃ u,o=some u/\RelV v u:=by
 cases o with
 | none=>exact(show False from r).elim
 | some u=>exact⟨u,rfl,r⟩
theorem handed_of{v:V}{u:Value}(r:RelV v u):PySem.W.handedIn u=true:=by
 cases v with
 | non=>cases (show u=Value.none from r);rfl
 | bl b=>cases (show u=Value.bool b from r);rfl
 | int i=>obtain⟨t,e⟩:=(show ∃ t,u=Value.int i t from r);cases e;rfl
 | str x=>obtain⟨t,e⟩:=(show ∃ t,u=Value.str x t from r);cases e;rfl
 | byt b=>obtain⟨t,e⟩:=(show ∃ t,u=Value.bytes b t from r);cases e;rfl
 | flt b=>obtain⟨t,e⟩:=(show ∃ t,u=Value.float b t from r);cases e;rfl
 | ref a=>cases (show u=Value.ref a from r);rfl
 | ty n=>cases (show u=Value.type n from r);rfl
section
variable{P:Program}{w:World}{H H':Hp}{h h':Heap}{a C dx:Addr}{fs fs':List (Str×V)}
theorem ins_get(hok:HOk P w H h)(e:H a=some (.ins C dx fs)):∃ mA,ObjM h a dx C mA/\(∀ f,RelO (fs.lookup f) (mA f))/\PySem.Within mA (fs.map (·.1))/\fs.length<=1000/\H dx=some (.own a):=by
 obtain⟨d,z,ne,ob,mA,n,r,q⟩:=(show ObjOk P w H h a (.ins C dx fs) from hok a _ e)
 exact⟨mA,⟨ob,n,ne⟩,r,q,z,d⟩
end
structure Cls(K:PySem.W.Frag)(C:Addr):Prop where
 pg:PySem.W.plainGet K C Str.empty=true
 hd:PySem.W.hasDictIn K C=true
 po:PySem.W.plainOver K C=true
 sa:PySem.W.findIn K (.ref C) "__setattr__"=some (some (.builtin "object.__setattr__"))
theorem Cls.get{K:PySem.W.Frag}{C:Addr}(c:Cls K C)(f:Str):PySem.W.plainGet K C f=true:=c.pg
noncomputable def NoAttr(K:PySem.W.Frag)(C:Addr)(f:Str):Prop:=PySem.W.findIn K (.ref C) f=some none
theorem NoAttr.taker{K:PySem.W.Frag}{C:Addr}{f:Str}(n:NoAttr K C f):PySem.W.takerIn K C f=some none:=by
 unfold PySem.W.takerIn
 rw[show PySem.W.findIn K (.ref C) f=some none from n]
 rfl
structure Meth(K:PySem.W.Frag)(C:Addr)(m:Str)(f:Addr):Prop where
 at_:PySem.W.findIn K (.ref C) m=some (some (.ref f))
 fn:PySem.W.isFn K (.ref f)=true
 kp:PySem.W.keepIn K (.ref f)=true
section
variable{X:Cx}{pins:List (Addr×Obj)}{σ:St}{H:Hp}{s:Shared}{a C dx:Addr}{fs:List (Str×V)}{f:Str}{v:V}{A:Around}{E:Value->Shared->Prop}
theorem Inv.made(I:Inv X pins σ H s):Inv X pins σ (upd (upd H s.heap.objs.size (.own (s.heap.objs.size + 1))) (s.heap.objs.size + 1) (.ins C s.heap.objs.size []))
  { s with heap:=(s.heap.push PySem.W.emptyDict).push (PySem.W.instObj C s.heap.objs.size) }:=by
 have e1:(s.heap.push PySem.W.emptyDict).get? s.heap.objs.size=some PySem.W.emptyDict:=Heap.get?_push_size s.heap rfl
 have e2:((s.heap.push PySem.W.emptyDict).push (PySem.W.instObj C s.heap.objs.size)).get? (s.heap.objs.size + 1)=some (PySem.W.instObj C s.heap.objs.size):=by
  have:=Heap.get?_push_size (s.heap.push PySem.W.emptyDict) (o:=PySem.W.instObj C s.heap.objs.size) rfl
  rwa[Heap.size_push]at this
 have e3:(s.heap.push PySem.W.emptyDict).Ns s.heap.objs.size (fun _=>none):=⟨PySem.W.emptyDict,#[],_,e1,rfl,(fun e he=>absurd he (by simp)),fun _=>rfl⟩
 have I1:=I.laid (a:=s.heap.objs.size) (o:=.own (s.heap.objs.size + 1)) (h':=s.heap.push PySem.W.emptyDict) (t':=s.toks) (fun b u q=>Heap.get?_push_of_some _ q) (Nat.le_refl _) ⟨_,e1⟩
 refine I1.laid (a:=s.heap.objs.size + 1) (o:=.ins C s.heap.objs.size []) (t':=s.toks) (fun b u q=>Heap.get?_push_of_some _ q) (Nat.le_of_eq (Heap.size_push _ _)) ?_
 have ne:s.heap.objs.size≠s.heap.objs.size + 1:=Nat.ne_of_lt (Nat.lt_succ_self _)
 refine⟨by rw[upd_ne ne,upd_same],Nat.zero_le _,ne,e2,fun _=>none,(Heap.Ns1.of_empty e3).at fun o q=>Heap.get?_push_of_some _ q,fun _=>True.intro,fun y hy=>absurd rfl hy⟩
theorem attr_of{prog:Program}{w:World}{env:Env}{e:Expr}{f:Str}{pos:Pos}{s:Shared}{Q:Value->Shared->Prop}(hb:attributeBase e f env (eval e env)=eval e env)
  (h:wpAny (model prog w) A (eval e env) (fun o s₁=>wpAny (model prog w) A (getAttr o f true) Q E s₁) E s):wpAny (model prog w) A (eval (.Attribute e f pos) env) Q E s:=
 Attribute_any_ h (by rw[arm_eval_Attribute,hb])
end
section
variable{X:Cx}{o e value:Expr}{f:Str}{pos pos' tpos:Pos}{ta tv:TE}
end
section
variable{X:Cx}{pins:List (Addr×Obj)}{σ:St}{H:Hp}{s:Shared}{A:Around}{E:Value->Shared->Prop}{Q:Value->Shared->Prop}{c:Value}{b:Bool}
inductive TyOf (K:PySem.W.Frag) (H:Hp):V->Value->Prop where
 | non:TyOf K H .non (.type "NoneType")
 | bl (x:Bool):TyOf K H (.bl x) (.type "bool")
 | int (i:Int):TyOf K H (.int i) (.type "int")
 | str (x:Str):TyOf K H (.str x) (.type "str")
 | flt (x:UInt64):TyOf K H (.flt x) (.type "float")
 | lst {a:Addr} {xs:List V} (e:H a=some (.lst xs)):TyOf K H (.ref a) (.type "list")
 | frz {a:Addr} {o:Obj} {xs:List V} (e:H a=some (.frz o (.lst xs))):TyOf K H (.ref a) (.type "list")
 | tup {a:Addr} {xs:List V} (e:H a=some (.tup xs)):TyOf K H (.ref a) (.type "tuple")
 | dK {a:Addr} {kvs:List (Key×V)} (e:H a=some (.dK kvs)):TyOf K H (.ref a) (.type "dict")
 | dT {a:Addr} {kvs:List (List Key×V)} (e:H a=some (.dT kvs)):TyOf K H (.ref a) (.type "dict")
 | ins {a C dx:Addr} {fs:List (Str×V)} (e:H a=some (.ins C dx fs)) (cl:Cls K C) (ha:PySem.W.findIn K (.ref C) "__class__"=some (some (.builtin "object.__class__")))
   (hn:PySem.W.specialIn K (.builtin "object.__class__") "__get__"=some (some (.builtin "getset_descriptor.__get__"))) (htk:PySem.W.takesIn K (.builtin "object.__class__")=some true)
   (hm:PySem.W.mroIn K C (.type "object")=some true):TyOf K H (.ref a) (.ref C)
theorem isinst_ok{x:V}{u t:Value}(I:Inv X pins σ H s)(rx:RelV x u)(ty:TyOf X.K H x t)(e:PySem.W.kitOne X.K t c=some b)(h:∀ tk,Q (.bool b) { s with toks:=tk }) :
  wpAny (model X.prog X.w) A (call (.builtin "isinstance") [u,c]) Q E s:=by
 cases ty with
 | non=>cases (show u=Value.none from rx);exact PySem.W.kia_one PySem.W.kitx_none I.kIn True.intro e (fun z=>nomatch z) h
 | bl y=>cases (show u=Value.bool y from rx);exact PySem.W.kia_one PySem.W.kitx_bool I.kIn True.intro e (fun z=>nomatch z) h
 | int i=>obtain⟨t,q⟩:=(show ∃ t,u=Value.int i t from rx);cases q;exact PySem.W.kia_one PySem.W.kitx_int I.kIn True.intro e (fun z=>nomatch z) h
 | str y=>obtain⟨t,q⟩:=(show ∃ t,u=Value.str y t from rx);cases q;exact PySem.W.kia_one PySem.W.kitx_str I.kIn True.intro e (fun z=>nomatch z) h
 | flt y=>obtain⟨t,q⟩:=(show ∃ t,u=Value.float y t from rx);cases q;exact PySem.W.kia_one PySem.W.kitx_float I.kIn True.intro e (fun z=>nomatch z) h
 | @lst a xs ea=>
  cases (show u=Value.ref a from rx)
  obtain⟨_,_,n,_,h1⟩:=(show ObjOk X.prog X.w H s.heap a (.lst xs) from I.hok a _ ea)
  exact PySem.W.kia_one PySem.W.kitx_list I.kIn ⟨_,h1,rfl⟩ e (fun z=>nomatch z) h
 | @frz a ob xs ea=>
  cases (show u=Value.ref a from rx)
  obtain⟨_,_,_,n,_,h1⟩:=(show ObjOk X.prog X.w H s.heap a (.frz ob (.lst xs)) from I.hok a _ ea)
  exact PySem.W.kia_one PySem.W.kitx_list I.kIn ⟨_,h1,rfl⟩ e (fun z=>nomatch z) h
 | @tup a xs ea=>
  cases (show u=Value.ref a from rx)
  obtain⟨_,_,_,p⟩:=(show ObjOk X.prog X.w H s.heap a (.tup xs) from I.hok a _ ea)
  obtain⟨o,h1,h2,_⟩:=p
  exact PySem.W.kia_one PySem.W.kitx_tuple I.kIn ⟨o,h1,h2⟩ e (fun z=>nomatch z) h
 | @dK a kvs ea=>
  cases (show u=Value.ref a from rx)
  obtain⟨_,_,vs,_,p⟩:=(show ObjOk X.prog X.w H s.heap a (.dK kvs) from I.hok a _ ea)
  obtain⟨o,es,ep,h1,h2,_⟩:=p
  exact PySem.W.kia_one PySem.W.kitx_dict I.kIn ⟨o,h1,h2.1⟩ e (fun z=>nomatch z) h
 | @dT a kvs ea=>
  cases (show u=Value.ref a from rx)
  obtain⟨_,_,xs,_,o,es,ep,h1,h2,_⟩:=(show ObjOk X.prog X.w H s.heap a (.dT kvs) from I.hok a _ ea)
  exact PySem.W.kia_one PySem.W.kitx_dict I.kIn ⟨o,h1,h2.1⟩ e (fun z=>nomatch z) h
 | @ins a C dx fs ea cl ha hn htk hm=>
  cases (show u=Value.ref a from rx)
  obtain⟨mA,O,_⟩:=ins_get I.hok ea
  obtain⟨od,J,_⟩:=O.look
  exact PySem.W.kia_one (PySem.W.kitx_own (cl.get _) cl.hd ha hn htk hm) I.kIn J e (fun z=>nomatch z) h
end
end L2
namespace L2
open PySem PySem.Spec PyProof.Rows
structure Room(k:Nat)(A:Around):Prop where
 hd:A.handled=none
 dp:A.depth + 3 * k + 5 < recursionLimit
 un:A.units + 16 * k + 200 < cLine
theorem Room.mono{j k:Nat}{A:Around}(r:Room k A)(h:j<=k):Room j A:=⟨r.hd,by have:=r.dp;omega,by have:=r.un;omega⟩
theorem Room.deeper{k:Nat}{A:Around}(r:Room (k + 1) A)(env:Env):Room k (A.deeper env):=
 ⟨r.hd,by have:=r.dp;show A.depth + 1 + 3 * k + 5 < _;omega,by have:=r.un;show A.units + 3 + 16 * k + 200 < _;omega⟩
theorem Room.in1{k:Nat}{A:Around}(r:Room (k + 1) A):Room k A.in1:=
 ⟨r.hd,by have:=r.dp;show A.depth + 3 * k + 5 < _;omega,by have:=r.un;show A.units + 1 + 16 * k + 200 < _;omega⟩
theorem make_depth{A:Around}{C:Addr}{us:List Value}{kw:List (Str×Value)}:(A.under (.builtin "type.__call__" ⟨.ref C::us,kw⟩)).depth=A.depth + 1:=by
 first | rfl | simp[Around.under,Code.weight,Code.isCreation,Code.isGuard,Code.isCaller,Code.frames,Code.isFrame,guardIds]
theorem make_units{A:Around}{C:Addr}{us:List Value}{kw:List (Str×Value)}:(A.under (.builtin "type.__call__" ⟨.ref C::us,kw⟩)).units=A.units + 1:=by
 first | rfl | simp[Around.under,Code.cUnits,Code.frames,Code.isFrame]
theorem Room.make{k:Nat}{A:Around}(r:Room (k + 1) A)(C:Addr)(us:List Value)(kw:List (Str×Value)):Room k (A.under (.builtin "type.__call__" ⟨.ref C::us,kw⟩)):=
 ⟨r.hd,by have:=r.dp;rw[make_depth];omega,by have:=r.un;rw[make_units];omega⟩
theorem Room.depth{k:Nat}{A:Around}(r:Room k A):A.depth < recursionLimit:=by have:=r.dp;omega
theorem Room.units{k:Nat}{A:Around}(r:Room k A):A.units + 64 < cLine:=by have:=r.un;omega
noncomputable def tNil:TA:=fun _ H Q=>Q [] H
noncomputable def tCons(ta:TE)(tr:TA):TA:=fun σ H Q=>ta σ H fun x H1=>tr σ H1 fun xs H2=>Q (x::xs) H2
section
variable{X:Cx}{e:Expr}{es:List Expr}{te:TE}{t:TA}{pos:Pos}
theorem pa_nil:PA X [] tNil:=fun _ _ _ _ H Q I h=>Calls.spliced_nil ⟨[],H,I,.nil,h⟩
theorem pa_cons(ha:PE X e te)(hr:PA X es t)(hs:starEach (e::es) X.env=(false,eval e X.env)::starEach es X.env:=by rfl):PA X (e::es) (tCons te t):=by
 intro pos pins s σ H Q I h
 rw[hs]
 show wpAny _ _ (spliced ((false,eval e X.env)::backTo pos (starEach es X.env))) _ _ s
 refine Calls.spliced_cons (thn (ha pins s σ H _ I h) fun u s1 ⟨x,H1,I1,r1,q1⟩ => ?_)
 exact thn (hr pos pins s1 σ H1 _ I1 q1) fun us s2 ⟨xs,H2,I2,r2,q2⟩=>⟨x::xs,H2,I2,.cons r1 r2,q2⟩
noncomputable def tTup(t:TA):TE:=fun σ H Q=>t σ H fun xs H1=>xs.length<=sizeLine/\∀ p,H1 p=none->Q (.ref p) (upd H1 p (.tup xs))
noncomputable def tLst(t:TA):TE:=fun σ H Q=>t σ H fun xs H1=>xs.length<=sizeLine/\∀ p,H1 p=none->Q (.ref p) (upd H1 p (.lst xs))
theorem pe_tup{x1}(h:PA X es t):PE X (.Tuple es x1 pos) (tTup t):=by
 intro pins s σ H Q I hq
 refine wpAny_Tuple_spliced (thn (h pos pins s σ H _ I hq) fun us s1 ⟨xs,H1,I1,r,z,q⟩=>⟨by rw[← r.length];exact z,?_⟩)
 have hf:H1 s1.heap.objs.size=none:=I1.hok.fresh (Nat.le_refl _)
 refine⟨.ref s1.heap.objs.size,upd H1 s1.heap.objs.size (.tup xs),I1.laid (t':=s1.toks) (fun b u e=>Heap.get?_push_of_some _ e) (Nat.le_refl _) ?_,rfl,q _ hf⟩
 exact⟨z,us,r,⟨_,Heap.get?_push_size _ rfl,rfl,_,rfl⟩⟩
theorem pe_lst(h:PA X es t):PE X (.List es pos) (tLst t):=by
 intro pins s σ H Q I hq
 refine wpAny_List_spliced (thn (h pos pins s σ H _ I hq) fun us s1 ⟨xs,H1,I1,r,z,q⟩=>⟨by rw[← r.length];exact z,?_⟩)
 have hf:H1 s1.heap.objs.size=none:=I1.hok.fresh (Nat.le_refl _)
 refine⟨.ref s1.heap.objs.size,upd H1 s1.heap.objs.size (.lst xs),I1.laid (t':=s1.toks) (fun b u e=>Heap.get?_push_of_some _ e) (Nat.le_refl _) ?_,rfl,q _ hf⟩
 exact⟨z,us,0,r,Heap.get?_push_size _ rfl⟩
end
noncomputable abbrev Sp:=List V->Hp->VK->XK->Prop
noncomputable abbrev CXT:=List Env->Hp->Shared->XK->Value->Shared->Prop
structure Env0(P:Program)(w:World)(K:PySem.W.Frag)(mg:Str->Option Value)(base:Heap)(A:Around)(outer:List Env)(s:Shared)(H:Hp):Prop where
 frames:A.frames=some outer
 mod:Mod K mg base
 bs:∀ b o,base.get? b=some o->s.heap.get? b=some o/\H b=none
 bsz:base.objs.size<=s.heap.objs.size
 funs:s.heap.FunFrames base outer
 frf:∀ b∈frs outer,H b=none
 hok:HOk P w H s.heap
 bare:AllBare s.gens
noncomputable def CE(outer:List Env)(P:Program)(w:World)(H:Hp)(s:Shared)(Q:VK)(u:Value)(s':Shared):Prop:=
 ∃ v H',s'.os=s.os/\AllBare s'.gens/\Un (frs outer) [] H H' s.heap s'.heap/\HOk P w H' s'.heap/\RelV v u/\Q v H'
noncomputable def CR(CX:CXT)(outer:List Env)(P:Program)(w:World)(H:Hp)(s:Shared)(Q:VK)(E:XK)(r:Result)(s':Shared):Prop:=
 match r with
 | .ok (.ret u)=>CE outer P w H s Q u s'
 | .ok _=>False
 | .error e=>CX outer H s E e s'
structure FnOk(P:Program)(w:World)(K:PySem.W.Frag)(mg:Str->Option Value)(base:Heap)(CX:CXT)(k:Nat)(f:Addr)(fd:FuncData)(ps:List Str)(sp:Sp):Prop where
 len:∀ vs H Q E,sp vs H Q E->vs.length=ps.length
 run:∀ (A:Around) (outer:List Env) (s:Shared) (H:Hp) (args:Args) (us:List Value) (vs:List V) (Q:VK) (E:XK),Room k A->Env0 P w K mg base A outer s H->BindsTo s fd args (ps.zip us)->Vals vs us->sp vs H Q E ->
  codeAny (model P w) A (.call (.ref f) args) (CR CX outer P w H s Q E) s
theorem FnOk.mono{P:Program}{w:World}{K:PySem.W.Frag}{mg:Str->Option Value}{base:Heap}{CX:CXT}{j k:Nat}{f:Addr}{fd:FuncData}{ps:List Str}{sp:Sp}(F:FnOk P w K mg base CX j f fd ps sp)(h:j<=k) :
  FnOk P w K mg base CX k f fd ps sp:=⟨F.len,fun A outer s H args us vs Q E hr=>F.run A outer s H args us vs Q E (hr.mono h)⟩
theorem FnOk.imp{P:Program}{w:World}{K:PySem.W.Frag}{mg:Str->Option Value}{base:Heap}{CX:CXT}{k:Nat}{f:Addr}{fd:FuncData}{ps:List Str}{sp sp':Sp}(F:FnOk P w K mg base CX k f fd ps sp)
  (h:∀ vs H Q E,sp' vs H Q E->sp vs H Q E):FnOk P w K mg base CX k f fd ps sp':=
 ⟨fun vs H Q E q=>F.len vs H Q E (h _ _ _ _ q),fun A outer s H args us vs Q E hr he hb hv hs=>F.run A outer s H args us vs Q E hr he hb hv (h _ _ _ _ hs)⟩
theorem Env0.make{P:Program}{w:World}{K:PySem.W.Frag}{mg:Str->Option Value}{base:Heap}{A:Around}{outer:List Env}{s:Shared}{H:Hp}(e:Env0 P w K mg base A outer s H)(C:Addr)(us:List Value)(kw:List (Str×Value)) :
  Env0 P w K mg base (A.under (.builtin "type.__call__" ⟨.ref C::us,kw⟩)) outer s H:=⟨by first | exact e.frames | (simpa[Around.under,Code.envs,Code.isFrame,pushEnvs] using e.frames),e.mod,e.bs,e.bsz,e.funs,e.frf,e.hok,e.bare⟩
section
variable{X:Cx}{pins:List (Addr×Obj)}{σ:St}{H:Hp}{s s':Shared}
theorem Inv.env0(I:Inv X pins σ H s):Env0 X.prog X.w X.K X.mg X.base X.A X.stack s H:=
 ⟨I.ok.frames,I.ok.mod,I.bs,Nat.le_trans I.ok.bsz I.sz,I.stack,I.stkFree,I.hok,I.bare⟩
theorem Inv.after{Q:VK}{u:Value}(I:Inv X pins σ H s)(h:CE X.stack X.prog X.w H s Q u s'):EP X pins σ Q u s':=by
 obtain⟨v,H',os,bare,un,hok,r,q⟩:=h
 obtain⟨hh,g,d,t,os'⟩:=s'
 obtain rfl:os'=s.os:=os
 exact⟨v,H',I.call (h':=hh) (g':=g) (d':=d) (t':=t) (ch:=[]) un hok bare (fun b z=>absurd z (by simp)),r,q⟩
end
noncomputable def tCall(sp:Sp)(dvs:List V)(E:XK)(t:TA):TE:=fun σ H Q=>t σ H fun vs H1=>sp (vs++dvs) H1 Q E
noncomputable def Binds(K:PySem.W.Frag)(fd:FuncData)(ps:List Str)(ds:List Value):Prop:=
 ∀ (s:Shared) (us:List Value),K.In s.heap->(us++ds).length=ps.length->BindsTo s fd ⟨us,[]⟩ (ps.zip (us++ds))
theorem Binds.all{K:PySem.W.Frag}{fd:FuncData}{ps:List Str}(h:∀ us:List Value,us.length=ps.length->bindArgs fd ⟨us,[]⟩=pure (ps.zip us)):Binds K fd ps []:=fun s us _ hl=>by
 rw[List.append_nil]at hl ⊢
 exact .of_eq (h us hl)
noncomputable def Passes(CX:CXT)(X:Cx)(E:XK):Prop:=∀ (pins:List (Addr×Obj)) (σ:St) (H:Hp) (s:Shared) (e:Value) (s':Shared),Inv X pins σ H s->CX X.stack H s E e s'->X.xe e s'
section
variable{X:Cx}{CX:CXT}{k:Nat}{f C:Addr}{fd:FuncData}{ps:List Str}{sp:Sp}{dvs:List V}{ds:List Value}{E:XK}{x m:Str}{p pos apos:Pos}{e o:Expr}{es:List Expr}{ta:TE}{t:TA}
theorem run_fn{pins:List (Addr×Obj)}{σ:St}{H:Hp}{s:Shared}{Q:VK}{us:List Value}{vs:List V}(F:FnOk X.prog X.w X.K X.mg X.base CX k f fd ps sp)(hr:Room k X.A)(hb:Binds X.K fd ps ds)(hd:Vals dvs ds)(hx:Passes CX X E)
  (I:Inv X pins σ H s) (r:Vals vs us) (h:sp (vs++dvs) H Q E):wpAny (model X.prog X.w) X.A (call (.ref f) us) (EP X pins σ Q) X.xe s:=by
 have r2:Vals (vs++dvs) (us++ds):=r.append hd
 have hl:(us++ds).length=ps.length:=by rw[← r2.length];exact F.len _ _ _ _ h
 refine wpAny_call (codeAny_mono (F.run X.A X.stack s H ⟨us,[]⟩ (us++ds) (vs++dvs) Q E hr I.env0 (hb s us I.kIn hl) r2 h) fun r s' hq => ?_)
 cases r with
 | error e=>exact hx pins σ H s e s' I hq
 | ok fl=>
  cases fl with
  | ret u=>exact I.after hq
  | next=>exact False.elim hq
  | brk=>exact False.elim hq
  | cont=>exact False.elim hq
theorem pe_call(F:FnOk X.prog X.w X.K X.mg X.base CX k f fd ps sp)(hr:Room k X.A)(hg:Gl X x)(hm:X.mg x=some (.ref f))(hk:PySem.W.keepIn X.K (.ref f)=true)(hb:Binds X.K fd ps ds)(hd:Vals dvs ds)(hx:Passes CX X E)
  (ha:PA X (e::es) t) (hdb:(x == ("__debug__":Str))=false:=by decide) (he:starEach (e::es) X.env=(false,eval e X.env)::starEach es X.env:=by rfl) (hpl:(backTo pos (starEach es X.env)).any (·.1)=false:=by rfl) :
  PE X (.Call (.Name x p) (e::es) [] pos) (tCall sp dvs E t):=by
 intro pins s σ H Q I h
 refine wpAny_Call_Name_kw (ld_glob I hg hm ?_ hdb)
 refine PySem.W.callWith_K (h₀:=X.base) I.ok.mod.kin hk (thn (ha pos pins s σ H _ I h) fun us s1 ⟨vs,H1,I1,r,q⟩=>⟨I1.kIn,?_⟩) he hpl
 exact run_fn F hr hb hd hx I1 r q
theorem pe_call0(F:FnOk X.prog X.w X.K X.mg X.base CX k f fd ps sp)(hr:Room k X.A)(hg:Gl X x)(hm:X.mg x=some (.ref f))(hk:PySem.W.keepIn X.K (.ref f)=true)(hb:Binds X.K fd ps ds)(hd:Vals dvs ds)(hx:Passes CX X E)
  (hdb:(x == ("__debug__":Str))=false:=by decide):PE X (.Call (.Name x p) [] [] pos) (tCall sp dvs E tNil):=by
 intro pins s σ H Q I h
 refine wpAny_Call_Name_kw (ld_glob I hg hm ?_ hdb)
 exact PySem.W.callWith_K0 I.kIn hk (run_fn (us:=[]) F hr hb hd hx I .nil h)
structure Mk(K:PySem.W.Frag)(C f:Addr):Prop where
 makes:PySem.W.makesIn K C=true
 init:PySem.W.findIn K (.ref C) "__init__"=some (some (.ref f))
 fn:PySem.W.isFn K (.ref f)=true
 kp:PySem.W.keepIn K (.ref C)=true
end
section
variable{X:Cx}{CX:CXT}{k:Nat}{f C:Addr}{fd:FuncData}{ps ks:List Str}{sp:Sp}{E:XK}{x m:Str}{p pos apos kpos:Pos}{e o:Expr}{es:List Expr}{kws:List Keyword}{te ta:TE}{t tk:TA}{nm:Option Str}
variable{g:List Value->List Value->List Value}{gV:List V->List V->List V}
end
structure FnScope(N P:List Str)(sc:Scope):Prop where
 kind:sc.kind=.function
 co:sc.isCoroutine=false
 gen:sc.isGenerator=false
 nd:N.Nodup
 pre:N.take P.length=P
 par:∀ x∈P,sc.names.lookup x=some .local\/sc.names.lookup x=some .cell
 nofree:∀ y∈sc.names,y.2≠.free
theorem bindL_out{kindOf:Str->Option NameKind}{x:Str}:∀ {binds:List (Str×Value)} {m:Str->Option Value},(∀ v,(x,v)∉binds)->bindL kindOf binds m x=m x
 | [],_,_=>rfl
 | (n,v)::r,m,h=>by
  unfold bindL
  rw[bindL_out fun w hw=>h w (List.mem_cons_of_mem _ hw)]
  split
  ·have:x≠n:=by rintro rfl;exact h v List.mem_cons_self
   simp[this]
  ·rfl
theorem bindC_out{kindOf:Str->Option NameKind}{x:Str}:∀ {binds:List (Str×Value)} {m:Str->Option Value},(∀ v,(x,v)∉binds)->bindC kindOf binds m x=m x
 | [],_,_=>rfl
 | (n,v)::r,m,h=>by
  unfold bindC
  rw[bindC_out fun w hw=>h w (List.mem_cons_of_mem _ hw)]
  split
  ·rfl
  ·have:x≠n:=by rintro rfl;exact h v List.mem_cons_self
   simp[this]
theorem bindL_get{kindOf:Str->Option NameKind}{x:Str}{v:Value}:∀ {P:List Str} {vs:List Value} {i:Nat} {m:Str->Option Value},P.Nodup->P[i]?=some x->vs[i]?=some v->kindOf x=some .local ->
  bindL kindOf (P.zip vs) m x=some v
 | [],_,_,_,_,h,_,_=>by simp at h
 | _::_,[],_,_,_,_,h,_=>by simp at h
 | p::P,w::vs,0,m,nd,h1,h2,hk=>by
  simp at h1 h2;subst h1;subst h2
  show bindL kindOf ((p,w)::P.zip vs) m p=_
  unfold bindL
  rw[bindL_out fun v hv=>(List.nodup_cons.mp nd).1 (List.of_mem_zip hv).1,if_pos hk]
  simp
 | p::P,w::vs,i + 1,m,nd,h1,h2,hk=>by
  show bindL kindOf ((p,w)::P.zip vs) m x=_
  unfold bindL
  exact bindL_get (i:=i) (List.nodup_cons.mp nd).2 (by simpa using h1) (by simpa using h2) hk
theorem bindC_get{kindOf:Str->Option NameKind}{x:Str}{v:Value}:∀ {P:List Str} {vs:List Value} {i:Nat} {m:Str->Option Value},P.Nodup->P[i]?=some x->vs[i]?=some v->kindOf x≠some .local ->
  bindC kindOf (P.zip vs) m x=some v
 | [],_,_,_,_,h,_,_=>by simp at h
 | _::_,[],_,_,_,_,h,_=>by simp at h
 | p::P,w::vs,0,m,nd,h1,h2,hk=>by
  simp at h1 h2;subst h1;subst h2
  show bindC kindOf ((p,w)::P.zip vs) m p=_
  unfold bindC
  rw[bindC_out fun v hv=>(List.nodup_cons.mp nd).1 (List.of_mem_zip hv).1,if_neg hk]
  simp
 | p::P,w::vs,i + 1,m,nd,h1,h2,hk=>by
  show bindC kindOf ((p,w)::P.zip vs) m x=_
  unfold bindC
  exact bindC_get (i:=i) (List.nodup_cons.mp nd).2 (by simpa using h1) (by simpa using h2) hk
noncomputable def start(N:List Str)(vs:List V):St:=vs.map some++List.replicate (N.length - vs.length) none
noncomputable def cxOf(CX:CXT)(P:Program)(w:World)(K:PySem.W.Frag)(mg:Str->Option Value)(base:Heap)(N:List Str)(qual:Str)(scope:Scope)(f:Addr)(cd:Value)(A:Around)(outer:List Env)(s:Shared)(H:Hp)(E:XK):Cx where
 prog:=P
 w:=w
 K:=K
 mg:=mg
 base:=base
 A:=A.deeper (envOfC qual scope s.heap.objs.size f cd)
 N:=N
 s₀:=s
 H₀:=H
 env:=envOfC qual scope s.heap.objs.size f cd
 outer:=outer
 stack:=envOfC qual scope s.heap.objs.size f cd::outer
 ex:=[]
 calm:=true
 fn:=fun _=>true
 pn:=[]
 xe:=fun e s'=>wpAny (model P w) (A.deeper (envOfC qual scope s.heap.objs.size f cd)) (leaving (envOfC qual scope s.heap.objs.size f cd) e) (fun _ s''=>CX outer H s E e s'') (fun e' s''=>CX outer H s E e' s'') s'
theorem cell_has{sc:Scope}{n:Nat}{x:Str}(h:sc.names.lookup x=some .cell):∃ c,(cellsFrom n sc.names []).lookup x=some c:=by
 have q:=PySem.W.cellsFrom_some sc.names n [] (.inl h)
 exact Option.isSome_iff_exists.mp q
theorem inv_start{CX:CXT}{P:Program}{w:World}{K:PySem.W.Frag}{mg:Str->Option Value}{base:Heap}{N ps:List Str}{qual:Str}{scope:Scope}{f:Addr}{cd:Value}{A:Around}{outer:List Env}{s s1:Shared}{H:Hp}{E:XK}{us:List Value}{vs:List V}
  (S:FnScope N ps scope) (hd:A.handled=none) (e0:Env0 P w K mg base A outer s H) (hl:vs.length=ps.length) (r:Vals vs us)
  (x:InCallC s s.heap.objs.size (bindL (envOfC qual scope s.heap.objs.size f cd).kindOf (ps.zip us) fun _=>none) (cellsFrom (s.heap.objs.size + 1) scope.names []) (bindC (envOfC qual scope s.heap.objs.size f cd).kindOf (ps.zip us) fun _=>none) s1) :
  Inv (cxOf CX P w K mg base N qual scope f cd A outer s H E) [] (start N vs) H s1:=by
 have hpl:ps.length<=N.length:=by have:=congrArg List.length S.pre;rw[List.length_take]at this;omega
 obtain⟨h1,tk,rfl,hk⟩:=x.done
 have noA:∀ b:Addr,b∉(cxOf CX P w K mg base N qual scope f cd A outer s H E).ex:=fun b z=>absurd (show b∈([]:List Addr) from z) (by simp)
 refine⟨⟨e0.mod,S.kind,rfl,rfl,Nat.le_refl _,fun y z c h1 h2 => ?_,fun y hy => ?_,fun y c _ h => ?_,fun _=>hd,Around.frames_deeper e0.frames,.inr ⟨rfl,rfl⟩,fun b z=>absurd z (noA b),e0.bs,e0.bsz,fun b _ _=>noA b,fun b z=>absurd z (noA b),e0.funs,e0.frf⟩,
  rfl,e0.bare,Un.kept hk,⟨_,x.toInCall.ns,fun i y v h1 h2 h3 => ?_⟩,fun y c h=>⟨_,x.cell y c h⟩,e0.hok.fresh (Nat.le_refl _),fun y c h => ?_,fun p hp=>absurd (show p∈([]:List (Addr×Obj)) from hp) (by simp),e0.hok.kept hk,?_⟩
 ·exact name_of_addr x.apart (PySem.mem_of_lookup h1) (PySem.mem_of_lookup h2)
 ·have hy:scope.names.lookup y=some .cell\/scope.names.lookup y=some .free:=hy
  rcases hy with hy | hy
  ·exact cell_has hy
  ·exact absurd rfl (S.nofree _ (PySem.mem_of_lookup hy))
 ·exact Nat.le_of_lt (x.above y c (PySem.mem_of_lookup h))
 ·have hi:i < vs.length:=by
   unfold start at h2
   by_cases hi:i < vs.length
   ·exact hi
   ·rw[List.getElem?_append_right (by simpa using hi)]at h2
    rw[List.getElem?_replicate]at h2
    split at h2<;>cases h2
  have ha:vs[i]?=some v:=by
   unfold start at h2
   rw[List.getElem?_append_left (by simpa using hi),List.getElem?_map]at h2
   cases e:vs[i]? with
   | none=>rw[e]at h2;cases h2
   | some a=>rw[e]at h2;cases h2;rfl
  obtain⟨u,hu,rv⟩:=r.get ha
  have hp:ps[i]?=some y:=by
   rw[← S.pre,List.getElem?_take_of_lt (by omega)];exact h1
  have ndP:ps.Nodup:=by rw[← S.pre];exact S.nd.sublist (List.take_sublist _ _)
  refine⟨u,rv,?_⟩
  rcases S.par y (List.mem_of_getElem? hp) with k | k
  ·exact .inl ⟨k,bindL_get ndP hp hu k⟩
  ·obtain⟨c,e⟩:=cell_has (n:=s.heap.objs.size + 1) k
   refine .inr ⟨.inl k,c,e,?_⟩
   have q:=x.cell y c e
   rw[bindC_get ndP hp hu (by show scope.names.lookup y≠_;rw[k];decide)]at q
   exact q
 ·have hz:=e0.hok.fresh (Nat.le_of_lt (x.above y c (PySem.mem_of_lookup h)))
  exact⟨.inl hz,fun _=>hz⟩
 ·unfold start
  show _=N.length
  rw[List.length_append,List.length_map,List.length_replicate]
  omega
theorem fn_of{CX:CXT}{P:Program}{w:World}{K:PySem.W.Frag}{mg:Str->Option Value}{base:Heap}{k:Nat}{f:Addr}{name qual:Str}{params:Arguments}{body:List Stmt}{scope:Scope}{dV kV doc pm cdv ct oc:Value}{an od:Option Addr}
  {osl:Array (Option Value)} {N ps:List Str} {sp:Sp} (lk:K.lookup f=some ⟨oc,od,.func (PySem.W.fnOf name qual params body scope dV kV doc pm an cdv ct),osl⟩) (hcd:PySem.W.codeIn K cdv qual=true) (S:FnScope N ps scope)
  (len:∀ vs H Q E,sp vs H Q E->vs.length=ps.length)
  (hbody:∀ (A:Around) (outer:List Env) (s:Shared) (H:Hp) (vs:List V) (Q:VK) (E:XK),Room k (A.deeper (envOfC qual scope s.heap.objs.size f cdv))->sp vs H Q E ->
   ∃ t,PSs (cxOf CX P w K mg base N qual scope f cdv A outer s H E) body t/\t { nx:=fun _ H'=>Q .non H',rt:=Q } (start N vs) H) :
  FnOk P w K mg base CX (k + 1) f (PySem.W.fnOf name qual params body scope dV kV doc pm an cdv ct) ps sp:=by
 refine⟨len,fun A outer s H args us vs Q E hr e0 hb r hsp => ?_⟩
 have hl:=len _ _ _ _ hsp
 have KX:K.In s.heap:=e0.mod.kin.keeps fun b o e=>(e0.bs b o e).1
 have lim:s.heap.NoLimit:=e0.mod.nolimit.keeps fun b o e=>(e0.bs b o e).1
 have hkind:∀ y∈ps.zip us,scope.names.lookup y.1=some .local\/(scope.names.lookup y.1=some .cell/\((cellsFrom (s.heap.objs.size + 1) scope.names []).lookup y.1).isSome=true):=fun ⟨n,v⟩ hy=>by
  rcases S.par n (List.of_mem_zip hy).1 with q | q
  ·exact .inl q
  ·exact .inr ⟨q,PySem.W.cellsFrom_some _ _ _ (.inl q)⟩
 refine codeAny_call_function hr.depth (KX _ _ lk) rfl S.co S.gen rfl (PySem.W.codeRec_of KX hcd) (hb _ _ _ _ ?_)
 refine wpAny_newFunctionEnv_cells S.kind hkind fun env he s1 x => ?_
 subst he
 refine⟨lim.keeps x.toInCall.keep,codeAny_func ?_⟩
 obtain⟨t,ht,hq⟩:=hbody A outer s H vs Q E (hr.deeper _) hsp
 have I:Inv (cxOf CX P w K mg base N qual scope f cdv A outer s H E) [] (start N vs) H s1:=inv_start S hr.hd e0 hl r x
 refine wpAny_mono (ht [] s1 (start N vs) H _ I hq) (fun fl s' hs => ?_) fun e s' hs=>hs
 have fin:∀ {σ':St} {H':Hp} {v:V} {u:Value},Inv (cxOf CX P w K mg base N qual scope f cdv A outer s H E) [] σ' H' s'->RelV v u->Q v H'->CE outer P w H s Q u s':=
  fun {σ' H' v u} J rv q=>⟨v,H',J.os,J.bare,J.base,J.hok,rv,q⟩
 cases fl with
 | ret u=>
  obtain⟨v,σ',H',J,rv,q⟩:=hs
  exact fin J rv q
 | next=>
  obtain⟨σ',H',J,q⟩:=hs
  exact fin (v:=V.non) (u:=Value.none) J rfl q
 | brk=>
  obtain⟨_,_,_,q⟩:=hs
  exact False.elim q
 | cont=>
  obtain⟨_,_,_,q⟩:=hs
  exact False.elim q
end L2
namespace L2
open PySem PySem.Spec PyProof.Rows
section
variable{X:Cx}{x:Str}{p pos:Pos}{e:Expr}{es:List Expr}{t:TA}{id T:String}{r:List V->Hp->VK->Prop}
noncomputable def tCB(r:List V->Hp->VK->Prop)(t:TA):TE:=fun σ H Q=>t σ H fun vs H1=>r vs H1 Q
theorem pe_callB(hc:CallR X (.builtin id) r)(hg:Gl X x)(hm:X.mg x=none)(hv:bootBuiltins x=some (.builtin id))(ha:PA X (e::es) t)(hn:x≠"__name__":=by decide)(hdb:(x == ("__debug__":Str))=false:=by decide)
  (he:starEach (e::es) X.env=(false,eval e X.env)::starEach es X.env:=by rfl) (hpl:(backTo pos (starEach es X.env)).any (·.1)=false:=by rfl):PE X (.Call (.Name x p) (e::es) [] pos) (tCB r t):=by
 intro pins s σ H Q I h
 refine wpAny_Call_Name_kw (ld_blt I hg hm hv ?_ hn hdb)
 exact PyProof.Rows.callWith_builtin1 (thn (ha pos pins s σ H _ I h) fun us s1 ⟨vs,H1,I1,r1,q1⟩=>hc pins s1 σ H1 vs us Q I1 r1 q1) he hpl
theorem pe_callTy(hc:CallR X (.type T) r)(hg:Gl X x)(hm:X.mg x=none)(hv:bootBuiltins x=some (.type T))(ha:PA X (e::es) t)(hn:x≠"__name__":=by decide)(hdb:(x == ("__debug__":Str))=false:=by decide)
  (he:starEach (e::es) X.env=(false,eval e X.env)::starEach es X.env:=by rfl) (hpl:(backTo pos (starEach es X.env)).any (·.1)=false:=by rfl):PE X (.Call (.Name x p) (e::es) [] pos) (tCB r t):=by
 intro pins s σ H Q I h
 refine wpAny_Call_Name_kw (ld_blt I hg hm hv ?_ hn hdb)
 exact PyProof.Rows.callWith_type1 (thn (ha pos pins s σ H _ I h) fun us s1 ⟨vs,H1,I1,r1,q1⟩=>hc pins s1 σ H1 vs us Q I1 r1 q1) he hpl
end
end L2
namespace HT
open PySem PyProof.Rows
section
open PySem.SeqAt
open PySem.AutoSeq1 (wpAny_loadPart')
open PySem.MeetsSeq PySem.MeetsSeq2 PySem.MeetsSeq3
end
section
variable{prog:Program}{w:World}{A:Around}{E:Value->Shared->Prop}{s:Shared}
theorem cat_tup{t b:Addr}{vs ws:List Value}{Q:Value->Shared->Prop}(ht:IsTup s.heap t vs.toArray)(hb:IsTup s.heap b ws.toArray)(hv:vs≠[])
  (h1:ws=[]->Q (.ref t) s) (h2:ws≠[]->Q (.ref s.heap.objs.size) { s with heap:=s.heap.push { cls:=.type "tuple",data:=.seq (vs++ws).toArray } })
  (hsz:vs.length + ws.length<=sizeLine):wpAny (model prog w) A (binaryOp .Add (.ref t) (.ref b)) Q E s:=by
 obtain⟨⟨cls,dd,data,sl⟩,ho,hc,n,hd⟩:=id ht
 obtain⟨⟨cls2,dd2,data2,sl2⟩,ho2,hc2,n2,hd2⟩:=id hb
 simp only at hc hd hc2 hd2
 subst hc hd hc2 hd2
 have e:vs.toArray++ws.toArray=(vs++ws).toArray:=by simp
 by_cases hw:ws=[]
 ·exact concat_meets ⟨_,ho,rfl⟩ ⟨_,ho2,rfl⟩ noFill_tuple_add seq_tuple_add PySem.F.slot_tuple_add PySem.F.entry_tuple_add (PySem.F.args_tuple_add_2 _ _)
   (tuple_addW1 t b vs.toArray ws.toArray n n2 dd dd2 sl sl2 (by simpa using hv) (by simp[hw])) ⟨ho,ho2,h1 hw⟩
 ·refine concat_meets ⟨_,ho,rfl⟩ ⟨_,ho2,rfl⟩ noFill_tuple_add seq_tuple_add PySem.F.slot_tuple_add PySem.F.entry_tuple_add (PySem.F.args_tuple_add_2 _ _)
   (tuple_addW2 t b vs.toArray ws.toArray n n2 dd dd2 sl sl2 (by simpa using hv) (by simpa using hw) (by rw[List.size_toArray,List.size_toArray];exact hsz)) ⟨ho,ho2,?_⟩
  rw[e]
  exact h2 hw
noncomputable def sIx(n d:Nat):Option Int->Nat
 | none=>d
 | some v=>if v < 0 then (v + (n:Int)).toNat else min v.toNat n
theorem sIx_none(n d:Nat):sIx n d none=d:=rfl
theorem sIx_nat(n d k:Nat):sIx n d (some (k:Int))=min k n:=by
 show(if (k:Int) < 0 then ((k:Int) + (n:Int)).toNat else min (k:Int).toNat n)=min k n
 rw[if_neg (by omega),Int.toNat_natCast]
theorem sIx_le(n d:Nat)(hd:d<=n)(o:Option Int):sIx n d o<=n:=by
 cases o with
 | none=>exact hd
 | some v=>
  show(if v < 0 then (v + (n:Int)).toNat else min v.toNat n)<=n
  by_cases hv:v < 0
  ·rw[if_pos hv];omega
  ·rw[if_neg hv];exact Nat.min_le_right _ _
theorem clip_eq(v:Int)(n d:Nat):(if v < 0 then max (v + (n:Int)) 0 else min v (n:Int))=((sIx n d (some v):Nat):Int):=by
 show(if v < 0 then max (v + (n:Int)) 0 else min v (n:Int))=(((if v < 0 then (v + (n:Int)).toNat else min v.toNat n):Nat):Int)
 by_cases hv:v < 0
 ·simp only[if_pos hv];omega
 ·simp only[if_neg hv];omega
theorem adjust_gen(lo hi:Option Int)(n:Nat):Builtin.Slice.sliceAdjust lo hi 1 (n:Int)=(((sIx n 0 lo:Nat):Int),((sIx n n hi:Nat):Int)):=by
 have h1:¬ ((1:Int) < 0):=by omega
 unfold Builtin.Slice.sliceAdjust
 simp only[h1,if_false]
 refine Prod.ext ?_ ?_
 ·cases lo with
  | none=>rfl
  | some v=>exact clip_eq v n 0
 ·cases hi with
  | none=>rfl
  | some v=>exact clip_eq v n n
theorem places_gen(i j:Nat):Builtin.Slice.slicePlaces (i:Int) (j:Int) 1=j - i:=by
 unfold Builtin.Slice.slicePlaces
 have h1:(1:Int) > 0:=by omega
 simp only[h1,if_true,Int.ediv_one]
 split<;>omega
theorem slicePart_{v:Value}{o:Option Int}{Q:Option Int->Shared->Prop}(p:IsPart v o)(h:Q o s):wpAny (model prog w) A (Builtin.Slice.slicePartIndex v) Q E s:=by
 cases p with
 | none=>exact slicePart_none h
 | int i t=>exact slicePart_int h
theorem sliceApplied_gen{sl:Addr}{vl vu:Value}{lo hi:Option Int}{n:Nat}{Q:Int×Int×Nat->Shared->Prop}(hs:s.heap.IsSliceOf sl vl vu .none)(pl:IsPart vl lo)(pu:IsPart vu hi)
  (h:Q (((sIx n 0 lo:Nat):Int),1,sIx n n hi - sIx n 0 lo) s):wpAny (model prog w) A (Builtin.Slice.sliceApplied (.ref sl) (pure (n:Int))) Q E s:=by
 obtain⟨os,hos,hcs,hds⟩:=id hs
 unfold Builtin.Slice.sliceApplied Builtin.Slice.sliceFields
 refine wpAny_bind (wpAny_bind (wpAny_field hos hds (x:=vl) rfl (wpAny_bind (wpAny_field hos hds (x:=vu) rfl (wpAny_bind (wpAny_field hos hds (x:=.none) rfl (wpAny_pure ?_)))))))
 refine wpAny_bind (slicePart_none ?_)
 show wpAny _ _ (if ((1:Int) == 0)=true then _ else _) _ _ s
 rw[if_neg (by decide)]
 refine wpAny_bind (slicePart_ pl (wpAny_bind (slicePart_ pu (wpAny_bind (wpAny_pure ?_)))))
 show wpAny _ _ (match Builtin.Slice.sliceAdjust lo hi 1 (n:Int) with | (lo,hi)=>pure (lo,(1:Int),Builtin.Slice.slicePlaces lo hi 1)) _ _ s
 rw[adjust_gen lo hi n]
 show wpAny _ _ (pure (((sIx n 0 lo:Nat):Int),(1:Int),Builtin.Slice.slicePlaces ((sIx n 0 lo:Nat):Int) ((sIx n n hi:Nat):Int) 1)) _ _ s
 rw[places_gen]
 exact wpAny_pure h
theorem pick_gen(xs:Array Value)(i k:Nat):((List.range k).filterMap fun (m:Nat)=>xs[((i:Int) + (m:Int) * 1).toNat]?).toArray=((xs.toList.drop i).take k).toArray:=by
 have e:(fun (m:Nat)=>xs[((i:Int) + (m:Int) * 1).toNat]?)=fun m=>xs[i + m]?:=by
  funext m
  have:((i:Int) + (m:Int) * 1).toNat=i + m:=by omega
  rw[this]
 rw[e]
 have:=pick_run xs i k
 rw[List.filterMap_map]at this
 have e2:((fun x=>xs[x]?) ∘ fun x=>i + x)=fun m=>xs[i + m]?:=rfl
 rw[e2]at this
 rw[this]
theorem getItem_tuple_cut{t sl:Addr}{items:Array Value}{vl vu:Value}{lo hi:Option Int}{Q:Value->Shared->Prop}(ht:IsTup s.heap t items)(hs:s.heap.IsSliceOf sl vl vu .none)(pl:IsPart vl lo)(pu:IsPart vu hi)
  (hw:¬ (sIx items.size 0 lo=0/\sIx items.size items.size hi=items.size))
  (h:Q (.ref s.heap.objs.size) { s with heap:=s.heap.push { cls:=.type "tuple",data:=.seq ((items.toList.drop (sIx items.size 0 lo)).take (sIx items.size items.size hi - sIx items.size 0 lo)).toArray } })
  (hsz:items.size<=sizeLine):wpAny (model prog w) A (getItem (.ref t) (.ref sl)) Q E s:=by
 have htake:sizeOk (.seq ((items.toList.drop (sIx items.size 0 lo)).take (sIx items.size items.size hi - sIx items.size 0 lo)).toArray):=by
  show((items.toList.drop (sIx items.size 0 lo)).take (sIx items.size items.size hi - sIx items.size 0 lo)).toArray.size<=sizeLine
  rw[List.size_toArray,List.length_take,List.length_drop,Array.length_toList]
  omega
 have hj:sIx items.size items.size hi<=items.size:=sIx_le _ _ (Nat.le_refl _) hi
 obtain⟨os,hos,hcs,hds⟩:=id hs
 have hTs:s.TypeIs (.ref sl) "slice":=⟨os,hos,hcs⟩
 unfold getItem
 try with_reducible refine wpAny_holding ?_
 first | refine wpAny_bind (wpAny_pure ?_) | skip
 refine wpAny_bind (wpAny_sequenceKey ht.typeIs (by decide) ?_)
 refine wpAny_bind (wpAny_callSpecial?_slot (name:=Str.ofString "__getitem__") ht.typeIs PyProof.Rows.slot_tuple_getitem
  (wpAny_call_entry PyProof.Rows.slot_tuple_getitem ht.typeIs entry_tuple_getitem ?_ (args_tuple_getitem _ _)))
 show wpAny _ _ (Builtin.Tuple.tupleItemsOf (.ref t) >>= _) _ _ s
 refine wpAny_bind (tupleItemsOf_ ht ?_)
 refine wpAny_bind (wpAny_typeOf hTs ?_)
 rw[if_pos (by decide)]
 refine wpAny_bind (sliceApplied_gen hs pl pu ?_)
 have hno:¬ ((((sIx items.size 0 lo:Nat):Int) == 0 && (1:Int) == 1 && (sIx items.size items.size hi - sIx items.size 0 lo) == items.size)=true):=by
  intro q
  rw[Bool.and_eq_true,Bool.and_eq_true]at q
  have q1:((sIx items.size 0 lo:Nat):Int)=0:=eq_of_beq q.1.1
  have q2:sIx items.size items.size hi - sIx items.size 0 lo=items.size:=eq_of_beq q.2
  exact hw ⟨by omega,by omega⟩
 show wpAny _ _ (if (((sIx items.size 0 lo:Nat):Int) == 0 && (1:Int) == 1 && (sIx items.size items.size hi - sIx items.size 0 lo) == items.size)=true then _ else _) _ _ s
 rw[if_neg hno,pick_gen]
 first
  | exact wpAny_bind (m:=Builtin.Tuple.tupleExact _) (wpAny_newObj_type (wpAny_pure ⟨_,rfl,wpAny_pure h⟩) htake)
  | exact wpAny_bind (m:=Builtin.Tuple.tupleExact _) (wpAny_newObj_type (wpAny_bind (wpAny_pure (wpAny_pure ⟨_,rfl,wpAny_pure h⟩))) htake)
  | exact wpAny_bind (wpAny_bind (m:=Builtin.Tuple.tupleExact _) (wpAny_newObj_type (wpAny_pure (wpAny_pure ⟨_,rfl,wpAny_pure h⟩)) htake))
  | exact wpAny_bind (wpAny_bind (m:=Builtin.Tuple.tupleExact _) (wpAny_newObj_type (wpAny_pure ⟨_,rfl,wpAny_pure h⟩) htake))
end
end HT
namespace L2
open PySem PySem.Spec PyProof.Rows
noncomputable abbrev TO:=St->Hp->(Option Int->Hp->Prop)->Prop
noncomputable def PO(X:Cx)(e:Option Expr)(t:TO):Prop:=
 ∀ (pins:List (Addr×Obj)) (s:Shared) (σ:St) (H:Hp) (Q:Option Int->Hp->Prop),Inv X pins σ H s->t σ H Q ->
  wpAny (model X.prog X.w) X.A (evalPart e X.env) (fun u s'=>∃ o H',Inv X pins σ H' s'/\IsPart u o/\Q o H') X.xe s
noncomputable def tNoPart:TO:=fun _ H Q=>Q none H
noncomputable def tPart(t:TE):TO:=fun σ H Q=>t σ H fun x H1=>∃ i,x=.int i/\Q (some i) H1
section
variable{X:Cx}{e:Expr}{te:TE}{lo hi:Option Expr}{tl th:TO}{pos p2:Pos}
theorem po_none:PO X none tNoPart:=by
 intro pins s σ H Q I h
 rw[evalPart_none]
 exact wpAny_pure ⟨none,H,I,.none,h⟩
theorem po_some(h:PE X e te):PO X (some e) (tPart te):=by
 intro pins s σ H Q I hw
 rw[evalPart_some]
 refine thn (h pins s σ H _ I hw) fun u s1 ⟨x,H1,I1,r1,q1⟩ => ?_
 obtain⟨i,rfl,q⟩:=q1
 obtain⟨t,rfl⟩:=r1
 exact⟨some i,H1,I1,.int i t,q⟩
noncomputable def SlR(X:Cx)(r:V->Option Int->Option Int->Hp->VK->Prop):Prop:=
 ∀ (pins:List (Addr×Obj)) (s:Shared) (σ:St) (H:Hp) (x:V) (v vl vu:Value) (lo hi:Option Int) (sl:Addr) (Q:VK),Inv X pins σ H s->RelV x v->s.heap.IsSliceOf sl vl vu .none->IsPart vl lo->IsPart vu hi->r x lo hi H Q ->
  ∃ T id,typeLookup (.type T) "__getitem__"=pure (some (.builtin id))/\s.TypeIs v T/\wpAny (model X.prog X.w) X.A (getItem v (.ref sl)) (EP X pins σ Q) X.xe s
theorem SlR.or{r r':V->Option Int->Option Int->Hp->VK->Prop}(h:SlR X r)(h':SlR X r'):SlR X (fun x lo hi H Q=>r x lo hi H Q\/r' x lo hi H Q):=by
 intro pins s σ H x v vl vu lo hi sl Q I rx hs pl pu q
 rcases q with q | q
 ·exact h pins s σ H x v vl vu lo hi sl Q I rx hs pl pu q
 ·exact h' pins s σ H x v vl vu lo hi sl Q I rx hs pl pu q
noncomputable def tSl(r:V->Option Int->Option Int->Hp->VK->Prop)(te:TE)(tl th:TO):TE:=fun σ H Q=>te σ H fun x H1=>tl σ H1 fun l H2=>th σ H2 fun u H3=>r x l u H3 Q
theorem pe_slice{r:V->Option Int->Option Int->Hp->VK->Prop}(hr:SlR X r)(he:PE X e te)(hl:PO X lo tl)(hu:PO X hi th):PE X (.Subscript e (.Slice lo hi none p2) pos) (tSl r te tl th):=by
 intro pins s σ H Q I h
 refine Subscript_ (thn (he pins s σ H _ I h) fun v s1 ⟨x,H1,I1,r1,q1⟩ => ?_)
 refine wpAny_Slice (thn (hl pins s1 σ H1 _ I1 q1) fun vl s2 ⟨l,H2,I2,pl,q2⟩=>thn (hu pins s2 σ H2 _ I2 q2) fun vu s3 ⟨u,H3,I3,pu,q3⟩ => ?_)
 rw[evalPart_none]
 refine wpAny_pure ?_
 have I4:Inv X pins σ H3 { s3 with heap:=s3.heap.push { cls:=.type "slice",data:=.fields #[vl,vu,.none] } }:=I3.kept (t':=s3.toks) fun b ob q=>Heap.get?_push_of_some _ q
 obtain⟨T,id,hT,ht,hg⟩:=hr pins { s3 with heap:=s3.heap.push { cls:=.type "slice",data:=.fields #[vl,vu,.none] } } σ H3 x v vl vu l u s3.heap.objs.size Q I4 r1 (Heap.IsSliceOf.new ..) pl pu q3
 show wpAny (model X.prog X.w) X.A (subscriptTail e (.Slice lo hi none p2) v (.ref s3.heap.objs.size)) (EP X pins σ Q) X.xe { s3 with heap:=s3.heap.push { cls:=.type "slice",data:=.fields #[vl,vu,.none] } }
 exact tail_any (ops:=[.ref s3.heap.objs.size,v]) ht hT hg (by with_unfolding_all rfl)
noncomputable def cutV(xs:List V)(lo hi:Option Int):List V:=(xs.drop (HT.sIx xs.length 0 lo)).take (HT.sIx xs.length xs.length hi - HT.sIx xs.length 0 lo)
theorem cutV_length(xs:List V)(lo hi:Option Int):(cutV xs lo hi).length<=xs.length:=by
 unfold cutV
 rw[List.length_take,List.length_drop]
 omega
noncomputable def rSlT(K:PySem.W.Frag):V->Option Int->Option Int->Hp->VK->Prop:=fun x lo hi H Q=>∃ a xs,x=.ref a/\SqT K H a xs /\
 ¬ (HT.sIx xs.length 0 lo=0/\HT.sIx xs.length xs.length hi=xs.length)/\∀ p,H p=none->Q (.ref p) (upd H p (.tup (cutV xs lo hi)))
theorem sl_tup:SlR X (rSlT X.K):=by
 intro pins s σ H x v vl vu lo hi sl Q I rx hs pl pu h
 obtain⟨a,xs,rfl,hx,hw,q⟩:=h
 cases rx
 obtain⟨its,r,ht,hz⟩:=I.tuple hx
 have hlen:its.toArray.size=xs.length:=by rw[List.size_toArray];exact r.length.symm
 refine⟨"tuple",_,PyProof.Rows.slot_tuple_getitem.lookup,ht.typeIs,?_⟩
 refine HT.getItem_tuple_cut ht hs pl pu (by rw[hlen];exact hw) ?_ (by rw[hlen];exact hz)
 rw[hlen]
 refine⟨.ref s.heap.objs.size,_,I.laid (t':=s.toks) (o:=.tup (cutV xs lo hi)) (fun b ob q=>Heap.get?_push_of_some _ q) (Nat.le_refl _) ?_,rfl,q _ (I.hok.fresh (Nat.le_refl _))⟩
 exact⟨Nat.le_trans (cutV_length xs lo hi) hz,_,(r.drop (HT.sIx xs.length 0 lo)).take (HT.sIx xs.length xs.length hi - HT.sIx xs.length 0 lo),IsTup.new _ _⟩
noncomputable def rCatT(K:PySem.W.Frag):R2:=fun x y H Q=>∃ a b xs ys,x=.ref a/\y=.ref b/\SqT K H a xs/\SqT K H b ys/\xs≠[]/\xs.length + ys.length<=sizeLine /\
 (ys=[]->Q (.ref a) H)/\(ys≠[]->∀ p,H p=none->Q (.ref p) (upd H p (.tup (xs++ys))))
theorem Vals.nil_iff{xs:List V}{us:List Value}(r:Vals xs us):us=[]↔xs=[]:=by
 cases r with
 | nil=>simp
 | cons _ _=>simp
theorem op_catT:OpR X (binaryOp .Add) (rCatT X.K):=by
 intro pins s σ H x y v u Q I rx ry h
 obtain⟨a,b,xs,ys,rfl,rfl,ha,hb,hx,hz,q1,q2⟩:=h
 cases rx
 cases ry
 obtain⟨its,r1,p1,_⟩:=I.tuple ha
 obtain⟨its2,r2,p2,_⟩:=I.tuple hb
 refine HT.cat_tup p1 p2 (fun z=>hx (r1.nil_iff.mp z)) (fun z=>⟨.ref a,H,I,rfl,q1 (r2.nil_iff.mp z)⟩) (fun z => ?_) (by rw[← r1.length,← r2.length];exact hz)
 refine⟨.ref s.heap.objs.size,_,I.laid (t':=s.toks) (o:=.tup (xs++ys)) (fun b ob q=>Heap.get?_push_of_some _ q) (Nat.le_refl _) ?_,rfl,q2 (fun w=>z (r2.nil_iff.mpr w)) _ (I.hok.fresh (Nat.le_refl _))⟩
 exact⟨by rw[List.length_append];exact hz,_,r1.append r2,IsTup.new _ _⟩
end
end L2
namespace L2
open PySem PySem.Spec PyProof.Rows
noncomputable def ixN(n:Nat)(i:Int):Option Nat:=if 0<=i then (if i < n then some i.toNat else none) else if -(n:Int)<=i then some (i + n).toNat else none
noncomputable def atI{α:Type}(xs:List α)(i:Int):Option α:=(ixN xs.length i).bind fun j=>xs[j]?
theorem ixN_seq{n:Nat}{i:Int}{j:Nat}(h:ixN n i=some j):seqIndex? i n=some j/\j < n /\ -(n:Int)<=i/\i < n:=by
 unfold ixN at h
 by_cases h0:0<=i
 ·rw[if_pos h0]at h
  by_cases h1:i < n
  ·rw[if_pos h1]at h
   have e:i.toNat=j:=Option.some.inj h
   exact⟨by rw[seqIndex_of h0 h1,e],by omega,by omega,h1⟩
  ·rw[if_neg h1]at h;cases h
 ·rw[if_neg h0]at h
  by_cases h1 : -(n:Int)<=i
  ·rw[if_pos h1]at h
   have e:(i + n).toNat=j:=Option.some.inj h
   exact⟨by rw[seqIndex_neg (by omega) h1,e],by omega,h1,by omega⟩
  ·rw[if_neg h1]at h;cases h
theorem atI_get{α:Type}{xs:List α}{i:Int}{v:α}(h:atI xs i=some v):∃ j,seqIndex? i xs.length=some j/\xs[j]?=some v/\j < xs.length /\ -(xs.length:Int)<=i/\i < xs.length:=by
 unfold atI at h
 cases e:ixN xs.length i with
 | none=>rw[e]at h;cases h
 | some j=>
  rw[e]at h
  obtain⟨h1,h2,h3,h4⟩:=ixN_seq e
  exact⟨j,h1,h,h2,h3,h4⟩
theorem atI_nat{α:Type}{xs:List α}{j:Nat}{v:α}(h:xs[j]?=some v):atI xs (j:Int)=some v:=by
 have hj:j < xs.length:=(List.getElem?_eq_some_iff.mp h).1
 have e:ixN xs.length (j:Int)=some j:=by
  unfold ixN
  rw[if_pos (by omega),if_pos (by omega)];simp
 unfold atI;rw[e];exact h
noncomputable def PlainIx(b:Expr):Prop:=∀ o i,subscripted b false o i=operate [o,i] (getItem o i)
noncomputable def IxR(X:Cx)(r:R2):Prop:=
 ∀ (value slice:Expr) (pins:List (Addr×Obj)) (s:Shared) (σ:St) (H:Hp) (x y:V) (v u:Value) (Q:VK),Inv X pins σ H s->RelV x v->RelV y u->r x y H Q ->
  subscripted slice false v u=operate [v,u] (getItem v u)->wpAny (model X.prog X.w) X.A (subscriptTail value slice v u) (EP X pins σ Q) X.xe s
noncomputable def MtR(X:Cx)(id:String)(r:V->List V->Hp->VK->Prop):Prop:=
 ∀ (pins:List (Addr×Obj)) (s:Shared) (σ:St) (H:Hp) (x:V) (xs:List V) (v:Value) (us:List Value) (Q:VK),Inv X pins σ H s->RelV x v->Vals xs us->r x xs H Q ->
  wpAny (model X.prog X.w) X.A (call (.builtin id) (v::us)) (EP X pins σ Q) X.xe s
section
variable{X:Cx}{a b:Expr}{ta tb:TE}{pos:Pos}
theorem IxR.or{r r':R2}(h:IxR X r)(h':IxR X r'):IxR X (fun x y H Q=>r x y H Q\/r' x y H Q):=by
 intro value slice pins s σ H x y v u Q I rx ry q hs
 rcases q with q | q
 ·exact h value slice pins s σ H x y v u Q I rx ry q hs
 ·exact h' value slice pins s σ H x y v u Q I rx ry q hs
theorem MtR.or{id:String}{r r':V->List V->Hp->VK->Prop}(h:MtR X id r)(h':MtR X id r'):MtR X id (fun x xs H Q=>r x xs H Q\/r' x xs H Q):=by
 intro pins s σ H x xs v us Q I rx rs q
 rcases q with q | q
 ·exact h pins s σ H x xs v us Q I rx rs q
 ·exact h' pins s σ H x xs v us Q I rx rs q
theorem pe_ix{r:R2}(hr:IxR X r)(ha:PE X a ta)(hb:PE X b tb)(hs:PlainIx b):PE X (.Subscript a b pos) (tOp r ta tb):=by
 intro pins s σ H Q I h
 exact Subscript_ (binT ha hb I h fun v u s2 x y H2 I2 rx ry q=>hr a b pins s2 σ H2 x y v u Q I2 rx ry q (hs _ _))
noncomputable def rIxL(K:PySem.W.Frag):R2:=fun x y H Q=>∃ p xs i v,x=.ref p/\y=.int i/\SqL K H p xs/\atI xs i=some v/\Q v H
noncomputable def rIxT(K:PySem.W.Frag):R2:=fun x y H Q=>∃ p xs i v,x=.ref p/\y=.int i/\SqT K H p xs/\atI xs i=some v/\Q v H
noncomputable def rIxS:R2:=fun x y H Q=>∃ z i c,x=.str z/\y=.int i/\z.length<=sizeLine/\atI z.cps.toList i=some c/\Q (.str ⟨#[c]⟩) H
theorem ix_list:IxR X (rIxL X.K):=by
 intro value slice pins s σ H x y v u Q I rx ry h hs
 obtain⟨p,xs,i,z,rfl,rfl,hq,he,q⟩:=h
 cases rx
 obtain⟨t,rfl⟩:=ry
 obtain⟨its,r,pl,hz⟩:=I.list hq
 obtain⟨j,h1,h2,h3,h4,h5⟩:=atI_get he
 obtain⟨w,ew,rw'⟩:=r.get h2
 have hl:=r.length
 have hn:=line63
 have fin:EP X pins σ Q w s:=⟨z,H,I,rw',q⟩
 by_cases h0:0<=i
 ·have hj:i.toNat=j:=by
   rw[seqIndex_of h0 h5]at h1
   exact Option.some.inj h1
  exact item_listR pl.isList h0 (by omega) (by rw[hj];simpa using ew) fin hs
 ·have hj:(i + (its.toArray.size:Int)).toNat=j:=by
   rw[seqIndex_neg (by omega) h4]at h1
   rw[List.size_toArray,← hl]
   exact Option.some.inj h1
  exact subscriptTail_builtinR (x:=w) pl.isList.typeIs slot_list_getitem.lookup
   (wpAny_getItem_list_neg (Q:=fun r s'=>r=w/\EP X pins σ Q r s') pl.isList (by omega) (by rw[List.size_toArray]<;>omega) (by omega) (by rw[hj];simpa using ew) ⟨rfl,fin⟩) hs
theorem ix_tup:IxR X (rIxT X.K):=by
 intro value slice pins s σ H x y v u Q I rx ry h hs
 obtain⟨p,xs,i,z,rfl,rfl,hq,he,q⟩:=h
 cases rx
 obtain⟨t,rfl⟩:=ry
 obtain⟨its,r,pl,hz⟩:=I.tuple hq
 obtain⟨j,h1,h2,h3,h4,h5⟩:=atI_get he
 obtain⟨w,ew,rw'⟩:=r.get h2
 have hl:=r.length
 have hn:=line63
 have fin:EP X pins σ Q w s:=⟨z,H,I,rw',q⟩
 exact subscriptTail_builtinR (x:=w) pl.typeIs slot_tuple_getitem.lookup
  (getItem_tuple (j:=j) (Q:=fun r s'=>r=w/\EP X pins σ Q r s') pl (by omega) (by omega) (by rw[List.size_toArray,← hl];exact h1) (by simpa using ew) ⟨rfl,fin⟩) hs
theorem ix_str:IxR X rIxS:=by
 intro value slice pins s σ H x y v u Q I rx ry h hs
 obtain⟨z,i,c,rfl,rfl,hz,he,q⟩:=h
 obtain⟨t,rfl⟩:=rx
 obtain⟨t',rfl⟩:=ry
 obtain⟨j,h1,h2,h3,h4,h5⟩:=atI_get he
 have hl:z.cps.toList.length=z.length:=by simp[Str.length]
 rw[hl]at h1 h4 h5
 have hn:=line63
 exact tail_any (typeIs_str s z t) slot_str_getitem.lookup (getItem_str (c:=c) (by
  have e1:decide (i < -(2 ^ 63:Int))=false:=decide_eq_false (by omega)
  have e2:decide (i≥2 ^ 63)=false:=decide_eq_false (by omega)
  rw[e1,e2,Bool.or_false]) (by rw[h1];simpa using h2) ⟨.str ⟨#[c]⟩,H,I.tok _,⟨_,rfl⟩,q⟩) hs
noncomputable def rIx(K:PySem.W.Frag):R2:=fun x y H Q=>rIxL K x y H Q\/rIxT K x y H Q\/rIxS x y H Q
theorem ix_seq:IxR X (rIx X.K):=ix_list.or (ix_tup.or ix_str)
theorem mapSeq_set(its:List Value)(n j:Nat)(u:Value):Obj.mapSeq (·.setIfInBounds j u) { cls:=.type "list",data:=.seq its.toArray n }={ cls:=.type "list",data:=.seq (its.set j u).toArray n }:=by
 simp[Obj.mapSeq]
theorem Inv.lst{pins:List (Addr×Obj)}{σ:St}{H:Hp}{s:Shared}{p:Addr}{xs:List V}(I:Inv X pins σ H s)(h:H p=some (.lst xs)) :
  ∃ (its:List Value) (n:Nat),Vals xs its/\s.heap.get? p=some { cls:=.type "list",data:=.seq its.toArray n }/\xs.length<=sizeLine:=by
 obtain⟨z,its,n,r,e⟩:=I.hok p _ h
 exact⟨its,n,r,e,z⟩
theorem Inv.lstUpd{pins:List (Addr×Obj)}{σ:St}{H:Hp}{s:Shared}{p:Addr}{xs ys:List V}{its its':List Value}{n n':Nat}{f:Obj->Obj}(I:Inv X pins σ H s)(h:H p=some (.lst xs))
  (ho:s.heap.get? p=some { cls:=.type "list",data:=.seq its.toArray n }) (hf:f { cls:=.type "list",data:=.seq its.toArray n }={ cls:=.type "list",data:=.seq its'.toArray n' }) (r:Vals ys its') (hz:ys.length<=sizeLine) (t:Nat) :
  Inv X pins σ (upd H p (.lst ys)) { s with heap:=s.heap.update p f,toks:=t }:=by
 have e:(s.heap.update p f).get? p=some { cls:=.type "list",data:=.seq its'.toArray n' }:=by
  rw[Heap.get?_update_self f ho (by rw[hf]<;>rfl),hf]
 refine I.write (x:=p) (e:=p) (by rw[h];trivial) (.inl rfl) (fun b u hb q=>(Heap.get?_update_other _ _ (Ne.symm hb)).trans q) ⟨_,e⟩ ?_
 exact⟨hz,its',n',r,e⟩
noncomputable def rSetL:V->V->V->Hp->(Hp->Prop)->Prop:=fun o i v H Q=>∃ p xs k j,o=.ref p/\i=.int k/\H p=some (.lst xs)/\ixN xs.length k=some j/\Q (upd H p (.lst (xs.set j v)))
theorem set_list:PSet X rSetL:=by
 intro pins s σ H o i v ov iv u Q I ro ri rv h
 obtain⟨p,xs,k,j,rfl,rfl,hp,hj,q⟩:=h
 cases ro
 obtain⟨t,rfl⟩:=ri
 obtain⟨its,n,r,ho,hz⟩:=I.lst hp
 obtain⟨h1,h2,h3,h4⟩:=ixN_seq hj
 have hl:=r.length
 have hn:=line63
 have I':Inv X pins σ (upd H p (.lst (xs.set j v))) { s with heap:=s.heap.update p (Obj.mapSeq (·.setIfInBounds j u)) }:=
  I.lstUpd hp ho (mapSeq_set its n j u) (r.set rv j) (by rw[List.length_set];exact hz) s.toks
 by_cases h0:0<=k
 ·have hk:k.toNat=j:=by
   rw[seqIndex_of h0 h4]at h1
   exact Option.some.inj h1
  exact PySem.W.ki_setAt ho h0 (by omega) (by rw[List.size_toArray,← hl];exact h4) (by rw[hk];exact⟨_,I',q⟩)
 ·have hk:(k + (its.toArray.size:Int)).toNat=j:=by
   rw[seqIndex_neg (by omega) h3]at h1
   rw[List.size_toArray,← hl]
   exact Option.some.inj h1
  exact PySem.W.ki_setBack ho (by omega) (by rw[List.size_toArray,← hl];exact h3) (by omega) (by rw[hk];exact⟨_,I',q⟩)
theorem slice_bounds(lo hi:Option Int)(n:Nat):(sliceBounds lo hi none n).1=((HT.sIx n 0 lo:Nat):Int)/\(sliceBounds lo hi none n).2.1=((HT.sIx n n hi:Nat):Int)/\(sliceBounds lo hi none n).2.2=1:=by
 refine⟨?_,?_,rfl⟩
 ·cases lo with
  | none=>simp[sliceBounds,HT.sIx]
  | some i=>
   simp only[sliceBounds,HT.sIx,Option.getD_none,show(1:Int) > 0 by decide,if_true]
   by_cases h:i < 0
   ·simp only[h,if_true]<;>omega
   ·simp only[h,if_false]<;>omega
 ·cases hi with
  | none=>simp[sliceBounds,HT.sIx]
  | some i=>
   simp only[sliceBounds,HT.sIx,Option.getD_none,show(1:Int) > 0 by decide,if_true]
   by_cases h:i < 0
   ·simp only[h,if_true]<;>omega
   ·simp only[h,if_false]<;>omega
theorem slicePick_cut(its:List Value)(lo hi:Option Int):slicePick its.toArray lo hi none=((its.drop (HT.sIx its.length 0 lo)).take (HT.sIx its.length its.length hi - HT.sIx its.length 0 lo)).toArray:=by
 obtain⟨h1,h2,h3⟩:=slice_bounds lo hi its.toArray.size
 unfold slicePick
 rw[h1,h2,h3]
 simp only[sliceRange_one,pick_run,List.size_toArray]<;>rfl
noncomputable def rSlL(K:PySem.W.Frag):V->Option Int->Option Int->Hp->VK->Prop:=fun x lo hi H Q=>∃ a xs,x=.ref a/\SqL K H a xs/\∀ p,H p=none->Q (.ref p) (upd H p (.lst (cutV xs lo hi)))
theorem sl_list:SlR X (rSlL X.K):=by
 intro pins s σ H x v vl vu lo hi sl Q I rx hs pl pu h
 obtain⟨a,xs,rfl,hx,q⟩:=h
 cases rx
 obtain⟨its,r,ht,hz⟩:=I.list hx
 have hlen:=r.length
 refine⟨"list",_,slot_list_getitem.lookup,ht.isList.typeIs,?_⟩
 refine wpAny_getItem_list_slice ht.isList hs pl pu .none (by simp) ?_ (by rw[List.size_toArray]<;>omega)
 rw[slicePick_cut,← hlen]
 refine⟨.ref s.heap.objs.size,_,I.laid (t':=s.toks) (o:=.lst (cutV xs lo hi)) (fun b ob q=>Heap.get?_push_of_some _ q) (Nat.le_refl _) ?_,rfl,q _ (I.hok.fresh (Nat.le_refl _))⟩
 exact⟨Nat.le_trans (cutV_length xs lo hi) hz,_,0,(r.drop (HT.sIx xs.length 0 lo)).take (HT.sIx xs.length xs.length hi - HT.sIx xs.length 0 lo),Heap.get?_push_size _ rfl⟩
theorem call_len_seq:CallR X (.builtin "len") (fun xs H Q=>∃ p ys,xs=[.ref p]/\(SqL X.K H p ys\/SqT X.K H p ys)/\Q (.int ys.length) H):=by
 intro pins s σ H xs us Q I r h
 obtain⟨p,ys,rfl,hq,q⟩:=h
 obtain⟨u,rfl,rx⟩:=vals1 r
 cases rx
 have hn:=line63
 rcases hq with hq | hq
 ·obtain⟨its,r',pl,hz⟩:=I.list hq
  have hlen:=r'.length
  exact Calls.call_len_list pl.isList (by simp only[List.size_toArray]<;>omega) ⟨.int ys.length,H,I.tok _,⟨s.toks + 1,by rw[List.size_toArray,hlen]⟩,q⟩
 ·obtain⟨its,r',pl,hz⟩:=I.tuple hq
  have hlen:=r'.length
  exact len_tuple pl (by simp only[List.size_toArray]<;>omega) ⟨.int ys.length,H,I.tok _,⟨s.toks + 1,by rw[List.size_toArray,hlen]⟩,q⟩
theorem call_len_str:CallR X (.builtin "len") (fun xs H Q=>∃ z,xs=[.str z]/\z.length<=sizeLine/\Q (.int z.length) H):=by
 intro pins s σ H xs us Q I r h
 obtain⟨z,rfl,hz,q⟩:=h
 obtain⟨u,rfl,t,rfl⟩:=vals1 r
 have hn:=line63
 exact len_str (by omega) ⟨.int z.length,H,I.tok _,⟨_,rfl⟩,q⟩
theorem CallR.or{f:Value}{r r':List V->Hp->VK->Prop}(h:CallR X f r)(h':CallR X f r'):CallR X f (fun xs H Q=>r xs H Q\/r' xs H Q):=by
 intro pins s σ H xs us Q I rs q
 rcases q with q | q
 ·exact h pins s σ H xs us Q I rs q
 ·exact h' pins s σ H xs us Q I rs q
theorem call_list_of:CallR X (.type "list") (fun xs H Q=>∃ p ys,xs=[.ref p]/\(SqL X.K H p ys\/SqT X.K H p ys)/\∀ l,H l=none->Q (.ref l) (upd H l (.lst ys))):=by
 intro pins s σ H xs us Q I r h
 obtain⟨p,ys,rfl,hq,q⟩:=h
 obtain⟨u,rfl,rx⟩:=vals1 r
 cases rx
 have fin:∀ (its:List Value),Vals ys its->ys.length<=sizeLine->∀ (h':Heap) (c':Nat),(∀ b o',s.heap.get? b=some o'->h'.get? b=some o') ->
   h'.get? s.heap.objs.size=some { cls:=.type "list",dict:=none,data:=.seq its.toArray c',slots := #[] }->EP X pins σ Q (.ref s.heap.objs.size) { s with heap:=h' }:=fun its r' hz h' c' kp e=>
  ⟨.ref s.heap.objs.size,_,I.laid (t':=s.toks) kp (Nat.le_refl _) (show ObjOk X.prog X.w _ h' _ (.lst ys) from⟨hz,its,c',r',e⟩),rfl,q _ (I.hok.fresh (Nat.le_refl _))⟩
 rcases hq with hq | hq
 ·obtain⟨its,r',pl,hz⟩:=I.list hq
  have hlen:=r'.length
  obtain⟨o,ho,hc,n,hd⟩:=pl.isList
  exact call_list_seq p (.inl rfl) ho hc hd (fun h' c' kp e=>fin its r' hz h' c' kp e) (by simp only[List.size_toArray]<;>omega)
 ·obtain⟨its,r',pl,hz⟩:=I.tuple hq
  have hlen:=r'.length
  obtain⟨o,ho,hc,n,hd⟩:=pl
  exact call_list_seq p (.inr rfl) ho hc hd (fun h' c' kp e=>fin its r' hz h' c' kp e) (by simp only[List.size_toArray]<;>omega)
theorem call_tuple_of:CallR X (.type "tuple") (fun xs H Q=>∃ p ys,xs=[.ref p]/\((SqL X.K H p ys/\∀ l,H l=none->Q (.ref l) (upd H l (.tup ys)))\/(SqT X.K H p ys/\Q (.ref p) H))):=by
 intro pins s σ H xs us Q I r h
 obtain⟨p,ys,rfl,h⟩:=h
 obtain⟨u,rfl,rx⟩:=vals1 r
 cases rx
 rcases h with ⟨hq,q⟩ | ⟨hq,q⟩
 ·obtain⟨its,r',pl,hz⟩:=I.list hq
  have hlen:=r'.length
  refine call_tuple_list pl.isList (fun h' kp => ?_) (by simp only[List.size_toArray]<;>omega)
  have I1:Inv X pins σ H { s with heap:=h' }:=I.kept (t':=s.toks) kp
  have I2:Inv X pins σ (upd H h'.objs.size (.tup ys)) { s with heap:=h'.push { cls:=.type "tuple",data:=.seq its.toArray } }:=
   I1.laid (t':=s.toks) (fun b o e=>Heap.get?_push_of_some _ e) (Nat.le_refl _) (show ObjOk X.prog X.w _ _ _ (.tup ys) from⟨hz,its,r',IsTup.new _ _⟩)
  exact⟨.ref h'.objs.size,_,I2,rfl,q _ (I1.hok.fresh (Nat.le_refl _))⟩
 ·obtain⟨its,r',pl,hz⟩:=I.tuple hq
  exact call_tuple_same pl ⟨.ref p,H,I,rfl,q⟩
noncomputable def tyV(K:PySem.W.Frag)(T:String)(x:V)(H:Hp):Prop:=match x with
 | .str _=>T="str"
 | .int _=>T="int"
 | .ref p=>(T="list"/\∃ xs,SqL K H p xs)\/(T="tuple"/\∃ o,K.lookup p=some o/\o.cls=.type "tuple"/\o.dict=none) \/
   (T="dict"/\((∃ kvs,H p=some (.dK kvs))\/∃ kvs,H p=some (.dT kvs)))\/(T="set"/\∃ S n,H p=some (.set S n))
 | _=>False
theorem tyV_is{pins:List (Addr×Obj)}{σ:St}{H:Hp}{s:Shared}{T:String}{x:V}{v:Value}(I:Inv X pins σ H s)(r:RelV x v)(ty:tyV X.K T x H) :
  s.TypeIs v T/\∀ a,v=.ref a->∃ ob,s.heap.get? a=some ob/\ob.dict=none:=by
 cases x with
 | str z=>
  obtain⟨t,rfl⟩:=r
  cases (show T="str" from ty)
  exact⟨typeIs_str s z t,fun _ e=>nomatch e⟩
 | int i=>
  obtain⟨t,rfl⟩:=r
  cases (show T="int" from ty)
  exact⟨typeIs_int s i t,fun _ e=>nomatch e⟩
 | ref p=>
  cases r
  rcases ty with ⟨rfl,xs,hq⟩ | ⟨rfl,o,hk,hc,hd⟩ | ⟨rfl,hk⟩ | ⟨rfl,S,n,hk⟩
  ·obtain⟨its,_,pl,_⟩:=I.list hq
   refine⟨pl.isList.typeIs,fun a e => ?_⟩
   cases e
   obtain⟨o,n,e,c,hd,_⟩:=pl
   exact⟨o,e,hd⟩
  ·refine⟨⟨o,I.kIn p o hk,hc⟩,fun a e => ?_⟩
   cases e
   exact⟨o,I.kIn _ o hk,hd⟩
  ·have z:∃ o,s.heap.get? p=some o/\o.ExactDict:=by
    rcases hk with ⟨kvs,hk⟩ | ⟨kvs,hk⟩
    ·obtain⟨_,_,_,_,o,_,_,e,ex,_⟩:=I.hok p _ hk
     exact⟨o,e,ex⟩
    ·obtain⟨_,_,_,_,o,_,_,e,ex,_⟩:=I.hok p _ hk
     exact⟨o,e,ex⟩
   obtain⟨o,e,ex⟩:=z
   refine⟨⟨o,e,ex.1⟩,fun a e2 => ?_⟩
   cases e2
   exact⟨o,e,ex.2.1⟩
  ·obtain⟨o,_,_,_,e,ex,_⟩:=I.hok p _ hk
   refine⟨⟨o,e,ex.1⟩,fun a e2 => ?_⟩
   cases e2
   exact⟨o,e,ex.2.1⟩
 | _=>exact False.elim ty
noncomputable def tBM0(K:PySem.W.Frag)(T:String)(r:V->List V->Hp->VK->Prop)(to:TE):TE:=fun σ H Q=>to σ H fun x H1=>tyV K T x H1/\r x [] H1 Q
noncomputable def tBM(K:PySem.W.Frag)(T:String)(r:V->List V->Hp->VK->Prop)(to:TE)(t:TA):TE:=fun σ H Q=>to σ H fun x H1=>tyV K T x H1/\t σ H1 fun xs H2=>r x xs H2 Q
variable{o e:Expr}{es:List Expr}{to:TE}{t:TA}{name:Str}{apos cpos:Pos}{T id:String}{r:V->List V->Hp->VK->Prop}
theorem pe_bm0(pa:PlainAttrs T)(slot:Slot T name id)(hty:typeOf (.builtin id)=pure (.type "method_descriptor"))(hm:MtR X id r)(ho:PE X o to)
  (hbase:attributeBase o name X.env (eval o X.env)=eval o X.env:=by rfl) (hline:(apos.endLine == cpos.line)=true:=by rfl):PE X (.Call (.Attribute o name apos) [] [] cpos) (tBM0 X.K T r to):=by
 intro pins s σ H Q I h
 refine wpAny_Call_method0_late hbase hline (thn (ho pins s σ H _ I h) fun v s1 ⟨x,H1,I1,r1,ty,q1⟩ => ?_)
 obtain⟨h1,h2⟩:=tyV_is I1 r1 ty
 exact⟨T,id,pa,slot,hty,h1,h2,Calls.callWith_builtin rfl (PySem.evalArgs_none (hm pins s1 σ H1 x [] v [] Q I1 r1 .nil q1))⟩
theorem pe_bm(pa:PlainAttrs T)(slot:Slot T name id)(hty:typeOf (.builtin id)=pure (.type "method_descriptor"))(hm:MtR X id r)(ho:PE X o to)(ha:PA X (e::es) t)
  (hbase:attributeBase o name X.env (eval o X.env)=eval o X.env:=by rfl)
  (hfew:((backTo cpos (starEach (e::es) X.env)).all (fun x => !x.1) && (backToKw cpos (keywordEach [] X.env)).all (fun x=>x.1.isSome)
   && decide ((e::es).length + ([]:List Keyword).length + (if ([]:List Keyword).isEmpty then 0 else 1) < 30))=true:=by rfl)
  (hline:(apos.endLine == cpos.line)=true:=by rfl) (hs:starEach (e::es) X.env=(false,eval e X.env)::starEach es X.env:=by rfl) (hplain:(backTo cpos (starEach es X.env)).any (·.1)=false:=by rfl) :
  PE X (.Call (.Attribute o name apos) (e::es) [] cpos) (tBM X.K T r to t):=by
 intro pins s σ H Q I h
 refine wpAny_Call_method_late hbase hfew hline rfl (thn (ho pins s σ H _ I h) fun v s1 ⟨x,H1,I1,r1,ty,q1⟩ => ?_)
 obtain⟨h1,h2⟩:=tyV_is I1 r1 ty
 refine⟨T,id,pa,slot,hty,h1,h2,?_⟩
 have hA:=ha cpos pins s1 σ H1 _ I1 q1
 rw[hs]at hA ⊢
 refine Calls.callWith_builtin (by show(false || (backTo cpos (starEach es X.env)).any (·.1))=false;rw[hplain]<;>rfl) (Calls.evalArgs_plain ?_)
 exact thn hA fun us s2 ⟨vs,H2,I2,r2,q2⟩=>hm pins s2 σ H2 x vs v us Q I2 r1 r2 q2
end
end L2
namespace L2
open PySem PySem.Spec PyProof.Rows
noncomputable def MtM(X:Cx)(id:String)(r:V->List V->Hp->VK->Prop):Prop:=
 ∀ (pins:List (Addr×Obj)) (s:Shared) (σ:St) (H:Hp) (x:V) (xs:List V) (v:Value) (us:List Value) (Q:VK),Inv X pins σ H s->RelV x v->Vals xs us->r x xs H Q ->
  wpAny (model X.prog X.w) X.A (call (.builtin id) (v::us)) (EP X pins σ Q) X.xe s
theorem Vals.one:∀ {x:V} {us:List Value},Vals [x] us->∃ u,us=[u]/\RelV x u
 | _,_,.cons r .nil=>⟨_,rfl,r⟩
theorem Vals.two:∀ {x y:V} {us:List Value},Vals [x,y] us->∃ u v,us=[u,v]/\RelV x u/\RelV y v
 | _,_,_,.cons r (.cons q .nil)=>⟨_,_,rfl,r,q⟩
theorem Vals.zero:∀ {us:List Value},Vals [] us->us=[]
 | _,.nil=>rfl
theorem Vals.dropLast{xs:List V}{us:List Value}(h:Vals xs us):Vals xs.dropLast us.dropLast:=by
 induction h with
 | nil=>exact .nil
 | cons r t ih=>
  cases t with
  | nil=>exact .nil
  | cons q t'=>exact .cons r ih
theorem Vals.eraseIdx:∀ {xs:List V} {us:List Value} (i:Nat),Vals xs us->Vals (xs.eraseIdx i) (us.eraseIdx i)
 | _,_,_,.nil=>.nil
 | _,_,0,.cons _ t=>t
 | _,_,i + 1,.cons r t=>.cons r (Vals.eraseIdx i t)
theorem Vals.reverse{xs:List V}{us:List Value}(h:Vals xs us):Vals xs.reverse us.reverse:=by
 induction h with
 | nil=>exact .nil
 | cons r t ih=>rw[List.reverse_cons,List.reverse_cons];exact Vals.append ih (.cons r .nil)
theorem Vals.rep{xs:List V}{us:List Value}(h:Vals xs us):∀ k:Nat,Vals (List.replicate k xs).flatten (List.replicate k us).flatten
 | 0=>.nil
 | k + 1=>by
  rw[List.replicate_succ,List.replicate_succ,List.flatten_cons,List.flatten_cons]
  exact Vals.append h (Vals.rep h k)
theorem erase_last{α:Type}(l:List α):l.eraseIdx (l.length - 1)=l.dropLast:=by
 induction l with
 | nil=>rfl
 | cons a r ih=>
  cases r with
  | nil=>rfl
  | cons b r=>
   have e:(a::b::r).length - 1=((b::r).length - 1) + 1:=by
    have h1:(a::b::r).length=r.length + 2:=rfl
    have h2:(b::r).length=r.length + 1:=rfl
    omega
   rw[e,List.eraseIdx_cons_succ,ih]
   all_goals rfl
section
variable{X:Cx}{pins:List (Addr×Obj)}{σ:St}{H:Hp}{s:Shared}{l b:Addr}{xs ys zs:List V}
theorem Inv.lset{its its':List Value}{n:Nat}{f:Array Value->Array Value}{t':Nat}(I:Inv X pins σ H s)(hH:H l=some (.lst xs))
  (e:s.heap.get? l=some { cls:=.type "list",data:=.seq its.toArray n }) (hf:f its.toArray=its'.toArray) (hv:Vals ys its') (hz:ys.length<=sizeLine) :
  Inv X pins σ (upd H l (.lst ys)) { s with heap:=s.heap.update l (Obj.mapSeq f),toks:=t' }:=by
 have q:=PySem.IsL.update e f
 rw[hf]at q
 refine I.write (x:=l) (e:=l) (by rw[hH];exact trivial) (.inl rfl) (fun b' u hb hu=>(Heap.get?_update_other s.heap (Obj.mapSeq f) (Ne.symm hb)).trans hu) ⟨_,q⟩ ?_
 exact⟨hz,its',_,hv,q⟩
theorem Inv.lnew{its:List Value}{t':Nat}(I:Inv X pins σ H s)(hv:Vals ys its)(hz:ys.length<=sizeLine) :
  Inv X pins σ (upd H s.heap.objs.size (.lst ys)) { s with heap:=s.heap.push { cls:=.type "list",data:=.seq its.toArray },toks:=t' }:=
 I.laid (fun _ _ q=>Heap.get?_push_of_some _ q) (Nat.le_refl _) ⟨hz,its,0,hv,Heap.get?_push_size _ rfl⟩
theorem Inv.fresh(I:Inv X pins σ H s):H s.heap.objs.size=none:=I.hok.fresh (Nat.le_refl _)
theorem Inv.lstM(I:Inv X pins σ H s)(hH:H l=some (.lst xs)):xs.length<=sizeLine/\∃ (its:List Value) (n:Nat),Vals xs its/\xs.length=its.length/\s.heap.get? l=some { cls:=.type "list",data:=.seq its.toArray n }:=by
 obtain⟨z,its,n,r,e⟩:=I.hok l _ hH
 exact⟨z,its,n,r,r.length,e⟩
end
section
variable{X:Cx}
noncomputable def rAppend:V->List V->Hp->VK->Prop:=fun x vs H Q=>∃ l xs y,x=.ref l/\vs=[y]/\H l=some (.lst xs)/\xs.length < sizeLine/\Q .non (upd H l (.lst (xs++[y])))
theorem mt_append:MtM X "list.append" rAppend:=by
 intro pins s σ H x vs v us Q I rx rv h
 obtain⟨l,xs,y,rfl,rfl,hH,hz,q⟩:=h
 cases rx
 obtain⟨u,rfl,ru⟩:=rv.one
 obtain⟨z,its,n,r,hl,e⟩:=I.lstM hH
 refine call_meets F.slot_list_append ⟨_,e,rfl⟩ F.entry_list_append (F.args_list_append_2 _ _) (PySem.list_append l its.toArray n u (by rw[List.size_toArray];omega)) ⟨e,?_⟩
 refine⟨.non,_,I.lset (its':=its++[u]) hH e (by simp) (r.append (.cons ru .nil)) ?_,rfl,q⟩
 rw[List.length_append,List.length_singleton]
 omega
noncomputable def rPop:V->List V->Hp->VK->Prop:=fun x vs H Q=>∃ l xs y,x=.ref l/\vs=[]/\H l=some (.lst xs)/\xs[xs.length - 1]?=some y/\Q y (upd H l (.lst xs.dropLast))
theorem mt_pop:MtM X "list.pop" rPop:=by
 intro pins s σ H x vs v us Q I rx rv h
 obtain⟨l,xs,y,rfl,rfl,hH,hy,q⟩:=h
 cases rx
 have hus:=rv.zero
 subst hus
 obtain⟨z,its,n,r,hl,e⟩:=I.lstM hH
 obtain⟨u,hu,ru⟩:=r.get hy
 have hy':its.toArray[its.toArray.size - 1]?=some u:=by
  show its.toArray[its.length - 1]?=some u
  rw[← Array.getElem?_toList,← hl]
  exact hu
 refine call_meets F.slot_list_pop ⟨_,e,rfl⟩ F.entry_list_pop (F.args_list_pop_1 _) (MeetsSeq.list_pop_last l its.toArray n u hy' (by rw[List.size_toArray];omega)) ⟨e,?_⟩
 refine⟨y,_,I.lset (its':=its.dropLast) hH e ?_ r.dropLast ?_,ru,q⟩
 ·show its.toArray.eraseIdxIfInBounds (its.toArray.size - 1)=its.dropLast.toArray
  rw[List.size_toArray,List.eraseIdxIfInBounds_toArray,erase_last]
 ·rw[List.length_dropLast]
  omega
noncomputable def rReverse:V->List V->Hp->VK->Prop:=fun x vs H Q=>∃ l xs,x=.ref l/\vs=[]/\H l=some (.lst xs)/\Q .non (upd H l (.lst xs.reverse))
theorem mt_reverse:MtM X "list.reverse" rReverse:=by
 intro pins s σ H x vs v us Q I rx rv h
 obtain⟨l,xs,rfl,rfl,hH,q⟩:=h
 cases rx
 have hus:=rv.zero
 subst hus
 obtain⟨z,its,n,r,hl,e⟩:=I.lstM hH
 refine call_meets F.slot_list_reverse ⟨_,e,rfl⟩ F.entry_list_reverse (F.args_list_reverse_1 _) (AutoSeq1.list_reverse_list_0 l its.toArray n (by rw[List.size_toArray];omega)) ⟨e,?_⟩
 refine⟨.non,_,I.lset (its':=its.reverse) hH e (by simp) r.reverse ?_,rfl,q⟩
 rw[List.length_reverse]
 omega
end
section
variable{prog:Program}{w:World}{A:Around}{E:Value->Shared->Prop}{s:Shared}
end
section
variable{X:Cx}
end
end L2
namespace L2
open PySem PySem.Spec PyProof.Rows
section
variable{κ:Type}[DecidableEq κ]
noncomputable def valV(kvs:List (κ×V))(k:κ):Option V:=(kvs.find? fun kv=>decide (kv.1=k)).map (·.2)
noncomputable def putK(kvs:List (κ×V))(k:κ)(v:V):List (κ×V):=
 if (kvs.any fun kv=>decide (kv.1=k))=true then kvs.map (fun kv=>if kv.1=k then (kv.1,v) else kv) else kvs++[(k,v)]
noncomputable def dropK(kvs:List (κ×V))(k:κ):List (κ×V):=kvs.filter fun kv=>decide (kv.1≠k)
theorem valV_pos{p:κ×V}{r:List (κ×V)}{k:κ}(e:p.1=k):valV (p::r) k=some p.2:=by simp[valV,List.find?_cons,e]
theorem valV_neg{p:κ×V}{r:List (κ×V)}{k:κ}(e:¬ p.1=k):valV (p::r) k=valV r k:=by simp[valV,List.find?_cons,e]
theorem valV_any(k:κ):∀ kvs:List (κ×V),(kvs.any fun kv=>decide (kv.1=k))=(valV kvs k).isSome
 | []=>rfl
 | p::r=>by
  rw[List.any_cons]
  by_cases e:p.1=k
  ·simp only[valV_pos e,decide_eq_true e,Bool.true_or,Option.isSome_some]
  ·rw[valV_neg e,decide_eq_false e,Bool.false_or];exact valV_any k r
theorem length_putK(kvs:List (κ×V))(k:κ)(v:V):(putK kvs k v).length<=kvs.length + 1:=by
 unfold putK
 split
 ·rw[List.length_map];omega
 ·rw[List.length_append,List.length_cons,List.length_nil];omega
theorem RelO.isSome_eq{o:Option V}{u:Option Value}(r:RelO o u):o.isSome=u.isSome:=by
 cases o with
 | none=>cases u with
  | none=>rfl
  | some _=>exact(show False from r).elim
 | some _=>cases u with
  | none=>exact(show False from r).elim
  | some _=>rfl
theorem RelO.getD{o:Option V}{u:Option Value}{d:V}{d':Value}(r:RelO o u)(rd:RelV d d'):RelV (o.getD d) (u.getD d'):=by
 cases o with
 | none=>cases u with
  | none=>exact rd
  | some _=>exact(show False from r).elim
 | some _=>cases u with
  | none=>exact(show False from r).elim
  | some _=>exact r
theorem KV.val{kvs:List (κ×V)}{vs:List (κ×Value)}(r:KV kvs vs)(k:κ):RelO (valV kvs k) (valueAt vs k):=by
 unfold KV at r
 induction r with
 | nil=>exact True.intro
 | @cons p q ps qs h t ih=>
  obtain⟨h1,h2⟩:=h
  by_cases e:p.1=k
  ·have e':q.1=k:=h1.symm.trans e
   have b:valueAt (q::qs) k=some q.2:=by simp[valueAt,List.find?_cons,e']
   rw[valV_pos e,b];exact h2
  ·have e':¬ q.1=k:=fun z=>e (h1.trans z)
   have b:valueAt (q::qs) k=valueAt qs k:=by simp[valueAt,List.find?_cons,e']
   rw[valV_neg e,b];exact ih
theorem KV.any{kvs:List (κ×V)}{vs:List (κ×Value)}(r:KV kvs vs)(k:κ):(kvs.any fun kv=>decide (kv.1=k))=vs.any fun kv=>decide (kv.1=k):=by
 unfold KV at r
 induction r with
 | nil=>rfl
 | cons h t ih=>rw[List.any_cons,List.any_cons,ih,h.1]
theorem KV.repl{kvs:List (κ×V)}{vs:List (κ×Value)}(r:KV kvs vs)(k:κ){y:V}{u:Value}(ry:RelV y u) :
  KV (kvs.map fun kv=>if kv.1=k then (kv.1,y) else kv) (vs.map fun kv=>if kv.1=k then (kv.1,u) else kv):=by
 unfold KV at r ⊢
 induction r with
 | nil=>exact .nil
 | @cons p q ps qs h t ih=>
  rw[List.map_cons,List.map_cons]
  refine .cons ?_ ih
  obtain⟨h1,h2⟩:=h
  by_cases e:p.1=k
  ·rw[if_pos e,if_pos (h1.symm.trans e)];exact⟨h1,ry⟩
  ·rw[if_neg e,if_neg (fun z=>e (h1.trans z))];exact⟨h1,h2⟩
theorem KV.put{kvs:List (κ×V)}{vs:List (κ×Value)}(r:KV kvs vs)(k:κ){y:V}{u:Value}(ry:RelV y u):KV (putK kvs k y) (stored vs k u):=by
 unfold putK stored
 rw[r.any k]
 by_cases e:(vs.any fun kv=>decide (kv.1=k))=true
 ·rw[if_pos e,if_pos e];exact r.repl k ry
 ·rw[if_neg e,if_neg e];exact Paired.snoc r ⟨rfl,ry⟩
theorem KV.drop{kvs:List (κ×V)}{vs:List (κ×Value)}(r:KV kvs vs)(k:κ):KV (dropK kvs k) (without vs k):=by
 unfold KV at r ⊢
 unfold dropK without
 induction r with
 | nil=>exact .nil
 | @cons p q ps qs h t ih=>
  obtain⟨h1,h2⟩:=h
  rw[List.filter_cons,List.filter_cons]
  by_cases e:p.1=k
  ·have a:¬ decide (p.1≠k)=true:=by simp[e]
   have b:¬ decide (q.1≠k)=true:=by simp[h1.symm.trans e]
   rw[if_neg a,if_neg b];exact ih
  ·have e':¬ q.1=k:=fun z=>e (h1.trans z)
   have a:decide (p.1≠k)=true:=by simp[e]
   have b:decide (q.1≠k)=true:=by simp[e']
   rw[if_pos a,if_pos b];exact .cons ⟨h1,h2⟩ ih
theorem KV.length{kvs:List (κ×V)}{vs:List (κ×Value)}(r:KV kvs vs):kvs.length=vs.length:=Paired.length r
end
theorem kV_is{P:Program}{w:World}{k:Key}{u:Value}(r:RelV (kV k) u):(mixKind P w).is k u=true:=by
 cases k with
 | inl i=>obtain⟨t,e⟩:=(show ∃ t,u=Value.int i t from r);subst e;exact mixKind_int P w i t
 | inr x=>obtain⟨t,e⟩:=(show ∃ t,u=Value.str x t from r);subst e;exact mixKind_str P w x t
theorem items_are{P:Program}{w:World}:∀ {ks:List Key} {us:List Value},Vals (ks.map kV) us->ItemsAre (mixKind P w) ks us
 | [],_,r=>by rw[List.map_nil]at r;cases r;exact .nil
 | k::ks,_,r=>by
  rw[List.map_cons]at r
  cases r with
  | cons h t=>exact .cons (kV_is h) (items_are t)
noncomputable abbrev KT(H:Hp):List (List Key×V)->List (List Key×Addr×Value)->Prop:=Paired fun p q=>p.1=q.1/\H q.2.1=some (.tup (p.1.map kV))/\RelV p.2 q.2.2
theorem KT.val{H:Hp}{kvs:List (List Key×V)}{xs:List (List Key×Addr×Value)}(r:KT H kvs xs)(k:List Key):RelO (valV kvs k) ((atKey xs k).map (·.2)):=by
 induction r with
 | nil=>exact True.intro
 | @cons p q ps qs h t ih=>
  obtain⟨h1,_,h2⟩:=h
  by_cases e:p.1=k
  ·have e':q.1=k:=h1.symm.trans e
   have b:atKey (q::qs) k=some q.2:=by simp[atKey,List.find?_cons,e']
   rw[valV_pos e,b];exact h2
  ·have e':¬ q.1=k:=fun z=>e (h1.trans z)
   have b:atKey (q::qs) k=atKey qs k:=by simp[atKey,List.find?_cons,e']
   rw[valV_neg e,b];exact ih
theorem KT.repl{H:Hp}{kvs:List (List Key×V)}{xs:List (List Key×Addr×Value)}(r:KT H kvs xs)(k:List Key){y:V}{u:Value}(ry:RelV y u) :
  KT H (kvs.map fun kv=>if kv.1=k then (kv.1,y) else kv) (xs.map (putAt k u)):=by
 induction r with
 | nil=>exact .nil
 | @cons p q ps qs h t ih=>
  rw[List.map_cons,List.map_cons]
  refine .cons ?_ ih
  obtain⟨h1,h2,h3⟩:=h
  unfold putAt
  by_cases e:p.1=k
  ·rw[if_pos e,if_pos (h1.symm.trans e)];exact⟨h1,h2,ry⟩
  ·rw[if_neg e,if_neg (fun z=>e (h1.trans z))];exact⟨h1,h2,h3⟩
theorem KT.put{H:Hp}{kvs:List (List Key×V)}{xs:List (List Key×Addr×Value)}(r:KT H kvs xs)(k:List Key){b:Addr}{y:V}{u:Value}(hb:H b=some (.tup (k.map kV)))(ry:RelV y u) :
  KT H (putK kvs k y) (storedH xs k b u):=by
 have e:(kvs.any fun kv=>decide (kv.1=k))=(atKey xs k).isSome:=by
  rw[valV_any,(r.val k).isSome_eq,Option.isSome_map]
 unfold putK storedH
 rw[e]
 by_cases q:(atKey xs k).isSome=true
 ·rw[if_pos q,if_pos q];exact r.repl k ry
 ·rw[if_neg q,if_neg q];exact Paired.snoc r ⟨rfl,hb,ry⟩
theorem KT.keeps{H H':Hp}{kvs:List (List Key×V)}{xs:List (List Key×Addr×Value)}(r:KT H kvs xs)(ht:∀ b ys,H b=some (.tup ys)->H' b=some (.tup ys)):KT H' kvs xs:=
 Paired.mapP r fun _ _ z=>⟨z.1,ht _ _ z.2.1,z.2.2⟩
section
variable{P:Program}{w:World}{H:Hp}{h:Heap}{a:Addr}
theorem rd_of{u:HO}(ok:HOk P w H h)(e:Rd H a u):ObjOk P w H h a u:=e.ok ok
theorem dk_rd{kvs:List (Key×V)}(ok:HOk P w H h)(e:Rd H a (.dK kvs)):kvs.length<=sizeLine/\(a == sysModules)=false/\∃ vs,KV kvs vs/\h.DictOf (mixKind P w) a vs:=
 show ObjOk P w H h a (.dK kvs) from rd_of ok e
theorem dk_of{kvs:List (Key×V)}(ok:HOk P w H h)(e:H a=some (.dK kvs)):kvs.length<=sizeLine/\(a == sysModules)=false/\∃ vs,KV kvs vs/\h.DictOf (mixKind P w) a vs:=dk_rd ok (.inl e)
theorem key_of{ks:List Key}(ok:HOk P w H h)(e:H a=some (.tup (ks.map kV))):(tupleKind (mixKind P w)).is h ks a:=by
 obtain⟨_,its,r,o,h1,h2,n,h3⟩:=(show ObjOk P w H h a (.tup (ks.map kV)) from ok a _ e)
 exact⟨o,its.toArray,n,h1,h2,h3,by simpa using items_are r⟩
theorem dt_rd{kvs:List (List Key×V)}(ok:HOk P w H h)(e:Rd H a (.dT kvs)):kvs.length<=sizeLine/\(a == sysModules)=false /\
  ∃ xs,KT H kvs xs/\h.DictOfH (tupleKind (mixKind P w)) a xs:=by
 obtain⟨z,y,xs,r,o,es,ep,h1,h2,h3,h4,h5⟩:=(show ObjOk P w H h a (.dT kvs) from rd_of ok e)
 refine⟨z,y,xs,r,o,es,ep,h1,h2,h3,h4,fun x hx => ?_,h5⟩
 have all:∀ {l:List (List Key×V)} {m:List (List Key×Addr×Value)},KT H l m->∀ x∈m,(tupleKind (mixKind P w)).is h x.1 x.2.1:=by
  intro l m q
  induction q with
  | nil=>intro x hx;exact nomatch hx
  | @cons p q ps qs hq t ih=>
   intro x hx
   rcases List.mem_cons.mp hx with e | hx
   ·subst e
    exact key_of ok (by rw[← hq.1];exact hq.2.1)
   ·exact ih x hx
 exact all r x hx
theorem dt_of{kvs:List (List Key×V)}(ok:HOk P w H h)(e:H a=some (.dT kvs)):kvs.length<=sizeLine/\(a == sysModules)=false /\
  ∃ xs,KT H kvs xs/\h.DictOfH (tupleKind (mixKind P w)) a xs:=dt_rd ok (.inl e)
end
noncomputable def DGet(H:Hp)(a:Addr)(y:V)(r:Option V):Prop:=
 (∃ kvs k,Rd H a (.dK kvs)/\y=kV k/\r=valV kvs k)\/∃ kvs k b,Rd H a (.dT kvs)/\y=.ref b/\H b=some (.tup (k.map kV))/\r=valV kvs k
noncomputable def DPut(H:Hp)(a:Addr)(y v:V)(H':Hp):Prop:=
 (∃ kvs k,H a=some (.dK kvs)/\y=kV k/\kvs.length < sizeLine/\H'=upd H a (.dK (putK kvs k v))) \/
 ∃ kvs k b,H a=some (.dT kvs)/\y=.ref b/\H b=some (.tup (k.map kV))/\kvs.length < sizeLine/\H'=upd H a (.dT (putK kvs k v))
theorem DGet.k{H:Hp}{a:Addr}{kvs:List (Key×V)}{k:Key}(e:H a=some (.dK kvs)):DGet H a (kV k) (valV kvs k):=.inl ⟨kvs,k,.inl e,rfl,rfl⟩
theorem DGet.t{H:Hp}{a b:Addr}{kvs:List (List Key×V)}{k:List Key}(e:H a=some (.dT kvs))(eb:H b=some (.tup (k.map kV))):DGet H a (.ref b) (valV kvs k):=.inr ⟨kvs,k,b,.inl e,rfl,eb,rfl⟩
theorem DPut.k{H:Hp}{a:Addr}{kvs:List (Key×V)}{k:Key}{v:V}(e:H a=some (.dK kvs))(hl:kvs.length < sizeLine):DPut H a (kV k) v (upd H a (.dK (putK kvs k v))):=.inl ⟨kvs,k,e,rfl,hl,rfl⟩
theorem DPut.t{H:Hp}{a b:Addr}{kvs:List (List Key×V)}{k:List Key}{v:V}(e:H a=some (.dT kvs))(eb:H b=some (.tup (k.map kV)))(hl:kvs.length < sizeLine) :
  DPut H a (.ref b) v (upd H a (.dT (putK kvs k v))):=.inr ⟨kvs,k,b,e,rfl,eb,hl,rfl⟩
section
variable{X:Cx}{pins:List (Addr×Obj)}{σ:St}{H:Hp}{s:Shared}{a:Addr}{y v:V}{u r:Value}{o:Option V}{A:Around}{E:Value->Shared->Prop}
theorem Inv.big(I:Inv X pins σ H s):sysModules < s.heap.objs.size:=by
 have h:mainGlobals < s.heap.objs.size:=(I.mod.glob.keeps I.bk).lt
 exact Nat.lt_trans (by decide) h
theorem d_getItem{Q:Value->Shared->Prop}(hu:A.units + 1 < cLine)(I:Inv X pins σ H s)(g:DGet H a y (some v))(ry:RelV y u)(h:∀ w' s',Inv X pins σ H s'->RelV v w'->Q w' s') :
  wpAny (model X.prog X.w) A (getItem (.ref a) u) Q E s:=by
 rcases g with ⟨kvs,k,e,ey,l⟩ | ⟨kvs,k,b,e,ey,eb,l⟩
 ·subst ey
  obtain⟨z,hd,vs,rel,dd⟩:=dk_rd I.hok e
  obtain⟨w',hw,rw'⟩:=RelO.some_of (v:=v) (o:=valueAt vs k) (by rw[l];exact rel.val k)
  exact wpAny_getItem_of (kV_is ry) dd.mapOf hw (h w' _ (I.tok _) rw')
 ·subst ey
  cases (show u=Value.ref b from ry)
  obtain⟨z,hd,xs,rel,dd⟩:=dt_rd I.hok e
  obtain⟨w',hw,rw'⟩:=RelO.some_of (v:=v) (o:=(atKey xs k).map (·.2)) (by rw[l];exact rel.val k)
  obtain⟨p,hp,hp2⟩:=Option.map_eq_some_iff.mp hw
  refine wpAny_getItem_heap (tupleKind_room_in1 hu) (key_of I.hok eb) dd hp ?_
  rw[hp2]
  exact h w' _ (I.tok _) rw'
theorem d_in{Q:Value->Shared->Prop}(hu:A.units + 1 < cLine)(I:Inv X pins σ H s)(g:DGet H a y o)(ry:RelV y u)(h:∀ s',Inv X pins σ H s'->Q (.bool o.isSome) s') :
  wpAny (model X.prog X.w) A (compareOp .In u (.ref a)) Q E s:=by
 rcases g with ⟨kvs,k,e,ey,l⟩ | ⟨kvs,k,b,e,ey,eb,l⟩
 ·subst ey
  obtain⟨z,hd,vs,rel,dd⟩:=dk_rd I.hok e
  refine wpAny_in_of (kV_is ry) hd dd.mapOf ?_
  rw[← (rel.val k).isSome_eq,← l]
  exact h _ (I.tok _)
 ·subst ey
  cases (show u=Value.ref b from ry)
  obtain⟨z,hd,xs,rel,dd⟩:=dt_rd I.hok e
  refine wpAny_in_heap (tupleKind_room_in1 hu) (key_of I.hok eb) hd dd ?_
  have q:=(rel.val k).isSome_eq
  rw[Option.isSome_map]at q
  rw[← q,← l]
  exact h _ (I.tok _)
theorem d_notIn{Q:Value->Shared->Prop}(hu:A.units + 1 < cLine)(I:Inv X pins σ H s)(g:DGet H a y o)(ry:RelV y u)(h:∀ s',Inv X pins σ H s'->Q (.bool (!o.isSome)) s') :
  wpAny (model X.prog X.w) A (compareOp .NotIn u (.ref a)) Q E s:=by
 rcases g with ⟨kvs,k,e,ey,l⟩ | ⟨kvs,k,b,e,ey,eb,l⟩
 ·subst ey
  obtain⟨z,hd,vs,rel,dd⟩:=dk_rd I.hok e
  refine wpAny_notIn_of (kV_is ry) hd dd.mapOf ?_
  rw[← (rel.val k).isSome_eq,← l]
  exact h _ (I.tok _)
 ·subst ey
  cases (show u=Value.ref b from ry)
  obtain⟨z,hd,xs,rel,dd⟩:=dt_rd I.hok e
  refine wpAny_notIn_heap (tupleKind_room_in1 hu) (key_of I.hok eb) hd dd ?_
  have q:=(rel.val k).isSome_eq
  rw[Option.isSome_map]at q
  rw[← q,← l]
  exact h _ (I.tok _)
theorem d_write{h':Heap}{t':Nat}{ob:HO}(I:Inv X pins σ H s)(mu:Mut (H a))(hs:Heap.SameBut a s.heap h')(he:∃ q,h'.get? a=some q)(new:ObjOk X.prog X.w (upd H a ob) h' a ob) :
  Inv X pins σ (upd H a ob) { s with heap:=h',toks:=t' }:=
 I.write (x:=a) (e:=a) mu (.inl rfl) (fun b q hb z=>(hs.2 b hb).trans z) he new
theorem dk_new{P:Program}{w:World}{H':Hp}{h':Heap}{kvs:List (Key×V)}{vs:List (Key×Value)}(z:kvs.length<=sizeLine)(hd:(a == sysModules)=false)(rel:KV kvs vs)(dd:h'.DictOf (mixKind P w) a vs) :
  ObjOk P w H' h' a (.dK kvs):=⟨z,hd,vs,rel,dd⟩
theorem d_setItem{H':Hp}{Q:Unit->Shared->Prop}(hu:A.units + 1 < cLine)(I:Inv X pins σ H s)(g:DPut H a y v H')(ry:RelV y u)(rv:RelV v r)(h:∀ s',Inv X pins σ H' s'->Q () s') :
  wpAny (model X.prog X.w) A (setItem (.ref a) u r) Q E s:=by
 rcases g with ⟨kvs,k,e,ey,l,eH⟩ | ⟨kvs,k,b,e,ey,eb,l,eH⟩
 ·subst ey eH
  obtain⟨z,hd,vs,rel,dd⟩:=dk_of I.hok e
  have hz:vs.length<=sizeLine:=by rw[← rel.length];exact z
  have hl:(putK kvs k v).length<=sizeLine:=by have:=length_putK kvs k v;omega
  refine wpAny_setItem_pairs (hsz:=hz) (kV_is ry) dd fun h' dd' hs=>h _ ?_
  have he:∃ q,h'.get? a=some q:=let ⟨q,_,_,hq,_⟩:=dd';⟨q,hq⟩
  exact d_write I (by rw[e];exact True.intro) hs he (dk_new hl hd (rel.put k rv) dd')
 ·subst ey eH
  cases (show u=Value.ref b from ry)
  obtain⟨z,hd,xs,rel,dd⟩:=dt_of I.hok e
  have hz:xs.length<=sizeLine:=by rw[← Paired.length rel];exact z
  have hl:(putK kvs k v).length<=sizeLine:=by have:=length_putK kvs k v;omega
  refine wpAny_setItem_heap (hsz:=hz) (tupleKind_room_in1 hu) (key_of I.hok eb) dd fun h' dd' hs=>h _ ?_
  obtain⟨q,es,ep,hq,h2,h3,h4,_,h5⟩:=dd'
  refine d_write I (by rw[e];exact True.intro) hs ⟨q,hq⟩ ⟨hl,hd,_,(rel.put k eb rv).keeps fun c ys ec => ?_,q,es,ep,hq,h2,h3,h4,h5⟩
  rw[upd_ne (ne_of ec e (fun z=>nomatch z))]
  exact ec
end
section
variable{X:Cx}{pins:List (Addr×Obj)}{σ:St}{H:Hp}{s:Shared}{a:Addr}{kvs:List (Key×V)}{k:Key}{u:Value}{A:Around}{E:Value->Shared->Prop}
theorem d_len{Q:Value->Shared->Prop}(I:Inv X pins σ H s)(e:Rd H a (.dK kvs))(h:∀ t s',Inv X pins σ H s'->Q (.int kvs.length t) s'):wpAny (model X.prog X.w) A (call (.builtin "len") [.ref a]) Q E s:=by
 obtain⟨z,hd,vs,rel,dd⟩:=dk_rd I.hok e
 refine call_len_dict hd dd (by rw[← rel.length];rw[sizeLine_eq]at z;omega) ?_
 rw[← rel.length]
 exact h _ _ (I.tok _)
end
noncomputable def NoSl(i:Expr):Prop:=∀ ov iv,subscripted i false ov iv=operate [ov,iv] (getItem ov iv)
theorem subD_of{prog:Program}{w:World}{A:Around}{E:Value->Shared->Prop}{s:Shared}{env:Env}{value slice:Expr}{pos:Pos}{T id:String}{Q:Value->Shared->Prop}
  (hl:typeLookup (.type T) "__getitem__"=pure (some (.builtin id))) (hs:NoSl slice)
  (h:wpAny (model prog w) A (eval value env) (fun o s₁=>wpAny (model prog w) A (eval slice env) (fun i s₂=>s₂.TypeIs o T/\wpAny (model prog w) A (getItem o i) Q E s₂) E s₁) E s) :
  wpAny (model prog w) A (eval (.Subscript value slice pos) env) Q E s:=by
 refine Subscript_ (wpAny_mono h (fun o s₁ h₁=>wpAny_mono h₁ (fun i s₂ h₂ => ?_) fun _ _ x=>x) fun _ _ x=>x)
 obtain⟨hT,h₂⟩:=h₂
 unfold subscriptTail
 refine wpAny_bind ?_
 rw[getitemInPython_of_ne hT.not_modules]
 refine wpAny_bind (wpAny_specialOf hT hl ?_)
 have fin:wpAny (model prog w) A (subscripted slice false o i) (fun r s₃=>wpAny (model prog w) A (letTemporaryGo value o r >>= fun _=>pure r) Q E s₃) E s₂:=by
  rw[hs o i]
  exact wpAny_operating (wpAny_mono h₂ (fun r s₃ h₃=>wpAny_bind (wpAny_letTemporaryGo (wpAny_pure h₃))) fun _ _ x=>x)
 first
  | exact wpAny_pure (wpAny_bind fin)
  | exact wpAny_bind (wpAny_pure (wpAny_bind fin))
  | exact wpAny_bind fin
theorem dict_typeIs{X:Cx}{pins:List (Addr×Obj)}{σ:St}{H:Hp}{s:Shared}{a:Addr}{y:V}{o:Option V}(I:Inv X pins σ H s)(g:DGet H a y o):s.TypeIs (.ref a) "dict":=by
 rcases g with ⟨kvs,k,e,_,_⟩ | ⟨kvs,k,b,e,_,_,_⟩
 ·obtain⟨_,_,vs,_,dd⟩:=dk_rd I.hok e
  exact dd.typeIs
 ·obtain⟨_,_,xs,_,dd⟩:=dt_rd I.hok e
  exact dd.typeIs
noncomputable def tDGet(td ty:TE):TE:=fun σ H Q=>td σ H fun x H1=>ty σ H1 fun y H2=>∃ a v,x=.ref a/\DGet H2 a y (some v)/\Q v H2
section
variable{X:Cx}{o i e value:Expr}{pos pos' tpos:Pos}{td ty tv:TE}
theorem pe_dget(hu:X.A.units + 1 < cLine)(ho:PE X o td)(hi:PE X i ty)(hs:NoSl i):PE X (.Subscript o i pos) (tDGet td ty):=by
 intro pins s σ H Q I h
 refine subD_of PySem.F.slot_dict_getitem.lookup hs (thn (ho pins s σ H _ I h) fun u s1 ⟨x,H1,I1,rx,q1⟩=>thn (hi pins s1 σ H1 _ I1 q1) fun iv s2 ⟨y,H2,I2,ry,a,v,ex,g,q2⟩ => ?_)
 subst ex
 obtain rfl:u=Value.ref a:=rx
 exact⟨dict_typeIs I2 g,d_getItem hu I2 g ry fun w' s3 I3 rw'=>⟨v,H2,I3,rw',q2⟩⟩
end
theorem dk_empty{P:Program}{w:World}{H:Hp}(h:Heap)(hb:sysModules < h.objs.size):ObjOk P w H (h.push { cls:=.type "dict",data:=.dict #[] }) h.objs.size (.dK []):=
 ⟨Nat.zero_le _,beq_eq_false_iff_ne.mpr (Ne.symm (Nat.ne_of_lt hb)),[],.nil,Heap.DictOf.new h⟩
theorem dt_empty{P:Program}{w:World}{H:Hp}(h:Heap)(hb:sysModules < h.objs.size):ObjOk P w H (h.push { cls:=.type "dict",data:=.dict #[] }) h.objs.size (.dT []):=
 ⟨Nat.zero_le _,beq_eq_false_iff_ne.mpr (Ne.symm (Nat.ne_of_lt hb)),[],.nil,_,#[],0,Heap.get?_push_size _ rfl,⟨rfl,rfl,rfl⟩,rfl,rfl,List.nodup_nil⟩
noncomputable def tDNewK:TE:=fun _ H Q=>∀ p,H p=none->Q (.ref p) (upd H p (.dK []))
noncomputable def tDNewT:TE:=fun _ H Q=>∀ p,H p=none->Q (.ref p) (upd H p (.dT []))
section
variable{X:Cx}{pos:Pos}
theorem pe_dnewK:PE X (.Dict [] [] pos) tDNewK:=fun pins s σ H Q I h=>
 wpAny_Dict_empty ⟨.ref s.heap.objs.size,_,I.laid (a:=s.heap.objs.size) (o:=.dK []) (t':=s.toks) (fun _ _ q=>Heap.get?_push_of_some _ q) (Nat.le_refl _) (dk_empty s.heap I.big),rfl,h _ (I.hok.fresh (Nat.le_refl _))⟩
theorem pe_dnewT:PE X (.Dict [] [] pos) tDNewT:=fun pins s σ H Q I h=>
 wpAny_Dict_empty ⟨.ref s.heap.objs.size,_,I.laid (a:=s.heap.objs.size) (o:=.dT []) (t':=s.toks) (fun _ _ q=>Heap.get?_push_of_some _ q) (Nat.le_refl _) (dt_empty s.heap I.big),rfl,h _ (I.hok.fresh (Nat.le_refl _))⟩
end
section
variable{X:Cx}{pins:List (Addr×Obj)}{σ:St}{H:Hp}{s:Shared}{a:Addr}{y d:V}{u r:Value}{o:Option V}{A:Around}{E:Value->Shared->Prop}
end
section
variable{X:Cx}{o e f:Expr}{apos cpos:Pos}{td ty tx:TE}
end
section
variable{X:Cx}{pins:List (Addr×Obj)}{σ:St}{H:Hp}{s:Shared}{a:Addr}{kvs:List (Key×V)}{A:Around}{E:Value->Shared->Prop}
end
section
variable{X:Cx}{pins:List (Addr×Obj)}{σ:St}{H:Hp}{s:Shared}{a:Addr}{y:V}{u:Value}{A:Around}{E:Value->Shared->Prop}
end
end L2
namespace Att
open PySem PySem.W PySem.Calls PyProof.Rows
theorem ints_of_wellAll{P:Params}{h:Heap}:∀ (ns:List Int) (vs:List Value),WellAll P h vs (ns.map WData.int)->IntsAre vs ns:=by
 intro ns
 induction ns with
 | nil=>
  intro vs w
  rw[List.map_nil]at w
  cases w
  exact .nil
 | cons n ns ih=>
  intro vs w
  rw[List.map_cons]at w
  cases w with
  | cons a b=>
   cases a
   exact .cons _ _ (ih _ b)
theorem script_of{l:OpenLaw}{n:Nat}(hn:l.most=some n){P:Params}{h:Heap}{args:List WData}{vals:List Value}
  (hpre:l.row.toRowW.claim.pre args=true) (hwl:WellAll P h vals args) :
  ∃ a vs ns,vals=[Value.ref a]/\args=[WData.list (ns.map WData.int)]/\h.get? a=some { cls:=.type "list",data:=.seq vs.toArray }/\IntsAre vs ns/\ns.length<=n:=by
 have hsh:WShape.hasAll [] args [.list .int]=true:=(pre_splitW hpre).1
 have hc:l.pre.holds [] { args:=args }=true:=(pre_splitW hpre).2
 obtain⟨d,r,rfl,h1,h2⟩:=hasAllW_cons hsh
 obtain rfl:=hasAllW_nil h2
 obtain⟨xs,rfl,h3⟩:=hasW_list h1
 obtain⟨ns,rfl⟩:=items_int h3
 have hlen:ns.length<=n:=by
  unfold OpenLaw.pre at hc
  have h4:(WTm.not (.lt (.lit (.int (n:Int))) (.len (.arg 0)))).holds [] { args:=[.list (ns.map .int)] }=true:=by
   have h4:=(holds_andW hc).1
   rw[hn]at h4
   exact h4
  have h5:=condW_of h4 (w_not (w_lt w_lit (w_len_list (w_arg rfl))))
  rw[List.length_map]at h5
  refine Nat.le_of_not_lt fun q => ?_
  have q':(n:Int) < ((ns.length:Nat):Int):=by omega
  first
   | (rw[decide_eq_true q']at h5;exact absurd h5 (by decide))
   | (simp at h5;omega)
 cases hwl with
 | cons w1 w2=>
  cases w2
  cases w1 with
  | list ho hall=>exact⟨_,_,ns,rfl,rfl,ho,ints_of_wellAll ns _ hall,hlen⟩
theorem post_true(l:OpenLaw)(args:List WData):l.row.toRowW.claim.post args (.bool true) args=true:=
 postW_of (r:=l.row.toRowW) (X:=(true == true))
  (show WShape.has [] (.bool true) .bool=true by first | rfl | decide | simp[WShape.has,WShape.arms,WShape.armsAll])
  (show(WTm.eq .res (.lit (.bool true))).value [] { args:=args,res:=some (.bool true),after:=args }=some (.bool (true == true)) from w_eq_bool (w_res rfl) w_lit) rfl
theorem attach{l:OpenLaw}{n:Nat}{q:Program}{loose:List Str}{XP:(Str->Option Value)->Heap->Prop}{YP:World->Heap->Prop}{d:DefRec}{x:Str}
  (hn:l.most=some n) (hdf:d.params.defaults=[])
  (hbind:∀ pm cd doc v:Value,bindArgs (docDef d.name d.params d.body d.scope pm cd doc) ⟨[v],[]⟩=pure [(x,v)])
  (hx:d.scope.names.lookup x=some .local\/d.scope.names.lookup x=some .cell)
  (hk:d.scope.kind=.function) (hco:d.scope.isCoroutine=false) (hgen:d.scope.isGenerator=false)
  (body:∀ (w:World) (s₀ s₁ s:Shared) (mg mb:Str->Option Value) (fa:Addr) (o:Obj) (pm cd doc:Value) (a:Addr) (vs:List Value) (ns:List Int),
   Ground q loose [] XP w s₀ mg mb s₁.heap->YP w s₁.heap ->
   s₁.heap.get? fa=some o->o.data=.func (docDef d.name d.params d.body d.scope pm cd doc)->s₁.heap.CodeRec cd d.name->mg d.name=some (.ref fa) ->
   s₁.heap.get? a=some { cls:=.type "list",data:=.seq vs.toArray }->IntsAre vs ns->ns.length<=n ->
   s.gens = #[]->s.os=s₁.os ->
   Fr s₁.heap s₁.heap.objs.size s.heap (bindL (envOfC d.name d.scope s₁.heap.objs.size fa cd).kindOf [(x,.ref a)] fun _=>none) ->
   Cl s₁.heap.objs.size (cellsFrom (s₁.heap.objs.size + 1) d.scope.names []) s.heap (bindC (envOfC d.name d.scope s₁.heap.objs.size fa cd).kindOf [(x,.ref a)] fun _=>none) ->
   wpAny (model l.prog w) (callerA.deeper (envOfC d.name d.scope s₁.heap.objs.size fa cd)) (execs d.body (envOfC d.name d.scope s₁.heap.objs.size fa cd))
    (fun f s'=>f=.ret (.bool true)/\OldK s₁.heap s'.heap/\s'.os=s₁.os/\AllBare s'.gens) (fun _ _=>False) s) :
  WalkO q loose XP YP l.row.toRowW d [] (fun f vs=>PySem.call f vs):=by
 intro w s₀ s₁ mg mb G Y fa o pm cd doc dV kV ho hd hcd hD hmg hg args vals as hpre hlay hrd hwl hlo
 obtain rfl:dV=.none:=Dflts.none hD hdf
 obtain rfl:kV=.none:=Dflts.noKw hD
 obtain⟨a,vs,ns,rfl,rfl,hobj,hints,hlen⟩:=script_of hn hpre hwl
 refine enter_call ?_
 refine call_cells_ret (o:=o) (by rw[depth_caller];decide) ho (fd_plain hd) G.T.nolimit hcd (hbind pm cd doc (.ref a)) (fun y hy => ?_) (fun h₁ tk F X => ?_) hco hgen hk
 ·obtain rfl:y=(x,Value.ref a):=List.mem_singleton.mp hy
  rcases hx with e | e
  ·exact .inl e
  ·exact .inr ⟨e,cellsFrom_some _ _ _ (.inl e)⟩
 ·refine wpAny_mono (body w s₀ s₁ { s₁ with heap:=h₁,toks:=tk } mg mb fa o pm cd doc a vs ns G Y ho (fd_plain hd) hcd hmg hobj hints hlen hg rfl F X) (fun f s' hq => ?_) (fun _ _ hq=>hq)
  obtain⟨rfl,h2,h3,h4⟩:=hq
  exact⟨.inl ⟨.bool true,.bool true,[],rfl,fun _=>rfl,.bool true,post_true l _,fun _=>⟨List.Pairwise.nil,fun _ hm=>(nomatch hm)⟩⟩,h2,h3,h4⟩
theorem attach_call{l:OpenLaw}{n:Nat}{q:Program}{loose:List Str}{XP:(Str->Option Value)->Heap->Prop}{YP:World->Heap->Prop}{d:DefRec}
  (hn:l.most=some n) (hdf:d.params.defaults=[])
  (call:∀ (w:World) (s₀ s₁:Shared) (mg mb:Str->Option Value) (fa:Addr) (o:Obj) (pm cd doc:Value) (a:Addr) (vs:List Value) (ns:List Int),
   Ground q loose [] XP w s₀ mg mb s₁.heap->YP w s₁.heap ->
   s₁.heap.get? fa=some o->o.data=.func (docDef d.name d.params d.body d.scope pm cd doc)->s₁.heap.CodeRec cd d.name->mg d.name=some (.ref fa) ->
   s₁.heap.get? a=some { cls:=.type "list",data:=.seq vs.toArray }->IntsAre vs ns->ns.length<=n->s₁.gens = #[] ->
   codeAny (model l.prog w) callerA (.call (.ref fa) ⟨[.ref a],[]⟩) (fun r s'=>r=.ok (.ret (.bool true))/\OldK s₁.heap s'.heap/\s'.os=s₁.os/\AllBare s'.gens) s₁) :
  WalkO q loose XP YP l.row.toRowW d [] (fun f vs=>PySem.call f vs):=by
 intro w s₀ s₁ mg mb G Y fa o pm cd doc dV kV ho hd hcd hD hmg hg args vals as hpre hlay hrd hwl hlo
 obtain rfl:dV=.none:=Dflts.none hD hdf
 obtain rfl:kV=.none:=Dflts.noKw hD
 obtain⟨a,vs,ns,rfl,rfl,hobj,hints,hlen⟩:=script_of hn hpre hwl
 refine enter_call (codeAny_mono (call w s₀ s₁ mg mb fa o pm cd doc a vs ns G Y ho (fd_plain hd) hcd hmg hobj hints hlen hg) fun r s' hq => ?_)
 obtain⟨rfl,h2,h3,h4⟩:=hq
 exact⟨.inl ⟨.bool true,.bool true,[],rfl,fun _=>rfl,.bool true,post_true l _,fun _=>⟨List.Pairwise.nil,fun _ hm=>(nomatch hm)⟩⟩,h2,h3,h4⟩
section
variable{prog:Program}{w:World}{A:Around}{E:Value->Shared->Prop}{s:Shared}{K:Frag}
end
end Att
namespace L2
open PySem PySem.Spec PyProof.Rows
theorem vals_ints:∀ {vs:List Value} {ns:List Int},IntsAre vs ns->Vals (ns.map V.int) vs
 | _,_,.nil=>.nil
 | _,_,.cons n t h=>.cons ⟨t,rfl⟩ (vals_ints h)
end L2
namespace L2
open PySem PySem.Spec PyProof.Rows
end L2
namespace L2
open PySem PySem.Spec PyProof.Rows
noncomputable def inClass(s:Stmt)(j:Nat):Stmt:=match s with
 | .ClassDef _ _ _ body _ _ _ _ _ _ _=>body.getD j (.Pass ⟨0,0,0,0⟩)
 | _=>.Pass ⟨0,0,0,0⟩
noncomputable def defArgs(s:Stmt):Arguments:=match s with
 | .FunctionDef _ a _ _ _ _ _ _ _ _=>a
 | _=>{ posonlyargs:=[],args:=[],vararg:=none,kwonlyargs:=[],kw_defaults:=[],kwarg:=none,defaults:=[] }
noncomputable def defBody(s:Stmt):List Stmt:=match s with
 | .FunctionDef _ _ b _ _ _ _ _ _ _=>b
 | _=>[]
noncomputable def defScope(s:Stmt):Scope:=match s with
 | .FunctionDef _ _ _ _ _ _ sc _ _ _=>sc
 | _=>{ kind:=.function,names:=[],isGenerator:=false,isCoroutine:=false }
noncomputable abbrev CX0:CXT:=fun _ _ _ _ _ _=>False
noncomputable abbrev E0:XK:=fun _ _ _=>False
theorem pass0{X:Cx}:Passes CX0 X E0:=fun _ _ _ _ _ _ _ h=>h.elim
structure Fun(K:PySem.W.Frag)(x qual:Str)(st:Stmt)(f:Addr)(fd:FuncData):Prop where
 ex:∃ (oc:Value) (od:Option Addr) (kV doc pm:Value) (an:Option Addr) (cdv ct:Value) (osl:Array (Option Value)),
  fd=PySem.W.fnOf x qual (defArgs st) (defBody st) (defScope st) .none kV doc pm an cdv ct/\K.lookup f=some ⟨oc,od,.func fd,osl⟩/\PySem.W.codeIn K cdv qual=true
 kp:PySem.W.keepIn K (.ref f)=true
section
variable{P:Program}{w:World}{K:PySem.W.Frag}{mg:Str->Option Value}{base:Heap}
theorem Fun.ok{x qual:Str}{st:Stmt}{f:Addr}{fd:FuncData}{N ps:List Str}{k:Nat}{sp:Sp}(F:Fun K x qual st f fd)(S:FnScope N ps (defScope st))(len:∀ vs H Q E,sp vs H Q E->vs.length=ps.length)
  (hbody:∀ (cdv:Value) (A:Around) (outer:List Env) (s:Shared) (H:Hp) (vs:List V) (Q:VK) (E:XK),Room k (A.deeper (envOfC qual (defScope st) s.heap.objs.size f cdv))->sp vs H Q E ->
   ∃ t,PSs (cxOf CX0 P w K mg base N qual (defScope st) f cdv A outer s H E).nox (defBody st) t/\t { nx:=fun _ H'=>Q .non H',rt:=Q } (start N vs) H):FnOk P w K mg base CX0 (k + 1) f fd ps sp:=by
 obtain⟨oc,od,kV,doc,pm,an,cdv,ct,osl,rfl,lk,hcd⟩:=F.ex
 refine fn_of lk hcd S len fun A outer s H vs Q E hr hsp => ?_
 obtain⟨t,h,q⟩:=hbody cdv A outer s H vs Q E hr hsp
 exact⟨t,h.nox,q⟩
theorem Fun.binds{x qual:Str}{st:Stmt}{f:Addr}{fd:FuncData}{ps:List Str}(F:Fun K x qual st f fd)
  (h:∀ (kV doc pm:Value) (an:Option Addr) (cdv ct:Value) (us:List Value),us.length=ps.length->bindArgs (PySem.W.fnOf x qual (defArgs st) (defBody st) (defScope st) .none kV doc pm an cdv ct) ⟨us,[]⟩=pure (ps.zip us)):Binds K fd ps []:=by
 obtain⟨oc,od,kV,doc,pm,an,cdv,ct,osl,rfl,lk,hcd⟩:=F.ex
 exact .all (h kV doc pm an cdv ct)
theorem fun_mk{x qual:Str}{st:Stmt}{f:Addr}{oc:Value}{od an:Option Addr}{osl:Array (Option Value)}{kV doc pm cdv ct:Value}(l:K.lookup f=some ⟨oc,od,.func (PySem.W.fnOf x qual (defArgs st) (defBody st) (defScope st) .none kV doc pm an cdv ct),osl⟩)
  (c:PySem.W.codeIn K cdv qual=true) (k:PySem.W.keepIn K (.ref f)=true):Fun K x qual st f (PySem.W.fnOf x qual (defArgs st) (defBody st) (defScope st) .none kV doc pm an cdv ct):=⟨⟨oc,od,kV,doc,pm,an,cdv,ct,osl,rfl,l,c⟩,k⟩
end
section
variable{X:Cx}
theorem call_lenD:CallR X (.builtin "len") (fun xs H Q=>∃ a kvs,xs=[V.ref a]/\H a=some (.dK kvs)/\Q (.int kvs.length) H):=by
 intro pins s σ H xs us Q I r h
 obtain⟨a,kvs,rfl,ha,q⟩:=h
 obtain⟨u,rfl,ru⟩:=vals1 r
 cases ru
 exact d_len I (.inl ha) fun t s' I'=>⟨.int kvs.length,H,I',⟨t,rfl⟩,q⟩
end
theorem iteF{A B:Prop}(h:B):if false=true then A else B:=by
 rw[if_neg Bool.false_ne_true]
 exact h
theorem iteT{A B:Prop}(h:A):if true=true then A else B:=by
 rw[if_pos rfl]
 exact h
noncomputable def Same(H H':Hp):Prop:=∀ b o,H b=some o->H' b=some o
theorem Same.refl(H:Hp):Same H H:=fun _ _ h=>h
theorem Same.trans{H H1 H2:Hp}(a:Same H H1)(b:Same H1 H2):Same H H2:=fun c o h=>b c o (a c o h)
theorem Same.free{H H':Hp}(e:Same H H'){l:Addr}(h:H' l=Option.none):H l=Option.none:=by
 cases q:H l with
 | none=>rfl
 | some o=>
  rw[e l o q]at h
  cases h
theorem Same.seq{K:PySem.W.Frag}{H H':Hp}{a:Addr}{xs:List V}(e:Same H H')(h:SqL K H a xs):SqL K H' a xs:=by
 rcases h with (h | ⟨o,h⟩) | h
 ·exact .inl (.inl (e _ _ h))
 ·exact .inl (.inr ⟨o,e _ _ h⟩)
 ·exact .inr h
section
variable{κ:Type}[DecidableEq κ]
end
end L2
namespace L2
open PySem PySem.Spec PyProof.Rows PySem.W
noncomputable def CallV(X:Cx)(f:Addr)(vs:List V)(σ:St)(H:Hp)(Q:VK):Prop:=∀ (pins:List (Addr×Obj)) (s:Shared) (us:List Value),Inv X pins σ H s->Vals vs us->wpAny (model X.prog X.w) X.A (call (.ref f) us) (EP X pins σ Q) X.xe s
noncomputable def FnFrz(H:Hp)(f:Addr):Prop:=∃ oc od fd sl u,H f=some (.frz ⟨oc,od,.func fd,sl⟩ u)
noncomputable def tCallV(X:Cx)(i:Nat)(t:TA):TE:=fun σ H Q=>∃ f,σ[i]?=some (some (.ref f))/\FnFrz H f/\t σ H fun vs H1=>FnFrz H1 f/\CallV X f vs σ H1 Q
theorem Inv.fnAt{X:Cx}{pins:List (Addr×Obj)}{σ:St}{H:Hp}{s:Shared}{f:Addr}(I:Inv X pins σ H s)(h:FnFrz H f):FnAt f s.heap:=by
 obtain⟨oc,od,fd,sl,u,e⟩:=h
 exact⟨oc,od,fd,sl,(I.hok f _ e).1⟩
theorem pe_callV{X:Cx}{i:Nat}{x:Str}{p pos:Pos}{e:Expr}{es:List Expr}{t:TA}(hN:X.N[i]?=some x)(hv:Vis X.env.scope x)(hd:(x == ("__debug__":Str))=false)(hcd:(x == ("__classdict__":Str))=false)
  (ha:PA X (e::es) t) (he:starEach (e::es) X.env=(false,eval e X.env)::starEach es X.env) (hpl:(backTo pos (starEach es X.env)).any (·.1)=false):PE X (.Call (.Name x p) (e::es) [] pos) (tCallV X i t):=by
 intro pins s σ H Q I h
 obtain⟨f,hσ,hf,h⟩:=h
 refine wpAny_Call_Name_kw (thn (pe_var hN hv hd hcd pins s σ H (fun v H'=>v=.ref f/\H'=H) I ⟨_,hσ,rfl,rfl⟩) fun fv s1 ⟨v,H1,I1,r,e1,e2⟩ => ?_)
 subst e1 e2
 obtain rfl:fv=Value.ref f:=r
 exact callWith_F (I1.fnAt hf) (thn (ha pos pins s1 σ H1 _ I1 h) fun us s2 ⟨vs,H2,I2,r2,q1,q2⟩=>⟨I2.fnAt q1,q2 pins s2 us I2 r2⟩) he hpl
structure CloScope(ps cn:List Str)(sc:Scope):Prop where
 kind:sc.kind=.function
 co:sc.isCoroutine=false
 gen:sc.isGenerator=false
 nd:(ps++cn).Nodup
 par:∀ x∈ps,sc.names.lookup x=some .local
 cap:∀ x∈cn,sc.names.lookup x=some .free
 all:∀ y∈sc.names,y.2=.free->y.1∈cn
 cell:∀ y∈sc.names,y.2≠.cell
noncomputable def cxClo(CX:CXT)(P:Program)(w:World)(K:PySem.W.Frag)(mg:Str->Option Value)(base:Heap)(N:List Str)(qual:Str)(scope:Scope)(f:Addr)(cd:Value)(cl:List (Str×Addr))(A:Around)(outer:List Env)(s:Shared)(H:Hp)(E:XK):Cx where
 prog:=P
 w:=w
 K:=K
 mg:=mg
 base:=base
 A:=A.deeper (envX qual scope s.heap.objs.size f cd cl)
 N:=N
 s₀:=s
 H₀:=H
 env:=envX qual scope s.heap.objs.size f cd cl
 outer:=outer
 stack:=envX qual scope s.heap.objs.size f cd cl::outer
 ex:=[]
 calm:=true
 fn:=fun _=>false
 pn:=[]
 xe:=fun e s'=>wpAny (model P w) (A.deeper (envX qual scope s.heap.objs.size f cd cl)) (leaving (envX qual scope s.heap.objs.size f cd cl) e) (fun _ s''=>CX outer H s E e s'') (fun e' s''=>CX outer H s E e' s'') s'
structure CapOk(H:Hp)(cl:List (Str×Addr))(cn:List Str)(cv:List V):Prop where
 len:cn.length=cv.length
 get:∀ (j:Nat) (x:Str) (v:V),cn[j]?=some x->cv[j]?=some v->∃ c o u val,cl.lookup x=some c/\H c=some (.frz o u)/\o.data=.cell (some val)/\RelV v val
 only:∀ x c,cl.lookup x=some c->x∈cn
 inj:∀ x y c,cl.lookup x=some c->cl.lookup y=some c->x=y
theorem CapOk.at'{H:Hp}{cl:List (Str×Addr)}{cn:List Str}{cv:List V}(h:CapOk H cl cn cv){x:Str}{c:Addr}(e:cl.lookup x=some c):∃ o u v val,H c=some (.frz o u)/\o.data=.cell (some val)/\RelV v val:=by
 obtain⟨j,hj⟩:=List.mem_iff_getElem?.mp (h.only x c e)
 have hl:j < cv.length:=by rw[← h.len];exact(List.getElem?_eq_some_iff.mp hj).1
 obtain⟨c',o,u,val,h1,h2,h3,h4⟩:=h.get j x _ hj (List.getElem?_eq_getElem hl)
 rw[e]at h1;cases h1
 exact⟨o,u,_,val,h2,h3,h4⟩
theorem zip_look{ps:List Str}{us:List Value}:∀ {i:Nat} {x:Str} {u:Value},ps.Nodup->ps[i]?=some x->us[i]?=some u->((ps.zip us).reverse.lookup x)=some u:=by
 intro i x u nd h1 h2
 have hm:(x,u)∈(ps.zip us).reverse:=by
  rw[List.mem_reverse]
  exact List.mem_iff_getElem?.mpr ⟨i,by rw[List.getElem?_zip_eq_some];exact⟨h1,h2⟩⟩
 have key:∀ (l:List (Str×Value)),(l.map (·.1)).Nodup->(x,u)∈l->l.lookup x=some u:=by
  intro l
  induction l with
  | nil=>intro _ h;cases h
  | cons p r ih=>
   intro hn h
   rw[List.map_cons,List.nodup_cons]at hn
   obtain⟨n,k⟩:=p
   rcases List.mem_cons.mp h with z | z
   ·cases z;simp[List.lookup]
   ·have:(x == n)=false:=beq_eq_false_iff_ne.mpr fun q=>hn.1 (by
     rw[← q];exact List.mem_map.mpr ⟨_,z,rfl⟩)
    rw[List.lookup_cons,this]
    exact ih hn.2 z
 refine key _ ?_ hm
 rw[List.map_reverse]
 have:((ps.zip us).map (·.1)).Nodup:=by
  have sub:∀ (a:List Str) (b:List Value),((a.zip b).map (·.1)).Sublist a:=by
   intro a
   induction a with
   | nil=>intro b;simp
   | cons x a ih=>
    intro b
    cases b with
    | nil=>simp
    | cons y b=>simpa using ih b
  exact nd.sublist (sub ps us)
 exact(List.reverse_perm _).nodup_iff.mpr this
theorem inv_clo{CX:CXT}{P:Program}{w:World}{K:PySem.W.Frag}{mg:Str->Option Value}{base:Heap}{ps cn:List Str}{qual:Str}{scope:Scope}{f:Addr}{cd:Value}{cl:List (Str×Addr)}{A:Around}{outer:List Env}{s:Shared}{h1:Heap}{tk:Nat}{H:Hp}{E:XK}{us:List Value}{vs cv:List V}
  (S:CloScope ps cn scope) (hd:A.handled=none) (e0:Env0 P w K mg base A outer s H) (hl:vs.length=ps.length) (r:Vals vs us) (C:CapOk H cl cn cv)
  (ns:h1.Ns s.heap.objs.size fun x=>((ps.zip us).reverse.lookup x)) (sb:Heap.SameBut s.heap.objs.size (s.heap.push { cls:=.type "frame",data:=.dict #[] }) h1) :
  Inv (cxClo CX P w K mg base (ps++cn) qual scope f cd cl A outer s H E) [] ((vs++cv).map some) H { s with heap:=h1,toks:=tk }:=by
 have hk:∀ b o,s.heap.get? b=some o->h1.get? b=some o:=fun b o e=>(sb.2 b (Nat.ne_of_lt (Heap.lt_size e))).trans (Heap.get?_push_of_some _ e)
 have noA:∀ b:Addr,b∉(cxClo CX P w K mg base (ps++cn) qual scope f cd cl A outer s H E).ex:=fun b z=>absurd (show b∈([]:List Addr) from z) (by simp)
 have hok1:HOk P w H h1:=e0.hok.kept hk
 have cell:∀ x c,cl.lookup x=some c->∃ o u val,H c=some (.frz o u)/\h1.get? c=some o/\o.data=.cell (some val):=fun x c e=>by
  obtain⟨o,u,v,val,q1,q2,q3⟩:=C.at' e
  exact⟨o,u,val,q1,(hok1 c _ q1).1,q2⟩
 have ndp:ps.Nodup:=S.nd.sublist (List.sublist_append_left _ _)
 refine⟨⟨e0.mod,S.kind,rfl,rfl,Nat.le_refl _,C.inj,fun y hy => ?_,fun y c z _=>absurd (show false=true from z) Bool.false_ne_true,fun _=>hd,Around.frames_deeper e0.frames,.inr ⟨rfl,rfl⟩,fun b z=>absurd z (noA b),e0.bs,e0.bsz,fun b _ _=>noA b,fun b z=>absurd z (noA b),e0.funs,e0.frf⟩,
  rfl,e0.bare,Un.kept hk,⟨_,ns,fun i y v h1' h2 h3 => ?_⟩,fun y c h => ?_,e0.hok.fresh (Nat.le_refl _),fun y c h => ?_,fun p hp=>absurd (show p∈([]:List (Addr×Obj)) from hp) (by simp),hok1,?_⟩
 ·have hy:scope.names.lookup y=some .cell\/scope.names.lookup y=some .free:=hy
  rcases hy with hy | hy
  ·exact absurd rfl (S.cell _ (PySem.mem_of_lookup hy))
  ·have hm:=S.all _ (PySem.mem_of_lookup hy) rfl
   obtain⟨j,hj⟩:=List.mem_iff_getElem?.mp hm
   have hl':j < cv.length:=by rw[← C.len];exact(List.getElem?_eq_some_iff.mp hj).1
   obtain⟨c,o,u,val,q1,_⟩:=C.get j y _ hj (List.getElem?_eq_getElem hl')
   exact⟨c,q1⟩
 ·have h1':(ps++cn)[i]?=some y:=h1'
  have h2':(vs++cv)[i]?=some v:=by
   rw[List.getElem?_map]at h2
   cases e:(vs++cv)[i]? with
   | none=>rw[e]at h2;cases h2
   | some a=>rw[e]at h2;cases h2;rfl
  by_cases hi:i < ps.length
  ·rw[List.getElem?_append_left hi]at h1'
   rw[List.getElem?_append_left (by omega)]at h2'
   obtain⟨u,hu,rv⟩:=r.get h2'
   exact⟨u,rv,.inl ⟨S.par y (List.mem_of_getElem? h1'),zip_look ndp h1' hu⟩⟩
  ·rw[List.getElem?_append_right (by omega)]at h1'
   rw[List.getElem?_append_right (by omega),hl]at h2'
   obtain⟨c,o,u,val,q1,q2,q3,q4⟩:=C.get _ _ _ h1' h2'
   exact⟨val,q4,.inr ⟨.inr (S.cap y (List.mem_of_getElem? h1')),c,q1,o,(hok1 c _ q2).1,q3⟩⟩
 ·obtain⟨o,u,val,_,q2,q3⟩:=cell y c h
  exact⟨some val,o,q2,q3⟩
 ·obtain⟨o,u,val,q1,_⟩:=cell y c h
  exact⟨.inr ⟨o,u,q1⟩,fun z=>absurd (show false=true from z) Bool.false_ne_true⟩
 ·rw[List.length_map,List.length_append,hl,← C.len]
  show _=(ps++cn).length
  rw[List.length_append]
structure CloAt(H:Hp)(f c':Addr)(name qual:Str)(params:Arguments)(body:List Stmt)(scope:Scope)(cl:List (Str×Addr)):Prop where
 fn:∃ doc pm ctv u,H f=some (.frz (fnMade name qual params body scope cl doc pm c' ctv) u)
 cd:∃ oc u vs t,H c'=some (.frz oc u)/\oc.data=.fields vs/\vs[1]?=some (.str qual t)
theorem clo_call{X:Cx}{CX:CXT}{k:Nat}{f c':Addr}{name qual:Str}{params:Arguments}{body:List Stmt}{scope:Scope}{cl:List (Str×Addr)}{ps cn:List Str}{vs cv:List V}{σ:St}{H:Hp}{Q:VK}{E:XK}
  (C:CloAt H f c' name qual params body scope cl) (S:CloScope ps cn scope) (O:CapOk H cl cn cv) (hr:Room (k + 1) X.A) (hx:Passes CX X E) (hl:vs.length=ps.length)
  (hb:∀ (doc pm ctv:Value) (us:List Value),us.length=ps.length->bindArgs (fnX name qual params body scope cl .none .none doc pm none (.ref c') ctv) ⟨us,[]⟩=pure (ps.zip us))
  (hbody:∀ (outer:List Env) (s:Shared),Room k (X.A.deeper (envX qual scope s.heap.objs.size f (.ref c') cl)) ->
   ∃ t,PSs (cxClo CX X.prog X.w X.K X.mg X.base (ps++cn) qual scope f (.ref c') cl X.A outer s H E) body t/\t { nx:=fun _ H'=>Q .non H',rt:=Q } ((vs++cv).map some) H):CallV X f vs σ H Q:=by
 intro pins s us I r
 obtain⟨doc,pm,ctv,uf,hf⟩:=C.fn
 obtain⟨oc,uc,vc,tc,hc,hcd,hcv⟩:=C.cd
 have e0:=I.env0
 have lim:=I.nolimit
 have rl:us.length=ps.length:=by rw[← r.length];exact hl
 refine wpAny_call (codeAny_mono (R:=CR CX X.stack X.prog X.w H s Q E) ?_ fun r s' hq => ?_)
 ·refine codeAny_call_function hr.depth (e0.hok f _ hf).1 rfl S.co S.gen rfl ⟨c',oc,vc,tc,rfl,(e0.hok c' _ hc).1,hcd,hcv⟩ ?_
  rw[hb doc pm ctv us rl]
  refine wpAny_pure (wpAny_newFunctionEnv S.cell (fun y hy=>S.par _ (List.of_mem_zip hy).1) (fun h1 ns sb => ?_) S.kind)
  have hk:∀ b o,s.heap.get? b=some o->h1.get? b=some o:=fun b o e=>(sb.2 b (Nat.ne_of_lt (Heap.lt_size e))).trans (Heap.get?_push_of_some _ e)
  refine⟨lim.keeps hk,codeAny_func ?_⟩
  obtain⟨t,ht,hq⟩:=hbody X.stack s (hr.deeper _)
  have I1:Inv (cxClo CX X.prog X.w X.K X.mg X.base (ps++cn) qual scope f (.ref c') cl X.A X.stack s H E) [] ((vs++cv).map some) H { s with heap:=h1,toks:=s.toks + (ps.zip us).length }:=inv_clo S hr.hd e0 hl r O ns sb
  refine wpAny_mono (ht [] _ _ H _ I1 hq) (fun fl s' hs => ?_) fun e s' hs=>hs
  have fin:∀ {σ':St} {H':Hp} {v:V} {u:Value},Inv (cxClo CX X.prog X.w X.K X.mg X.base (ps++cn) qual scope f (.ref c') cl X.A X.stack s H E) [] σ' H' s'->RelV v u->Q v H'->CE X.stack X.prog X.w H s Q u s':=
   fun {σ' H' v u} J rv q=>⟨v,H',J.os,J.bare,J.base,J.hok,rv,q⟩
  cases fl with
  | ret u=>
   obtain⟨v,σ',H',J,rv,q⟩:=hs
   exact fin J rv q
  | next=>
   obtain⟨σ',H',J,q⟩:=hs
   exact fin (v:=V.non) (u:=Value.none) J rfl q
  | brk=>
   obtain⟨_,_,_,q⟩:=hs
   exact False.elim q
  | cont=>
   obtain⟨_,_,_,q⟩:=hs
   exact False.elim q
 ·cases r with
  | error e=>exact hx pins σ H s e s' I hq
  | ok fl=>
   cases fl with
   | ret u=>exact I.after hq
   | next=>exact False.elim hq
   | brk=>exact False.elim hq
   | cont=>exact False.elim hq
end L2
namespace L2
open PySem PySem.Spec PyProof.Rows PySem.W
noncomputable def stayO(a:Addr)(o:Obj):HO:=.frz o (.ext fun h=>h.get? a=some o)
theorem stay_ok{P:Program}{w:World}{H:Hp}{h:Heap}{a:Addr}{o:Obj}(e:h.get? a=some o):ObjOk P w H h a (stayO a o):=⟨e,e,⟨o,e⟩,fun h1 h2 q k=>k o q⟩
noncomputable def Cx.fz(X:Cx)(xs:List Str):Cx:={ X with fn:=fun y=>X.fn y && !(xs.contains y) }
section
variable{X:Cx}{pins:List (Addr×Obj)}{σ:St}{H:Hp}{s:Shared}
theorem Inv.fz_nil(I:Inv X pins σ H s):Inv (X.fz []) pins σ H s:=by
 have ok:=I.ok
 refine⟨⟨ok.mod,ok.kind,ok.glob,ok.blt,ok.above,ok.inj,ok.has,fun x c z e=>ok.cab x c ?_ e,ok.hd,ok.frames,ok.stk,ok.exf,ok.bs,ok.bsz,ok.noex,ok.exfs,ok.funs,ok.frf⟩,I.os,I.bare,I.base,I.loc,I.cell,I.free,fun x c e=>⟨(I.freeC x c e).1,fun z=>(I.freeC x c e).2 ?_⟩,I.pin,I.hok,I.len⟩
 ·have z:(X.fn x && !(([]:List Str).contains x))=true:=z
  simpa using z
 ·have z:(X.fn x && !(([]:List Str).contains x))=true:=z
  simpa using z
theorem Inv.freeze{xs:List Str}{x:Str}{c:Addr}{o:Obj}{val:Value}(I:Inv (X.fz xs) pins σ H s)(hc:X.env.cells.lookup x=some c)(hf:(X.fz xs).fn x=true)(ho:s.heap.get? c=some o)(hd:o.data=.cell (some val)) :
  Inv (X.fz (x::xs)) pins σ (upd H c (stayO c o)) s:=by
 have ok:=I.ok
 have hn:H c=none:=(I.freeC x c hc).2 hf
 have fn1:∀ y,(X.fz (x::xs)).fn y=true->(X.fz xs).fn y=true/\y≠x:=fun y z=>by
  have z:(X.fn y && !((x::xs).contains y))=true:=z
  have:(X.fz xs).fn y=(X.fn y && !(xs.contains y)):=rfl
  rw[this]
  simp at z ⊢
  exact⟨⟨z.1,z.2.2⟩,z.2.1⟩
 have ne:∀ b u,H b=some u->b≠c:=fun b u e z=>by rw[z,hn]at e;cases e
 have old:∀ b ob,X.s₀.heap.get? b=some ob->b≠c:=fun b ob e z=>by
  have:=ok.cab x c hf hc
  have h2:=Heap.lt_size e
  rw[z]at h2
  exact absurd (Nat.lt_of_lt_of_le h2 this) (Nat.lt_irrefl _)
 refine⟨⟨ok.mod,ok.kind,ok.glob,ok.blt,ok.above,ok.inj,ok.has,fun y c' z e=>ok.cab y c' (fn1 y z).1 e,ok.hd,ok.frames,ok.stk,ok.exf,ok.bs,ok.bsz,ok.noex,ok.exfs,ok.funs,ok.frf⟩,I.os,I.bare,
  ⟨I.base.keep,I.base.slot,fun b ob e n hx => ?_,I.base.there,fun b ys e => ?_,fun b ob u e => ?_,fun b ps e => ?_⟩,I.loc,I.cell,?_,fun y c' e => ?_,fun p hp => ?_,fun b u e => ?_,I.len⟩
 ·rw[upd_ne (old b ob e)];exact I.base.free b ob e n hx
 ·have:=I.base.tups b ys e
  rw[upd_ne (ne b _ this)];exact this
 ·have:=I.base.frzs b ob u e
  rw[upd_ne (ne b _ this)];exact this
 ·obtain⟨m,e1⟩:=I.base.tbls b ps e
  exact⟨m,by rw[upd_ne (ne b _ e1)];exact e1⟩
 ·exact(upd_ne (show X.env.locals≠c from Ne.symm (I.cne x c hc))).trans I.free
 ·by_cases hcc:c'=c
  ·subst hcc
   have:y=x:=ok.inj y x c' e hc
   refine⟨.inr ⟨o,_,upd_same⟩,fun z=>absurd this (fn1 y z).2⟩
  ·rw[upd_ne hcc]
   exact⟨(I.freeC y c' e).1,fun z=>(I.freeC y c' e).2 (fn1 y z).1⟩
 ·obtain⟨e,n,n1,n2,d⟩:=I.pin p hp
  have hpc:p.1≠c:=fun z=>by
   rw[z,ho]at e
   cases e
   exact d _ hd
  exact⟨e,by rw[upd_ne hpc];exact n,n1,n2,d⟩
 ·by_cases hbc:b=c
  ·subst hbc
   rw[upd_same]at e
   cases e
   exact stay_ok ho
  ·rw[upd_ne hbc]at e
   exact(I.hok b u e).stay (fun c' v _ q=>q) (fun c' q=>by rw[upd_ne (ne c' _ q)];exact q) fun c' ys q=>by rw[upd_ne (ne c' _ q)];exact q
noncomputable def madeH(H:Hp)(P:Addr)(ps:Array Value)(c':Addr)(oc:Obj)(f:Addr)(fo:Obj):Hp:=upd (upd (upd H P (.tbl ps)) c' (stayO c' oc)) f (stayO f fo)
theorem Inv.madeF{P c' f:Addr}{ps more:Array Value}{oc fo:Obj}{h':Heap}{tk:Nat}(I:Inv X pins σ H s)(hP:H P=some (.tbl ps))(ext:Heap.ExtBut P s.heap h')(hP':h'.get? P=some (tabObj (ps++more)))(g1:s.heap.objs.size<=c')(g2:s.heap.objs.size<=f)(hcf:c'≠f)
  (hoc:h'.get? c'=some oc) (hfo:h'.get? f=some fo):Inv X pins σ (madeH H P (ps++more) c' oc f fo) { s with heap:=h',toks:=tk }:=by
 have n1:H c'=none:=I.hok.fresh g1
 have n2:H f=none:=I.hok.fresh g2
 have ltP:P < s.heap.objs.size:=Heap.lt_size (show s.heap.get? P=some _ from I.hok P _ hP)
 have hPc:P≠c':=Nat.ne_of_lt (Nat.lt_of_lt_of_le ltP g1)
 have hPf:P≠f:=Nat.ne_of_lt (Nat.lt_of_lt_of_le ltP g2)
 have other:∀ b u,H b=some u->b≠P->madeH H P (ps++more) c' oc f fo b=some u:=fun b u e hb=>by
  have h1:b≠c':=fun z=>by rw[z,n1]at e;cases e
  have h2:b≠f:=fun z=>by rw[z,n2]at e;cases e
  unfold madeH
  rw[upd_ne h2,upd_ne h1,upd_ne hb];exact e
 have kp:∀ b o,s.heap.get? b=some o->H b=none->h'.get? b=some o:=fun b o e n=>ext b o (fun z=>by rw[z,hP]at n;cases n) e
 have fr:∀ b o,s.heap.get? b=some o->H b=none->madeH H P (ps++more) c' oc f fo b=none:=fun b o e n=>by
  have h0:b≠P:=fun z=>by rw[z,hP]at n;cases n
  have h1:b≠c':=Nat.ne_of_lt (Nat.lt_of_lt_of_le (Heap.lt_size e) g1)
  have h2:b≠f:=Nat.ne_of_lt (Nat.lt_of_lt_of_le (Heap.lt_size e) g2)
  unfold madeH
  rw[upd_ne h2,upd_ne h1,upd_ne h0];exact n
 refine I.un (t':=tk) ⟨fun b o e n _ _=>kp b o e n,fun b o e n _ _=>⟨o.slots,kp b o e n⟩,fun b o e n _=>fr b o e n,fun b o e _ => ?_,fun b xs e=>other b _ e (fun z=>by rw[z,hP]at e;cases e),fun b o u e=>other b _ e (fun z=>by rw[z,hP]at e;cases e),fun b qs e => ?_⟩ fun b u e => ?_
 ·by_cases hb:b=P
  ·exact⟨_,by rw[hb];exact hP'⟩
  ·exact⟨o,ext b o hb e⟩
 ·by_cases hb:b=P
  ·subst hb
   rw[hP]at e;cases e
   refine⟨more,?_⟩
   unfold madeH
   rw[upd_ne hPf,upd_ne hPc,upd_same]
  ·exact⟨#[],by rw[other b _ e hb];simp⟩
 ·by_cases h2:b=f
  ·subst h2
   unfold madeH at e
   rw[upd_same]at e;cases e
   exact stay_ok hfo
  ·by_cases h1:b=c'
   ·subst h1
    unfold madeH at e
    rw[upd_ne h2,upd_same]at e;cases e
    exact stay_ok hoc
   ·by_cases h0:b=P
    ·subst h0
     unfold madeH at e
     rw[upd_ne h2,upd_ne h1,upd_same]at e;cases e
     exact hP'
    ·unfold madeH at e
     rw[upd_ne h2,upd_ne h1,upd_ne h0]at e
     refine(I.hok b u e).stay (fun b' v hb' q=>ext b' v ?_ q) (fun b' q=>other b' _ q fun z=>by rw[z,hP]at q;cases q) fun b' xs q=>other b' _ q fun z=>by rw[z,hP]at q;cases q
     rcases hb' with z | z
     ·rw[z];exact h0
     ·intro y;rw[y,hP]at z;cases z
theorem madeH_f{H:Hp}{P c' f:Addr}{ps:Array Value}{oc fo:Obj}:madeH H P ps c' oc f fo f=some (stayO f fo):=upd_same
theorem madeH_c{H:Hp}{P c' f:Addr}{ps:Array Value}{oc fo:Obj}(h:c'≠f):madeH H P ps c' oc f fo c'=some (stayO c' oc):=by unfold madeH;rw[upd_ne h,upd_same]
theorem def_run{name qual:Str}{params:Arguments}{body:List Stmt}{scope:Scope}{pos:Pos}{i:Nat}{P c:Addr}{ps:Array Value}{cl:List (Str×Addr)}{Q:Flow->Shared->Prop}
  (I:Inv X pins σ H s) (hP:H P=some (.tbl ps)) (ht:TriplesOk ps.toList) (hnf:codeAmong pos ps.toList=none) (hc:X.env.code=.ref c) (hh:CodeHd X.base c P) (hB:∃ Pl,X.base.BuiltinsAt X.mg Pl)
  (hq:qualnameIn X.env name name=qual) (hd0:params.defaults=[]) (hk0:params.kw_defaults=[]) (ha:annTrees params none X.env=[]) (hcl:closureFor scope X.env=pure cl)
  (hN:X.N.Nodup) (hi:X.N[i]?=some name) (hx:X.env.scope.names.lookup name=some .local)
  (k:∀ (f c':Addr) (oc:Obj) (doc pm ctv:Value) (vs:Array Value) (t:Tok) (s':Shared),H c'=none->H f=none->c'≠f->c'≠P->f≠P->s.heap.objs.size<=c'->s.heap.objs.size<=f->oc.data=.fields vs->vs[1]?=some (.str qual t) ->
   Inv X pins (σ.set i (some (.ref f))) (madeH H P (ps ++ #[rawInt pos.line,rawInt pos.col,.ref c']) c' oc f (fnMade name qual params body scope cl doc pm c' ctv)) s'->Q .next s') :
  wpAny (model X.prog X.w) X.A (exec (.FunctionDef name params body [] none [] scope none name pos) X.env) Q X.xe s:=by
 have hg:s.heap.Ns mainGlobals X.mg:=I.mod.glob.keeps I.bk
 have hgP:mainGlobals≠P:=fun z=>by
  obtain⟨o,es,ep,e,_⟩:=I.mod.glob
  have:=(I.bs _ _ e).2
  rw[z,hP]at this;cases this
 have hB':s.heap.BuiltinsAt X.mg P:=by
  obtain⟨Pl,bm,o,b1,b2,b3,_,b5,b6⟩:=hB
  refine⟨bm,o,b1,b2,b3,fun z => ?_,I.bk _ _ b5,b6⟩
  have:=(I.bs _ _ b5).2
  rw[z,hP]at this;cases this
 have hsP:s.heap.get? P=some (tabObj ps):=I.hok P _ hP
 have ltP:=Heap.lt_size hsP
 refine nestDef_K hd0 hk0 ha ?_
 rw[hq]
 refine makeFunction_K hcl I.ok.glob hg hc (hh.keeps I.bk) hsP ht hnf hgP hB' fun c' ctv doc h' tk hext g1 g2 hrec hP' => ?_
 obtain⟨c2,oc,vs,t,e2,hoc,hd,hv⟩:=hrec
 cases e2
 have gsz:s.heap.objs.size<=h'.objs.size:=Nat.le_trans g1 (Nat.le_of_lt g2)
 have ext2:Heap.ExtBut P s.heap (h'.push (fnMade name qual params body scope cl doc ((X.mg "__name__").getD .none) c' ctv)):=fun b o hb e=>Heap.get?_push_of_some _ (hext b o hb e)
 have I1:=I.madeF (tk:=tk) hP ext2 (Heap.get?_push_of_some _ hP') g1 gsz (Nat.ne_of_lt g2) (Heap.get?_push_of_some _ hoc) (Heap.get?_push_size _ rfl)
 refine store_ok I1 hN hi (.inl hx) (v:=.ref h'.objs.size) rfl (fun s' I2 => ?_) (.inr hx)
 exact k h'.objs.size c' oc doc _ ctv vs t s' (I.hok.fresh g1) (I.hok.fresh gsz) (Nat.ne_of_lt g2) (Nat.ne_of_gt (Nat.lt_of_lt_of_le ltP g1)) (Nat.ne_of_gt (Nat.lt_of_lt_of_le ltP gsz)) g1 gsz hd hv I2
end
end L2
namespace L2
open PySem PySem.Spec PyProof.Rows
theorem meets_lenH{prog:Program}{w:World}{es:Array DictEntry}(d:Addr)(hd:(d == sysModules)=false) :
  MeetsIn prog w (Builtin.«dict.__len__» ⟨[.ref d],[]⟩) (fun _ R s=>∃ o ep,s.heap.get? d=some o/\o.data=.dict es ep/\R (.ok (.ret (.int es.size s.toks))) { s with toks:=s.toks + 1 }):=
 .of_wp fun A R s ⟨o,ep,ho,hdat,h⟩=>by
  show wpAny _ _ (dictSize d >>= _) _ _ s
  unfold dictSize
  refine wpAny_bind (wpAny_bind (wpAny_dictEntries ho hdat (wpAny_pure ?_)))
  show wpAny _ _ (Builtin.Dict.pendingCount d >>= _) _ _ s
  refine wpAny_bind (wpAny_pendingCount_other hd ?_)
  refine wpAny_ret_mkInt ?_
  rw[Nat.add_zero];exact h
theorem KT.length{H:Hp}{l:List (List Key×V)}{m:List (List Key×Addr×Value)}(q:KT H l m):m.length=l.length:=by
 induction q with
 | nil=>rfl
 | cons _ _ ih=>rw[List.length_cons,List.length_cons,ih]
theorem call_lenT{X:Cx}:CallR X (.builtin "len") (fun xs H Q=>∃ a kvs,xs=[V.ref a]/\H a=some (.dT kvs)/\Q (.int kvs.length) H):=by
 intro pins s σ H xs us Q I r h
 obtain⟨a,kvs,rfl,ha,q⟩:=h
 obtain⟨u,rfl,ru⟩:=vals1 r
 cases ru
 obtain⟨z,hd,xs,rel,dd⟩:=dt_of I.hok ha
 have ty:=dd.typeIs
 obtain⟨o,es,ep,h1,h2,h3,h4,h5,h6⟩:=dd
 have hl:es.size=kvs.length:=by rw[size_of_entries h4,rel.length]
 refine Calls.call_function_entry kind_len plain_len entry_len (args_len1 _) ?_
 unfold Builtin.«len»
 refine wpAny_bind (m:=oneArg "len" _) (wpAny_pure ?_)
 refine wpAny_bind (m:=callSpecial? (.ref a) (Str.ofString "__len__")) (wpAny_callSpecial?_slot (name:=Str.ofString "__len__") ty F.slot_dict_len
  (call_meetsIn F.slot_dict_len ty F.entry_dict_len (F.args_dict_len_1 _) (meets_lenH (es:=es) a hd) ⟨o,ep,h1,h3,?_⟩))
 show wpAny _ _ _ _ _ { s with toks:=s.toks + 1 }
 refine wpAny_bind (wpAny_holding (wpAny_pure ?_))
 refine wpAny_bind (wpAny_letGo ?_)
 rw[sizeLine_eq]at z
 show wpAny _ _ (if ((es.size:Nat):Int) < 0 then _ else _) _ _ _
 rw[if_neg (by omega)]
 show wpAny _ _ (if ((es.size:Nat):Int)≥2 ^ 63 then _ else _) _ _ _
 rw[if_neg (by omega)]
 refine wpAny_bind (wpAny_mkInt (wpAny_pure ⟨_,rfl,.int kvs.length,H,(I.tok _).tok _,⟨_,by rw[hl]⟩,q⟩))
end L2
namespace HT
open PySem PyProof.Rows
section
variable{prog:Program}{w:World}{A:Around}{E:Value->Shared->Prop}{s:Shared}
theorem getItem_tuple_whole{t sl:Addr}{items:Array Value}{vl vu:Value}{lo hi:Option Int}{Q:Value->Shared->Prop}(ht:IsTup s.heap t items)(hs:s.heap.IsSliceOf sl vl vu .none)(pl:IsPart vl lo)(pu:IsPart vu hi)
  (h1:sIx items.size 0 lo=0) (h2:sIx items.size items.size hi=items.size) (h:Q (.ref t) s):wpAny (model prog w) A (getItem (.ref t) (.ref sl)) Q E s:=by
 obtain⟨os,hos,hcs,hds⟩:=id hs
 have hTs:s.TypeIs (.ref sl) "slice":=⟨os,hos,hcs⟩
 unfold getItem
 try with_reducible refine wpAny_holding ?_
 first | refine wpAny_bind (wpAny_pure ?_) | skip
 refine wpAny_bind (wpAny_sequenceKey ht.typeIs (by decide) ?_)
 refine wpAny_bind (wpAny_callSpecial?_slot (name:=Str.ofString "__getitem__") ht.typeIs PyProof.Rows.slot_tuple_getitem
  (wpAny_call_entry PyProof.Rows.slot_tuple_getitem ht.typeIs entry_tuple_getitem ?_ (args_tuple_getitem _ _)))
 show wpAny _ _ (Builtin.Tuple.tupleItemsOf (.ref t) >>= _) _ _ s
 refine wpAny_bind (tupleItemsOf_ ht ?_)
 refine wpAny_bind (wpAny_typeOf hTs ?_)
 rw[if_pos (by decide)]
 refine wpAny_bind (sliceApplied_gen hs pl pu ?_)
 have hyes:(((sIx items.size 0 lo:Nat):Int) == 0 && (1:Int) == 1 && (sIx items.size items.size hi - sIx items.size 0 lo) == items.size)=true:=by
  rw[h1,h2];simp
 show wpAny _ _ (if (((sIx items.size 0 lo:Nat):Int) == 0 && (1:Int) == 1 && (sIx items.size items.size hi - sIx items.size 0 lo) == items.size)=true then _ else _) _ _ s
 rw[if_pos hyes]
 unfold Builtin.Tuple.tupleIsExact
 refine wpAny_bind (wpAny_bind (wpAny_typeOf ht.typeIs (wpAny_pure ?_)))
 rw[if_pos (by decide)]
 exact wpAny_bind (wpAny_rule (wpAny_pure ⟨_,rfl,wpAny_pure h⟩))
theorem cat_tup0{t b:Addr}{ws:List Value}{Q:Value->Shared->Prop}(ht:IsTup s.heap t #[])(hb:IsTup s.heap b ws.toArray)(h:Q (.ref b) s):wpAny (model prog w) A (binaryOp .Add (.ref t) (.ref b)) Q E s:=by
 obtain⟨⟨cls,dd,data,sl⟩,ho,hc,n,hd⟩:=id ht
 obtain⟨⟨cls2,dd2,data2,sl2⟩,ho2,hc2,n2,hd2⟩:=id hb
 simp only at hc hd hc2 hd2
 subst hc hd hc2 hd2
 exact concat_meets ⟨_,ho,rfl⟩ ⟨_,ho2,rfl⟩ noFill_tuple_add seq_tuple_add PySem.F.slot_tuple_add PySem.F.entry_tuple_add (PySem.F.args_tuple_add_2 _ _)
   (tuple_addW0 t b #[] ws.toArray n n2 dd dd2 sl sl2 rfl) ⟨ho,ho2,h⟩
end
end HT
namespace L2
open PySem PySem.Spec PyProof.Rows
section
variable{X:Cx}
noncomputable def rSlW(K:PySem.W.Frag):V->Option Int->Option Int->Hp->VK->Prop:=fun x lo hi H Q=>∃ a xs,x=.ref a/\SqT K H a xs/\HT.sIx xs.length 0 lo=0/\HT.sIx xs.length xs.length hi=xs.length/\Q (.ref a) H
theorem sl_tupW:SlR X (rSlW X.K):=by
 intro pins s σ H x v vl vu lo hi sl Q I rx hs pl pu h
 obtain⟨a,xs,rfl,hx,h1,h2,q⟩:=h
 cases rx
 obtain⟨its,r,ht,hz⟩:=I.tuple hx
 have hlen:its.toArray.size=xs.length:=by rw[List.size_toArray];exact r.length.symm
 refine⟨"tuple",_,PyProof.Rows.slot_tuple_getitem.lookup,ht.typeIs,?_⟩
 exact HT.getItem_tuple_whole ht hs pl pu (by rw[hlen];exact h1) (by rw[hlen];exact h2) ⟨.ref a,H,I,rfl,q⟩
noncomputable def rCat0(K:PySem.W.Frag):R2:=fun x y H Q=>∃ a b ys,x=.ref a/\y=.ref b/\SqT K H a []/\SqT K H b ys/\Q (.ref b) H
theorem op_cat0:OpR X (binaryOp .Add) (rCat0 X.K):=by
 intro pins s σ H x y v u Q I rx ry h
 obtain⟨a,b,ys,rfl,rfl,ha,hb,q⟩:=h
 cases rx
 cases ry
 obtain⟨its,r1,p1,_⟩:=I.tuple ha
 obtain⟨its2,r2,p2,_⟩:=I.tuple hb
 cases r1
 exact HT.cat_tup0 p1 p2 ⟨.ref b,H,I,rfl,q⟩
end
end L2
namespace L2
open PySem PySem.Spec PyProof.Rows PySem.W
section
variable{P:Program}{w:World}{K:PySem.W.Frag}{mg:Str->Option Value}{base:Heap}
theorem Fun.okW{x qual:Str}{st:Stmt}{f:Addr}{fd:FuncData}{N ps:List Str}{k:Nat}{sp:Sp}{c:Addr}(F:Fun K x qual st f fd)(hcv:fd.code=.ref c)(S:FnScope N ps (defScope st))(len:∀ vs H Q E,sp vs H Q E->vs.length=ps.length)
  (hbody:∀ (A:Around) (outer:List Env) (s s1:Shared) (H:Hp) (vs:List V) (Q:VK) (E:XK),Room k (A.deeper (envOfC qual (defScope st) s.heap.objs.size f (.ref c)))->sp vs H Q E ->
   Inv (cxOf CX0 P w K mg base N qual (defScope st) f (.ref c) A outer s H E).nox [] (start N vs) H s1 ->
   wpAny (model P w) (A.deeper (envOfC qual (defScope st) s.heap.objs.size f (.ref c))) (execs (defBody st) (envOfC qual (defScope st) s.heap.objs.size f (.ref c)))
    (fun fl s'=>∃ xs v u σ' H',(fl=.ret u\/fl=.next/\u=Value.none)/\Inv ((cxOf CX0 P w K mg base N qual (defScope st) f (.ref c) A outer s H E).nox.fz xs) [] σ' H' s'/\RelV v u/\Q v H') (fun _ _=>False) s1) :
  FnOk P w K mg base CX0 (k + 1) f fd ps sp:=by
 obtain⟨oc,od,kV,doc,pm,an,cdv,ct,osl,rfl,lk,hcd⟩:=F.ex
 obtain rfl:cdv=.ref c:=hcv
 refine⟨len,fun A outer s H args us vs Q E hr e0 hb r hsp => ?_⟩
 have hl:=len _ _ _ _ hsp
 have KX:K.In s.heap:=e0.mod.kin.keeps fun b o e=>(e0.bs b o e).1
 have lim:s.heap.NoLimit:=e0.mod.nolimit.keeps fun b o e=>(e0.bs b o e).1
 have hkind:∀ y∈ps.zip us,(defScope st).names.lookup y.1=some .local\/((defScope st).names.lookup y.1=some .cell/\((cellsFrom (s.heap.objs.size + 1) (defScope st).names []).lookup y.1).isSome=true):=fun ⟨n,v⟩ hy=>by
  rcases S.par n (List.of_mem_zip hy).1 with q | q
  ·exact .inl q
  ·exact .inr ⟨q,PySem.W.cellsFrom_some _ _ _ (.inl q)⟩
 refine codeAny_call_function hr.depth (KX _ _ lk) rfl S.co S.gen rfl (PySem.W.codeRec_of KX hcd) (hb _ _ _ _ ?_)
 refine wpAny_newFunctionEnv_cells S.kind hkind fun env he s1 x => ?_
 subst he
 refine⟨lim.keeps x.toInCall.keep,codeAny_func ?_⟩
 have I:Inv (cxOf CX0 P w K mg base N qual (defScope st) f (.ref c) A outer s H E) [] (start N vs) H s1:=inv_start S hr.hd e0 hl r x
 refine wpAny_mono (hbody A outer s s1 H vs Q E (hr.deeper _) hsp (I.wish _)) (fun fl s' hs => ?_) fun e s' hs=>hs.elim
 obtain⟨xs,v,u,σ',H',hfl,J,rv,q⟩:=hs
 have fin:CE outer P w H s Q u s':=⟨v,H',J.os,J.bare,J.base,J.hok,rv,q⟩
 rcases hfl with rfl | ⟨rfl,rfl⟩
 ·exact fin
 ·exact fin
end
theorem law_callT{P:Program}{w:World}{K:PySem.W.Frag}{mg mb:Str->Option Value}{k:Nat}{fa a c T:Addr}{fd:FuncData}{x:Str}{sp:Sp}{s₁:Shared}{vs:List Value}{ns:List Int}
  (KX:K.In s₁.heap) (hns:s₁.heap.Ns mainGlobals mg) (hb:s₁.heap.Ns builtinsNs mb) (hbb:∀ x:Str,x≠"__name__"->mb x=bootBuiltins x) (hlim:s₁.heap.NoLimit) (hg:s₁.gens = #[])
  (hbm:∃ bm ob,mg "__builtins__"=some (.ref bm)/\bm≠builtinsNs/\s₁.heap.get? bm=some ob/\ob.cls=.type "module"/\ob.dict=some builtinsNs/\ob.data=.plain)
  (hC:CodeHd s₁.heap c T) (hT:s₁.heap.get? T=some (tabObj #[])) (hKT:K.lookup T=none) (hKa:K.lookup a=none)
  (ha:s₁.heap.get? a=some { cls:=.type "list",data:=.seq vs.toArray }) (hi:IntsAre vs ns) (hl:ns.length<=sizeLine) (hr:Room k callerA)
  (F:∀ base:Heap,K.In base->base.Ns mainGlobals mg->CodeHd base c T->(∃ Pl,base.BuiltinsAt mg Pl)->FnOk P w K mg base CX0 k fa fd [x] sp) (hbind:∀ (s:Shared) (u:Value),BindsTo s fd ⟨[u],[]⟩ [(x,u)])
  (hsp:∀ H:Hp,H T=some (.tbl #[])->a≠T->Rd H a (.lst (ns.map V.int))->sp [.ref a] H (fun v _=>v=.bl true) fun _ _ _=>False) :
  codeAny (model P w) callerA (.call (.ref fa) ⟨[.ref a],[]⟩) (fun r s'=>r=.ok (.ret (.bool true))/\OldK s₁.heap s'.heap/\s'.os=s₁.os/\AllBare s'.gens) s₁:=by
 have rv:=vals_ints hi
 have lenV:=hi.length
 have haT:a≠T:=fun z=>by
  rw[z,hT]at ha;cases ha
 let H:Hp:=fun b=>if b=T then some (.tbl #[]) else if b=a then some (.frz { cls:=.type "list",data:=.seq vs.toArray } (.lst (ns.map V.int))) else none
 have HT:H T=some (.tbl #[]):=if_pos rfl
 have Ha:H a=some (.frz { cls:=.type "list",data:=.seq vs.toArray } (.lst (ns.map V.int))):=(if_neg haT).trans (if_pos rfl)
 have Hn:∀ b,b≠T->b≠a->H b=none:=fun b h1 h2=>(if_neg h1).trans (if_neg h2)
 have hok:HOk P w H s₁.heap:=fun b u z=>by
  by_cases h1:b=T
  ·subst h1
   rw[HT]at z;cases z
   exact hT
  ·by_cases h2:b=a
   ·subst h2
    rw[Ha]at z;cases z
    exact⟨ha,by rw[List.length_map];exact hl,vs,_,rv,ha⟩
   ·rw[Hn b h1 h2]at z;cases z
 have base_of:∀ {b:Addr} {o:Obj},s₁.heap.get? b=some o->H b=none->(hidT s₁.heap H).get? b=some o:=fun e n=>hidT_get e n
 have noC:∀ {b:Addr} {o:Obj},s₁.heap.get? b=some o->o.cls≠.none->o.cls≠.type "list"->H b=none:=fun {b o} e h1 h2=>Hn b (fun z=>h1 (by rw[z,hT]at e;cases e;rfl)) fun z=>h2 (by rw[z,ha]at e;cases e;rfl)
 have noD:∀ {b:Addr} {o:Obj} {es:Array DictEntry} {ep:Nat},s₁.heap.get? b=some o->o.data=.dict es ep->H b=none:=fun {b o es ep} e d=>Hn b (fun z=>by rw[z,hT]at e;cases e;cases d) fun z=>by rw[z,ha]at e;cases e;cases d
 have nsK:∀ {b:Addr} {m:Str->Option Value},s₁.heap.Ns b m->(hidT s₁.heap H).Ns b m:=fun {b m} ⟨o,es,ep,e,d,r⟩=>⟨o,es,ep,base_of e (noD e d),d,r⟩
 have hKb:K.In (hidT s₁.heap H):=fun b o e=>base_of (KX b o e) (Hn b (fun z=>by rw[z,hKT]at e;cases e) fun z=>by rw[z,hKa]at e;cases e)
 have hM:Mod K mg (hidT s₁.heap H):=⟨hKb,nsK hns,⟨mb,nsK hb,hbb⟩,let ⟨mc,h1,h2⟩:=hlim;⟨mc,nsK h1,h2⟩⟩
 have e0:Env0 P w K mg (hidT s₁.heap H) callerA [] s₁ H:=⟨rfl,hM,fun b o e=>of_hidT e,Nat.le_of_eq (hidT_size _ _),trivial,fun b hb=>absurd (show b∈([]:List Addr) from hb) (by simp),hok,.of_eq hg⟩
 have hCb:CodeHd (hidT s₁.heap H) c T:=by
  obtain⟨o,vs',file,tf,flags,tg,inF,text,tt,e,h1,r⟩:=hC
  exact⟨o,vs',file,tf,flags,tg,inF,text,tt,base_of e (noC e (by rw[h1];nofun) (by rw[h1];decide)),h1,r⟩
 have hBb:∃ Pl,(hidT s₁.heap H).BuiltinsAt mg Pl:=by
  obtain⟨bm,ob,h1,h2,h3,h4,h5,h6⟩:=hbm
  refine⟨bm + 1,bm,ob,h1,h2,fun z => ?_,Nat.ne_of_lt (Nat.lt_succ_self _),base_of h3 (noC h3 (by rw[h4];nofun) (by rw[h4];decide)),h4,h5,h6⟩
  obtain⟨o,es,ep,e,d,_⟩:=hns
  rw[← z,h3]at e;cases e
  rw[h6]at d;cases d
 refine codeAny_mono ((F _ hKb (nsK hns) hCb hBb).run callerA [] s₁ H ⟨[.ref a],[]⟩ [.ref a] [.ref a] _ _ hr e0 (hbind s₁ (.ref a)) (.cons rfl .nil) (hsp H HT haT (.inr ⟨_,Ha⟩))) fun r s' h => ?_
 cases r with
 | error e=>exact h.elim
 | ok fl=>
  cases fl with
  | next=>exact False.elim h
  | brk=>exact False.elim h
  | cont=>exact False.elim h
  | ret u=>
   obtain⟨v,H',os,bare,un,hok',r',q⟩:=h
   have q':v=.bl true:=q
   subst q'
   obtain rfl:u=Value.bool true:=r'
   obtain⟨more,hm⟩:=un.tbls T #[] HT
   have hT':s'.heap.get? T=some (tabObj (#[]++more)):=hok' T _ hm
   have keep:∀ b o,b≠T->s₁.heap.get? b=some o->s'.heap.get? b=some o:=fun b o hbT e=>by
    by_cases h2:b=a
    ·subst h2
     obtain⟨e2,_⟩:=hok' b _ (un.frzs b _ _ Ha)
     rw[ha]at e;cases e
     exact e2
    ·exact un.keep b o e (Hn b hbT h2) (by intro z;exact absurd (show b∈([]:List Addr) from z) (by simp)) (by simp)
   refine⟨rfl,⟨fun b o e => ?_,fun b o e => ?_⟩,os,bare⟩
   ·by_cases hbT:b=T
    ·subst hbT
     rw[hT]at e;cases e
     exact .inr (.inl ⟨(hC.tab hT).isCodeTable,rfl,#[],more,rfl,hT'⟩)
    ·exact .inl (keep b o hbT e)
   ·by_cases hbT:b=T
    ·exact⟨_,by rw[hbT];exact hT'⟩
    ·exact⟨o,keep b o hbT e⟩
theorem walk_ofT{l:PySem.W.OpenLaw}{n k:Nat}{q:Program}{loose:List Str}{XP:(Str->Option Value)->Heap->Prop}{YP:World->Heap->Prop}{d:DefRec}{K:Params->PySem.W.Frag}{sp:World->Sp}{x:Str}{c T:Addr}
  (hn:l.most=some n) (hn2:n<=sizeLine) (hdf:d.params.defaults=[]) (hr:Room k callerA)
  (hY:∀ (w:World) (h:Heap),YP w h->(K w.params).In h/\h.get? T=some (tabObj #[])) (hC:∀ pm,codeHdIn (K pm) c T=true) (hKT:∀ pm,noTabs (K pm)=true) (hKL:∀ pm a o,(K pm).lookup a=some o->o.cls≠.type "list")
  (F:∀ (w:World) (mg:Str->Option Value) (fa:Addr) (h:Heap),(K w.params).In h->h.Ns mainGlobals mg->mg d.name=some (.ref fa) ->
   ∃ fd:FuncData,(∀ (s:Shared) (u:Value),BindsTo s fd ⟨[u],[]⟩ [(x,u)]) /\
    ∀ base:Heap,(K w.params).In base->base.Ns mainGlobals mg->CodeHd base c T->(∃ Pl,base.BuiltinsAt mg Pl)->FnOk l.prog w (K w.params) mg base CX0 k fa fd [x] (sp w))
  (hsp:∀ (w:World) (H:Hp) (a:Addr) (ns:List Int),ns.length<=n->H T=some (.tbl #[])->a≠T->Rd H a (.lst (ns.map V.int))->sp w [.ref a] H (fun v _=>v=.bl true) fun _ _ _=>False) :
  PySem.W.WalkO q loose XP YP l.row.toRowW d [] (fun f vs=>PySem.call f vs):=by
 refine Att.attach_call hn hdf fun w s₀ s₁ mg mb fa o pm cd doc a vs ns G Y ho hd hcd hmg hobj hints hlen hg => ?_
 obtain⟨KX,hT⟩:=hY w _ Y
 obtain⟨fd,hb,hF⟩:=F w mg fa _ KX G.T.g hmg
 refine law_callT KX G.T.g G.T.b G.T.builtins G.T.nolimit hg G.T.bmain (codeHd_of_K KX (hC _)) hT ?_ ?_ hobj hints (Nat.le_trans hlen hn2) hr hF hb (fun H h1 h2 h3=>hsp w H a ns hlen h1 h2 h3)
 ·cases e:(K w.params).lookup T with
  | none=>rfl
  | some o=>
   have e2:=KX _ _ e
   rw[hT]at e2;cases e2
   exact absurd (List.all_eq_true.mp (hKT w.params) _ (mem_of_lookupK e)) (by simp)
 ·cases e:(K w.params).lookup a with
  | none=>rfl
  | some o=>
   have e2:=KX _ _ e
   rw[hobj]at e2;cases e2
   exact absurd rfl (hKL _ _ _ e)
end L2
namespace L2
open PySem PySem.Spec PyProof.Rows
section
variable{prog:Program}{w:World}{A:Around}{R:Result->Shared->Prop}{h:Heap}{g:Array GenState}{d:Drawn}{t:Nat}{os:OsState}
variable{nm q:Str}{C N f:Addr}{bs bm bmB:List Value}{hdct:Bool}{sn:List Str}{sub:List Value}{ab:Bool}{col:Option Bool}{dd:Option Addr}{k0 k1 k2 k3 k5:Option Value}{B newId initId:String}
noncomputable abbrev excHeap(h:Heap)(C:Addr)(rest:List Value):Heap:=(h.push { cls:=.type "tuple",data:=.seq rest.toArray }).push { cls:=.ref C,data:=.fields #[.ref h.objs.size,.none,.none,.none,.bool false,.none] }
theorem type_call_exc(F:ExcBaseFacts B newId initId bmB)(T:OwnTail h bmB bm){mN:Str->Option Value}{rest:List Value}
  (hC:h.get? C=some (excClassObj nm q C N bs bm hdct sn sub ab col dd k0 k1 k2 k3 k5 newId)) (hn:h.Ns N mN) (hni:mN "__init__"=some (.ref f))
  (hb:∀ self,PySem.W.Looks (model prog w) h (bindSpecial (.ref f) self) (.ref f,[self])) (hrest:rest.length<=sizeLine)
  {Q:Fin->Shared->Prop} {E:Value->Shared->Prop}
  (hq:codeAny (model prog w) A (.call (.ref f) ⟨.ref (h.objs.size + 1)::rest,[]⟩) (fun r s'=>match r with | .ok (.ret v)=>v=.none/\Q (.done (.ret (.ref (h.objs.size + 1)))) s' | .ok _=>False | .error e=>E e s') ⟨excHeap h C rest,g,d,t,os⟩) :
  wpAny (model prog w) A (Builtin.«type.__call__» ⟨.ref C::rest,[]⟩) Q E ⟨h,g,d,t,os⟩:=by
 repeat (first | with_reducible refine wpAny_loadPart_at hC ?_ | with_reducible refine wpAny_madeBy_exc hC ?_ | wp_step)
 refine codeAny_call_builtin_code (Code.quiet_builtin _ F.quiet) (wpAny_check_new_subT F T hC ?_)
 refine codeAny_exc_new_subT F T hC ?_ hrest
 show wpAny _ _ _ _ _ _
 have k:∀ b o,h.get? b=some o->(excHeap h C rest).get? b=some o:=fun b o e=>Heap.get?_push_of_some _ (Heap.get?_push_of_some _ e)
 have hC₁:=k _ _ hC
 have hn₁:(excHeap h C rest).Ns N mN:=let ⟨o,es,ep,e,r⟩:=hn;⟨o,es,ep,k _ _ e,r⟩
 have hget:(excHeap h C rest).get? (h.objs.size + 1)=some { cls:=.ref C,data:=.fields #[.ref h.objs.size,.none,.none,.none,.bool false,.none] }:=by heap_get
 have hcC:(Value.ref C::bm).contains (.ref C)=true:=by simp
 have T₁:=T.keeps k
 have b1:=(hb (.ref (h.objs.size + 1))).keeps k
 unfold isInstance
 repeat (first | with_reducible refine wpAny_loadPart_at hget ?_ | (with_reducible refine wpAny_isSubtype_exc hC₁ ?_;rw[hcC]) | wp_step)
 show wpAny _ _ (typeLookup (.ref C) _) _ _ _
 refine wpAny_typeLookup_tail hC₁ hn₁ T₁ F.mroIs F.init.lookup ?_
 rw[hni]
 refine wpAny_holding (wpAny_bind (b1.at ?_))
 refine wpAny_bind (wpAny_call (codeAny_mono hq fun r s' z => ?_))
 rcases r with e | (v | _ | _ | _)<;>first | exact z | exact z.elim | skip
 obtain⟨rfl,z⟩:=z
 exact wpAny_pure (wpAny_pure z)
theorem exc_make(F:ExcBaseFacts B newId initId bmB)(T:OwnTail h bmB bm){mN:Str->Option Value}{rest:List Value}
  (hC:h.get? C=some (excClassObj nm q C N bs bm hdct sn sub ab col dd k0 k1 k2 k3 k5 newId)) (hn:h.Ns N mN) (hni:mN "__init__"=some (.ref f))
  (hb:∀ self,PySem.W.Looks (model prog w) h (bindSpecial (.ref f) self) (.ref f,[self])) (hrest:rest.length<=sizeLine)
  (hq:codeAny (model prog w) (A.under (.builtin "type.__call__" ⟨.ref C::rest,[]⟩)) (.call (.ref f) ⟨.ref (h.objs.size + 1)::rest,[]⟩) (PySem.W.InitBack (h.objs.size + 1) R) ⟨excHeap h C rest,g,d,t,os⟩) :
  codeAny (model prog w) A (.call (.ref C) ⟨rest,[]⟩) R ⟨h,g,d,t,os⟩:=by
 have f1:=tc_lookup
 have f2:=tc_bind (.ref C)
 have hT:(⟨h,g,d,t,os⟩:Shared).TypeIs (.ref C) "type":=⟨_,hC,rfl⟩
 refine codeAny_of_tree ?_
 show wpAny _ _ (callAny (.ref C) _) _ _ _
 repeat (any_goals (first | assumption | with_reducible refine wpAny_loadPart_at hC ?_ | wp_step))
 refine⟨rfl,?_⟩
 refine codeAny_call_builtin_at (Code.quiet_builtin _ (by decide +kernel)) entry_typeCall (wpAny_check_type_call_sub hC (type_call_exc F T hC hn hni hb hrest ?_))
 exact hq
end
end L2
set_option maxHeartbeats 4000000
namespace L2
open PySem PySem.Spec PyProof.Rows
open PySem.W (clsIn findIn takerIn InstAt)
open PySem.Builtin PySem.Builtin.ObjectAttr PySem.Builtin.Getset_descriptor
section
variable{K:PySem.W.Frag}{prog:Program}{w:World}{A:Around}{E:Value->Shared->Prop}{s:Shared}{x C:Addr}{name:Str}{v:Value}{R:Result->Shared->Prop}
noncomputable abbrev veTail:List Value:=[.type "ValueError",.type "Exception",.type "BaseException",.type "object"]
noncomputable def onlyVE:List Value->Bool
 | .ref _::r=>onlyVE r
 | l=>l == veTail
theorem refuse_VE(self:Value):∀ {l:List Value},onlyVE l=true->refuseLoop self "__setattr__" l=pure ()
 | [],e=>by simp[onlyVE]at e
 | a::r,e=>by
  cases a with
  | ref c=>rw[refuseLoop_ref];exact refuse_VE self e
  | _=>rw[eq_of_beq (show(_ == veTail)=true from e)];exact PySem.F.store_ValueError.passes self
theorem has_VE:∀ {l:List Value},onlyVE l=true->l.contains (.type "object")=true
 | [],e=>by simp[onlyVE]at e
 | a::r,e=>by
  cases a with
  | ref c=>rw[List.contains_cons,has_VE (l:=r) e,Bool.or_true]
  | _=>rw[eq_of_beq (show(_ == veTail)=true from e)];decide
theorem osa_exc{ox:Obj}{od:Option Obj}{tk:Tok}{cd:ClassData}(X:K.In s.heap)(I:InstAt s.heap x ox C od)(hc:clsIn K C=some cd)(ho:onlyVE cd.mro=true)(ht:takerIn K C name=some none)
  (h:∀ b,wpAny (model prog w) A.in1 (storeInOwnDict (.ref x) (.ref C) (.str name tk) name v b) (fun fin s'=>match fin with | .done f=>R (.ok f) s' | .again c'=>c'.quiet=true/\codeAny (model prog w) A c' R s') (fun e s'=>R (.error e) s') s) :
  codeAny (model prog w) A (.call (.builtin "object.__setattr__") ⟨[.ref x,.str name tk,v],[]⟩) R s:=by
 have SF:=PySem.F.store_object
 have ne:cd.mro.isEmpty=false:=by cases q:cd.mro with
  | nil=>rw[q]at ho;simp[onlyVE]at ho
  | cons _ _=>rfl
 have sub:PySem.W.Looks (model prog w) s.heap (isInstance (.ref x) (.type "object")) true:=I.type.andThen (PySem.W.looks_mroIn X (by unfold PySem.W.mroIn;rw[hc,Option.bind_some,if_neg (by rw[ne];decide),has_VE ho]))
 refine codeAny_call_builtin SF.slot.plain SF.entry (@PySem.W.check_slot (model prog w) _ _ s _ _ _ (.ref x) [.str name tk,v] [] _ SF.kind SF.split sub (SF.args _ _ _) ?_)
 obtain⟨attr,ha,hr⟩:=Option.bind_eq_some_iff.mp ht
 have hm:PySem.W.Looks (model prog w) s.heap (mroOf (.ref C)) cd.mro:=(PySem.W.looks_clsIn X hc).andThen .now
 have L3:PySem.W.Looks (model prog w) s.heap (storeTaker? attr) none:=by
  cases attr with
  | none=>exact .now
  | some a=>
   obtain⟨b,hb,e⟩:=Option.map_eq_some_iff.mp hr
   refine(PySem.W.looks_takesIn X hb).andThen ?_
   cases b with
   | true=>cases e
   | false=>exact .now
 rw[PySem.W.osa_eq,refuse_eq]
 refine wpAny_bind (wpAny_bind (I.type.here (wpAny_bind (hm.here ?_))))
 rw[refuse_VE _ ho]
 refine wpAny_pure (wpAny_bind (I.type.here (wpAny_bind ((PySem.W.looks_findIn X ha).here (wpAny_bind (L3.here ?_))))))
 exact h _
theorem set_exc{vs:Array Value}{sl:Array (Option Value)}{cd:ClassData}{Q:Unit->Shared->Prop}(X:K.In s.heap)(hx:s.heap.get? x=some ⟨.ref C,none,.fields vs,sl⟩)(hc:clsIn K C=some cd)(ho:onlyVE cd.mro=true)(hd:cd.hasDict=true)
  (hs:findIn K (.ref C) "__setattr__"=some (some (.builtin "object.__setattr__"))) (ht:takerIn K C name=some none)
  (h:∀ h' t',h'.get? x=some ⟨.ref C,some s.heap.objs.size,.fields vs,sl⟩->h'.Ns1 s.heap.objs.size (fun y=>if y=name then some v else none)->(∀ b o,b≠x->s.heap.get? b=some o->h'.get? b=some o)->Q () { s with heap:=h',toks:=t' }) :
  wpAny (model prog w) A (setAttr (.ref x) name v) Q E s:=by
 have I:InstAt s.heap x ⟨.ref C,none,.fields vs,sl⟩ C none:=⟨hx,rfl,rfl,trivial⟩
 refine PySem.W.set_plain X I hs (osa_exc (s:={ s with toks:=s.toks + 1 }) X I hc ho ht fun b => ?_)
 have hx₁:(s.heap.push { cls:=.type "dict",data:=.dict #[] }).get? x=some ⟨.ref C,none,.fields vs,sl⟩:=Heap.get?_push_of_some _ hx
 have hxs:x≠s.heap.objs.size:=Nat.ne_of_lt (Heap.lt_size hx)
 refine wpAny_bind (wpAny_pure (wpAny_bind (wpAny_bind (wpAny_loadPart hx (wpAny_bind (PySem.W.Looks.here (s:={ s with toks:=s.toks + 1 }) (PySem.W.looks_clsIn X hc) ?_))))))
 rw[hd]
 refine wpAny_bind (wpAny_alloc' (wpAny_bind (wpAny_update' hx₁ (wpAny_pure ?_))))
 have hgd:((s.heap.push { cls:=.type "dict",data:=.dict #[] }).update x fun o=>{ o with dict:=some s.heap.objs.size }).get? s.heap.objs.size=some { cls:=.type "dict",data:=.dict #[] }:=
  (Heap.get?_update_ne _ _ _ _ hxs.symm).trans (Heap.get?_push_at rfl rfl)
 have hnd:((s.heap.push { cls:=.type "dict",data:=.dict #[] }).update x fun o=>{ o with dict:=some s.heap.objs.size }).Ns s.heap.objs.size (fun _=>none):=
  ⟨_,#[],_,hgd,rfl,fun e he=>absurd he (by simp),fun _=>rfl⟩
 have hxd:((s.heap.push { cls:=.type "dict",data:=.dict #[] }).update x fun o=>{ o with dict:=some s.heap.objs.size }).get? x=some ⟨.ref C,some s.heap.objs.size,.fields vs,sl⟩:=Heap.get?_update_self _ hx₁ rfl
 have hkp:∀ b o,b≠x->s.heap.get? b=some o->((s.heap.push { cls:=.type "dict",data:=.dict #[] }).update x fun o=>{ o with dict:=some s.heap.objs.size }).get? b=some o:=fun b o hb e=>
  (Heap.get?_update_ne _ _ _ _ hb).trans (Heap.get?_push_of_some _ e)
 show wpAny _ _ (storeInDict s.heap.objs.size (.str name s.toks) name v) _ _ _
 unfold storeInDict newKeyGuard
 refine wpAny_bind (wpAny_pure (wpAny_bind (wpAny_nsSet1 (Heap.Ns1.of_empty hnd) fun h' hn' hsb => ?_)))
 obtain⟨oD,esD,epD,hoD,hdD,hcD⟩:=hn'.count (Within.cons name v Within.nil)
 refine wpAny_bind (wpAny_lookBehind hoD (by rw[hdD];exact pastItsLine_dict (Nat.le_trans hcD (by rw[List.length_cons,List.length_nil,sizeLine_eq];omega))) ?_)
 refine wpAny_pure (h h' _ ((hsb.2 x hxs).trans hxd) hn' fun b o hb e=>(hsb.2 b (Nat.ne_of_lt (Heap.lt_size e))).trans (hkp b o hb e))
end
end L2
set_option maxHeartbeats 4000000
namespace L2
open PySem PySem.Spec PyProof.Rows
section
variable{prog:Program}{w:World}{A:Around}{R:Result->Shared->Prop}{h:Heap}{g:Array GenState}{d:Drawn}{t:Nat}{os:OsState}
variable{nm q:Str}{C N e:Addr}{bs bm bmB:List Value}{hdct:Bool}{sn:List Str}{sub:List Value}{ab:Bool}{col:Option Bool}{dd od:Option Addr}{k0 k1 k2 k3 k5:Option Value}{B newId initId:String}{a0:Addr}{sl:Array (Option Value)}
theorem exc_base_init(F:ExcBaseFacts B newId initId bmB)(T:OwnTail h bmB bm){rest:List Value}
  (hC:h.get? C=some (excClassObj nm q C N bs bm hdct sn sub ab col dd k0 k1 k2 k3 k5 newId)) (he:h.get? e=some ⟨.ref C,od,.fields #[.ref a0,.none,.none,.none,.bool false,.none],sl⟩) (hrest:rest.length<=sizeLine)
  (hq:∀ h',h'.get? e=some ⟨.ref C,od,.fields #[.ref h.objs.size,.none,.none,.none,.bool false,.none],sl⟩->h'.get? h.objs.size=some { cls:=.type "tuple",data:=.seq rest.toArray }->(∀ b o,b≠e->h.get? b=some o->h'.get? b=some o)->R (.ok (.ret .none)) ⟨h',g,d,t,os⟩) :
  codeAny (model prog w) A (.call (.builtin initId) ⟨.ref e::rest,[]⟩) R ⟨h,g,d,t,os⟩:=by
 refine codeAny_call_builtin F.init.plain F.initEntry (wpAny_check_init_subT F T hC he rfl ?_)
 have he1:=Heap.get?_push_of_some (h:=h) { cls:=.type "tuple",data:=.seq rest.toArray } he
 have hne:h.objs.size≠e:=Nat.ne_of_gt (Heap.lt_size he)
 wp_walk
 refine hq _ ?_ ?_ fun b o hb e1 => ?_
 ·exact Heap.get?_update_self _ he1 rfl
 ·rw[Heap.get?_update_other _ _ (Ne.symm hne)]
  exact Heap.get?_push_at rfl rfl
 ·rw[Heap.get?_update_other _ _ (Ne.symm hb)]
  exact Heap.get?_push_of_some _ e1
end
end L2
set_option maxHeartbeats 4000000
namespace L2
open PySem PySem.Spec PyProof.Rows
open PySem.W (clsIn findIn takerIn InstAt Looks mroIn)
structure XGet(K:PySem.W.Frag)(C:Addr):Prop where
 ga:findIn K (.ref C) "__getattribute__"=some (some (.builtin "BaseException.__getattribute__"))
 gn:findIn K (.ref C) "__getattr__"=some none
 be:mroIn K C (.type "BaseException")=some true
section
variable{prog:Program}{w:World}{A:Around}{E:Value->Shared->Prop}{h:Heap}{g:Array GenState}{d:Drawn}{t:Nat}{os:OsState}{K:PySem.W.Frag}{x C:Addr}{ox:Obj}{od:Option Obj}{nmv:Value}
theorem check_ga{Q:Unit->Shared->Prop}(X:K.In h)(I:InstAt h x ox C od)(G:XGet K C)(hq:Q () ⟨h,g,d,t,os⟩):wpAny (model prog w) A (checkBuiltinCall "BaseException.__getattribute__" ⟨[.ref x,nmv],[]⟩) Q E ⟨h,g,d,t,os⟩:=by
 have hk:builtinKind "BaseException.__getattribute__"=some .slot:=by decide +kernel
 have hsplit:splitId "BaseException.__getattribute__"=some ("BaseException","__getattribute__"):=by decide +kernel
 have ha:=F.args_bexc_ga (.ref x) nmv
 have L:Looks (model prog w) h (isInstance (.ref x) (.type "BaseException")) true:=(I.type).andThen (PySem.W.looks_mroIn X G.be)
 simp only[checkBuiltinCall,hk,hsplit]
 refine wpAny_bind (L.at ?_)
 repeat (any_goals (first | assumption | wp_step))
theorem call_ga{v:Value}{t':Nat}{R:Result->Shared->Prop}(X:K.In h)(I:InstAt h x ox C od)(G:XGet K C)(hf:∀ (Q:Fin->Shared->Prop) (E:Value->Shared->Prop),Q (.done (.ret v)) ⟨h,g,d,t',os⟩->wpAny (model prog w) A.in1 (Builtin.«object.__getattribute__» ⟨[.ref x,nmv],[]⟩) Q E ⟨h,g,d,t,os⟩)
  (hq:R (.ok (.ret v)) ⟨h,g,d,t',os⟩):codeAny (model prog w) A (.call (.builtin "BaseException.__getattribute__") ⟨[.ref x,nmv],[]⟩) R ⟨h,g,d,t,os⟩:=
 codeAny_call_builtin F.attr_ValueError.ga.plain F.entry_bexc_ga (check_ga X I G (hf _ _ hq))
theorem by_ga{v:Value}{t':Nat}{fill expr:Bool}{Q:Value->Shared->Prop}(X:K.In h)(I:InstAt h x ox C od)(G:XGet K C)(hf:∀ (A:Around) (Q:Fin->Shared->Prop) (E:Value->Shared->Prop),Q (.done (.ret v)) ⟨h,g,d,t',os⟩->wpAny (model prog w) A (Builtin.«object.__getattribute__» ⟨[.ref x,nmv],[]⟩) Q E ⟨h,g,d,t,os⟩)
  (hh:handedOut v=pure v) (hq:Q v ⟨h,g,d,t',os⟩):wpAny (model prog w) A (getAttrBy (.ref x) nmv fill expr) Q E ⟨h,g,d,t,os⟩:=by
 have L0:=I.type (M:=model prog w)
 have L1:=PySem.W.looks_findIn (M:=model prog w) X G.ga
 have L2:=PySem.W.looks_findIn (M:=model prog w) X G.gn
 have f3:=F.attr_ValueError.ga.bind (.ref x)
 have hx0:(expr && onTheHeap (Value.builtin "BaseException.__getattribute__"))=false:=by cases expr<;>rfl
 have hx2:(Value.builtin "BaseException.__getattribute__" == Value.builtin "object.__getattribute__")=false:=by decide +kernel
 unfold getAttrBy
 refine wpAny_holding (wpAny_bind (L0.at (wpAny_bind (L1.at ?_))))
 show wpAny _ _ (if (onTheHeap (.ref C) && Value.builtin "BaseException.__getattribute__" == Value.builtin "object.__getattribute__")=true then _ else _) _ _ _
 rw[if_neg (by rw[hx2];simp)]
 unfold getAttrByItsOwn hookBefore
 rw[if_pos (by rfl)]
 refine wpAny_bind (L2.at ?_)
 repeat (any_goals (first | assumption | wp_step))
 refine call_ga X I G (hf _) ?_
 show wpAny _ _ (handedOut v) _ _ _
 rw[hh]
 exact wpAny_pure hq
theorem get_exc{v:Value}{name:Str}{expr:Bool}{Q:Value->Shared->Prop}(X:K.In h)(I:InstAt h x ox C od)(G:XGet K C)(hf:PySem.W.findObj K C od name=some (.value v))(hh:PySem.W.handedIn v=true)(hq:Q v ⟨h,g,d,t + 1,os⟩) :
  wpAny (model prog w) A (getAttr (.ref x) name expr) Q E ⟨h,g,d,t,os⟩:=by
 unfold getAttr
 refine wpAny_bind (wpAny_mkText (by_ga X I G (fun A' Q' E' q => ?_) (PySem.W.handedOut_of hh) hq))
 have L0:=I.type (M:=model prog w)
 have L1:=PySem.W.looks_find (M:=model prog w) X I hf
 unfold Builtin.«object.__getattribute__»
 refine wpAny_bind (wpAny_pure (wpAny_bind (wpAny_pure (wpAny_bind (L0.at (wpAny_bind (L1.at ?_)))))))
 exact wpAny_pure q
theorem class_exc{od:Obj}{Q:Option Value->Shared->Prop}(X:K.In h)(I:InstAt h x ox C (some od))(G:XGet K C)(hdct:PySem.W.hasDictIn K C=true)(ha:findIn K (.ref C) "__class__"=some (some (.builtin "object.__class__")))
  (hn:PySem.W.specialIn K (.builtin "object.__class__") "__get__"=some (some (.builtin "getset_descriptor.__get__"))) (htk:PySem.W.takesIn K (.builtin "object.__class__")=some true) (hm:mroIn K C (.type "object")=some true)
  (hq:Q (some (.ref C)) ⟨h,g,d,t + 1,os⟩):wpAny (model prog w) A (getAttr? (.ref x) "__class__") Q E ⟨h,g,d,t,os⟩:=by
 have hf:PySem.W.findObj K C (some od) "__class__"=some (.bind (.builtin "getset_descriptor.__get__") (.builtin "object.__class__")):=PySem.W.findObj_data (by obtain⟨cd,hc,_⟩:=PySem.W.any_some hdct;rw[hc];rfl) ha hn htk
 unfold getAttr? getAttrBy?
 refine wpAny_bind (wpAny_mkText (wpAny_bind (wpAny_attempt (by_ga (t':=t + 1) X I G (fun A' Q' E' q => ?_) rfl (wpAny_pure hq)))))
 have L0:=I.type (M:=model prog w)
 have L1:=PySem.W.looks_find (M:=model prog w) X I hf
 unfold Builtin.«object.__getattribute__»
 refine wpAny_bind (wpAny_pure (wpAny_bind (wpAny_pure (wpAny_bind (L0.at (wpAny_bind (L1.at ?_)))))))
 show wpAny _ _ (holding [.builtin "object.__class__"] (call (.builtin "getset_descriptor.__get__") [.builtin "object.__class__",.ref x,.ref C]) >>= ret) _ _ _
 exact wpAny_bind (wpAny_holding (wpAny_call (PySem.W.class_get (s:=⟨h,g,d,t + 1,os⟩) (ox:=ox) (od:=some od) X I hm (wpAny_pure q))))
theorem kitx_exc{ox od:Obj}(G:XGet K C)(hdct:PySem.W.hasDictIn K C=true)(ha:findIn K (.ref C) "__class__"=some (some (.builtin "object.__class__")))
  (hn:PySem.W.specialIn K (.builtin "object.__class__") "__get__"=some (some (.builtin "getset_descriptor.__get__"))) (htk:PySem.W.takesIn K (.builtin "object.__class__")=some true) (hm:mroIn K C (.type "object")=some true) :
  PySem.W.KitX K (.ref x) (.ref C) (fun h=>InstAt h x ox C (some od)) where
 ty:=fun _ _ _ I=>I.type
 it:=fun _ _ X _=>by
  obtain⟨cdD,hcD,_⟩:=PySem.W.any_some hdct
  unfold PySem.W.clsIn at hcD
  split at hcD
  ·rename_i c' d' cd' sl' ho
   intro A' Q' E' s' k q
   unfold isType loadHead
   exact wpAny_bind (wpAny_loadPart (k _ _ (X _ _ ho)) (wpAny_pure q))
  ·cases hcD
 ne:=fun h tp dd its n sl X htp=>by
  obtain⟨cdD,hcD,_⟩:=PySem.W.any_some hdct
  refine Bool.eq_false_iff.mpr fun q => ?_
  have e:C=tp:=Value.ref.inj (beq_iff_eq.mp q)
  subst e
  unfold PySem.W.clsIn at hcD
  split at hcD
  ·rename_i c' d' cd' sl' ho
   have z:=(X _ _ ho).symm.trans htp
   cases z
  ·cases hcD
 ca:=fun {_ _ _ _ _ s} X I k=>by
  obtain⟨h,g,d,t,os⟩:=s
  exact class_exc X I G hdct ha hn htk hm k
end
end L2
set_option maxHeartbeats 4000000
namespace L2
open PySem PySem.Spec PyProof.Rows
open PySem.W (clsIn findIn takerIn InstAt)
structure XCls(K:PySem.W.Frag)(C N fI:Addr):Prop where
 ex:∃ (nm q:Str) (bs bm:List Value) (sn:List Str) (sub:List Value) (ab:Bool) (col:Option Bool) (dd:Option Addr) (k0 k1 k2 k3 k5:Option Value),
  K.lookup C=some (excClassObj nm q C N bs bm true sn sub ab col dd k0 k1 k2 k3 k5 "ValueError.__new__")/\(∀ h:Heap,K.In h->OwnTail h veTail bm)
 cd:∃ cd,clsIn K C=some cd/\onlyVE cd.mro=true/\cd.hasDict=true
 sa:findIn K (.ref C) "__setattr__"=some (some (.builtin "object.__setattr__"))
 xg:XGet K C
 hd:PySem.W.hasDictIn K C=true
 ns:∀ h:Heap,K.In h->∃ mN,h.Ns N mN/\mN "__init__"=some (.ref fI)
 kp:PySem.W.keepIn K (.ref C)=true
 fn:PySem.W.typeIn K (.ref fI)=some (.type "function")
noncomputable def excObj(C:Addr)(od:Option Addr)(t:Addr):Obj:=⟨.ref C,od,.fields #[.ref t,.none,.none,.none,.bool false,.none],#[]⟩
section
variable{X:Cx}{pins:List (Addr×Obj)}{σ:St}{H:Hp}{s:Shared}{e C N fI t:Addr}{fld:Str}
theorem Inv.pinE(I:Inv X [] σ H s){o:Obj}(h:s.heap.get? e=some o)(hn:H e=none)(hl:e≠X.env.locals)(hf:e∉X.fs)(hd:∀ v,o.data≠.cell v):Inv X [(e,o)] σ H s:=
 ⟨I.ok,I.os,I.bare,I.base,I.loc,I.cell,I.free,I.freeC,fun p hp=>by
  rcases List.mem_append.mp hp with q | q
  ·exact I.pin p (by simp[q])
  ·rw[List.mem_singleton.mp q];exact⟨h,hn,hl,hf,hd⟩,I.hok,I.len⟩
theorem Inv.unpin(I:Inv X pins σ H s):Inv X [] σ H s:=
 ⟨I.ok,I.os,I.bare,I.base,I.loc,I.cell,I.free,I.freeC,fun p hp=>I.pin p (by rw[List.append_nil]at hp;simp[hp]),I.hok,I.len⟩
theorem setx_ok{Q:Unit->Shared->Prop}{E:Value->Shared->Prop}{A:Around}{v:V}{u:Value}(I:Inv X [(e,excObj C none t)] σ H s)(T:XCls X.K C N fI)(na:NoAttr X.K C fld)(he:e∈X.ex\/X.s₀.heap.objs.size<=e)(hcl:∀ x c,X.env.cells.lookup x=some c->c≠e)(hpn:∀ p∈X.pn,p.1≠e)(r:RelV v u)
  (h:∀ dd s',H dd=none->dd≠e->Inv X [(e,excObj C (some dd) t)] σ (upd H dd (.xd [(fld,v)])) s'->Q () s'):wpAny (model X.prog X.w) A (setAttr (.ref e) fld u) Q E s:=by
 obtain⟨cd,c1,c2,c3⟩:=T.cd
 obtain⟨p1,p2,p3,p4,p5⟩:=I.pin (e,excObj C none t) (by simp)
 dsimp only at p1 p2 p3 p4 p5
 have hfr:H s.heap.objs.size=none:=I.hok.fresh (Nat.le_refl _)
 have hlt:=Heap.lt_size p1
 have hne:s.heap.objs.size≠e:=Nat.ne_of_gt hlt
 refine set_exc I.kIn p1 c1 c2 c3 T.sa na.taker fun h' t' g1 g2 g3=>h s.heap.objs.size _ hfr hne ?_
 have I0:=I.unpin
 have keep:∀ b o,b∉[e]->s.heap.get? b=some o->h'.get? b=some o:=fun b o hb q=>g3 b o (by simpa using hb) q
 have J:Inv X [] σ (upd H s.heap.objs.size (.xd [(fld,v)])) { s with heap:=h',toks:=t' }:=by
  refine I0.step (ch:=[e]) (fun b hb => ?_) (fun b o _ _ hb q _=>keep b o hb q) (fun b o _ _ hb q _=>⟨o.slots,keep b o hb q⟩) (fun b o hb q hn => ?_) (fun b o hb q=>⟨o,keep b o hb q⟩) (fun b xs q => ?_) (fun b o u' q => ?_) (fun b ps q => ?_) (fun m hn => ?_) ?_ I.bare
  ·rw[List.mem_singleton.mp hb]
   exact⟨he,p3,hcl,fun p hp=>hpn p (by simpa using hp)⟩
  ·rw[upd_ne (Nat.ne_of_lt (Heap.lt_size q))];exact hn
  ·rw[upd_ne (fun z=>by rw[z,hfr]at q;cases q)];exact q
  ·rw[upd_ne (fun z=>by rw[z,hfr]at q;cases q)];exact q
  ·exact⟨#[],by rw[upd_ne (fun z=>by rw[z,hfr]at q;cases q),q];simp⟩
  ·obtain⟨o,es,ep,e1,e2⟩:=hn
   exact⟨o,es,ep,keep _ o (by simp[Ne.symm p3]) e1,e2⟩
  ·intro a o q
   by_cases ha:a=s.heap.objs.size
   ·subst ha
    rw[upd_same]at q
    cases q
    refine⟨_,g2,fun f => ?_⟩
    show RelO ([(fld,v)].lookup f) (if f=fld then some u else none)
    by_cases hf:f=fld
    ·rw[hf,if_pos rfl];simp[List.lookup];exact r
    ·rw[if_neg hf]
     have:(f == fld)=false:=by simpa using hf
     simp[List.lookup,this]
     exact trivial
   ·rw[upd_ne ha]at q
    refine(I.hok a o q).stay (fun b u' hb q'=>keep b u' (fun z => ?_) q') (fun b q' => ?_) fun b xs q' => ?_
    ·rw[List.mem_singleton.mp z]at hb
     rcases hb with hb | hb
     ·rw[← hb,p2]at q;cases q
     ·rw[p2]at hb;cases hb
    ·rw[upd_ne (fun z=>by rw[z,hfr]at q';cases q')];exact q'
    ·rw[upd_ne (fun z=>by rw[z,hfr]at q';cases q')];exact q'
 exact J.pinE g1 (by rw[upd_ne (Ne.symm hne)];exact p2) p3 p4 (fun v=>by simp[excObj])
theorem getx_ok{Q:Value->Shared->Prop}{E:Value->Shared->Prop}{A:Around}{v:V}{b:Bool}{dd:Addr}{o:Obj}{fs:List (Str×V)}(I:Inv X pins σ H s)(T:XCls X.K C N fI)(na:NoAttr X.K C fld)(he:s.heap.get? e=some o)(ho:o.cls=.ref C)(hod:o.dict=some dd)(hoc:PySem.W.notCls o=true)
  (hd:H dd=some (.xd fs)) (hl:fs.lookup fld=some v) (h:∀ u,RelV v u->Inv X pins σ H { s with toks:=s.toks + 1 }->Q u { s with toks:=s.toks + 1 }):wpAny (model X.prog X.w) A (getAttr (.ref e) fld b) Q E s:=by
 obtain⟨mA,n,r⟩:=I.hok dd _ hd
 obtain⟨u,hu,ru⟩:=RelO.some_of (v:=v) (o:=mA fld) (by rw[← hl];exact r fld)
 obtain⟨od,g,l⟩:=lookIn_ns n
 have J:InstAt s.heap e o C (some od):=⟨he,ho,hoc,by rw[hod];exact g⟩
 have J2:=h u ru (I.tok _)
 have K2:=I.kIn
 obtain⟨hh,gg,dr,tk,os⟩:=s
 exact get_exc K2 J T.xg (PySem.W.findObj_own T.hd na (by rfl) (by rw[l,hu])) (handed_of ru) J2
end
end L2
set_option maxHeartbeats 4000000
namespace L2
open PySem PySem.Spec PyProof.Rows
open PySem.W (clsIn findIn takerIn InstAt)
section
variable{X:Cx}{pins:List (Addr×Obj)}{σ:St}{H:Hp}{s:Shared}{e C N fI t dd:Addr}{fld:Str}{o o':Obj}{h':Heap}
structure Free(X:Cx)(e:Addr):Prop where
 new:e∈X.ex\/X.s₀.heap.objs.size<=e
 cell:∀ x c,X.env.cells.lookup x=some c->c≠e
 pn:∀ p∈X.pn,p.1≠e
theorem Inv.chE{t':Nat}(I:Inv X [(e,o)] σ H s)(F:Free X e)(h1:h'.get? e=some o')(hk:∀ b ob,b≠e->s.heap.get? b=some ob->h'.get? b=some ob)(hd:∀ v,o'.data≠.cell v):Inv X [(e,o')] σ H { s with heap:=h',toks:=t' }:=by
 obtain⟨p1,p2,p3,p4,p5⟩:=I.pin (e,o) (by simp)
 dsimp only at p1 p2 p3 p4 p5
 have I0:=I.unpin
 have keep:∀ b o,b∉[e]->s.heap.get? b=some o->h'.get? b=some o:=fun b o hb q=>hk b o (by simpa using hb) q
 have J:Inv X [] σ H { s with heap:=h',toks:=t' }:=by
  refine I0.step (ch:=[e]) (fun b hb => ?_) (fun b o _ _ hb q _=>keep b o hb q) (fun b o _ _ hb q _=>⟨o.slots,keep b o hb q⟩) (fun b o hb q hn=>hn) (fun b o hb q=>⟨o,keep b o hb q⟩) (fun b xs q=>q) (fun b o u' q=>q) (fun b ps q=>⟨#[],by rw[q];simp⟩) (fun m hn => ?_) ?_ I.bare
  ·rw[List.mem_singleton.mp hb]
   exact⟨F.new,p3,F.cell,fun p hp=>F.pn p (by simpa using hp)⟩
  ·obtain⟨o,es,ep,e1,e2⟩:=hn
   exact⟨o,es,ep,keep _ o (by simp[Ne.symm p3]) e1,e2⟩
  ·intro a u q
   refine(I.hok a u q).stay (fun b u' hb q'=>keep b u' (fun z => ?_) q') (fun b q'=>q') fun b xs q'=>q'
   rw[List.mem_singleton.mp z]at hb
   rcases hb with hb | hb
   ·rw[← hb,p2]at q;cases q
   ·rw[p2]at hb;cases hb
 exact J.pinE h1 p2 p3 p4 hd
structure XBase(K:PySem.W.Frag)(mg:Str->Option Value)(bn:Str)(B0:Addr):Prop where
 mg:mg bn=some (.ref B0)
 ga:PySem.W.specialIn K (.ref B0) "__getattribute__"=some (some (.builtin "type.__getattribute__"))
 rd:PySem.W.readsIn K B0 (.type "type")=true
 ini:PySem.W.findCls K (.ref B0) (.type "type") "__init__"=some (.val (.builtin "ValueError.__init__"))
theorem basei_ok{bn:Str}{B0:Addr}{v:V}{fs:List (Str×V)}{i:Nat}{sf:Str}{p1 p2 p3 p4 apos pos:Pos}{pl:Sem Bool}{Q:Value->Shared->Prop}(I:Inv X [(e,excObj C (some dd) t)] σ H s)(F:Free X e)(T:XCls X.K C N fI)(B:XBase X.K X.mg bn B0)(na:NoAttr X.K C fld)
  (hd:H dd=some (.xd fs)) (hl:fs.lookup fld=some v) (hN:X.N[i]?=some sf) (hv:Vis X.env.scope sf) (hσ:σ[i]?=some (some (.ref e))) (hg:Gl X bn)
  (ht:eval (.Call (.Attribute (.Name bn p1) "__init__" apos) [.Name sf p2,.Attribute (.Name sf p3) fld p4] [] pos) X.env=(do
   let ov ← eval (.Name bn p1) X.env
   standAt apos.atName
   let (f,first) ← holding [ov] (getMethod ov "__init__" pl)
   callWith pos f first (backTo pos (starEach [.Name sf p2,.Attribute (.Name sf p3) fld p4] X.env)) (backToKw pos (keywordEach [] X.env))))
  (h:∀ t' s',Inv X [(e,excObj C (some dd) t')] σ H s'->Q .none s') (hdb:(bn == ("__debug__":Str))=false:=by decide) (hd1:(sf == ("__debug__":Str))=false:=by decide) (hd2:(sf == ("__classdict__":Str))=false:=by decide) :
  wpAny (model X.prog X.w) X.A (eval (.Call (.Attribute (.Name bn p1) "__init__" apos) [.Name sf p2,.Attribute (.Name sf p3) fld p4] [] pos) X.env) Q X.xe s:=by
 refine PySem.W.methodCall_KW (pl:=pl) (ld_glob I hg B.mg ?_ hdb) ht
 refine PySem.W.method_cls I.kIn B.ga (PySem.W.cls_value I.kIn B.rd B.ini (by decide +kernel) ?_)
 have I1:=I.tok (s.toks + 1)
 refine PyProof.Rows.callWith_builtin1 ?_ rfl rfl
 refine Calls.spliced_cons (thn (pe_var (pos:=p2) hN hv hd1 hd2 _ _ σ H (fun w H'=>w=.ref e/\H'=H) I1 ⟨.ref e,hσ,rfl,rfl⟩) fun u s1 ⟨w,H1,J1,r1,hw,hH⟩ => ?_)
 subst hw hH
 cases (show u=Value.ref e from r1)
 refine Calls.spliced_cons (attr_of rfl (thn (pe_var (pos:=p3) hN hv hd1 hd2 _ _ σ H1 (fun w H'=>w=.ref e/\H'=H1) J1 ⟨.ref e,hσ,rfl,rfl⟩) fun u s2 ⟨w,H2,J2,r2,hw,hH⟩ => ?_))
 subst hw hH
 cases (show u=Value.ref e from r2)
 obtain⟨q1,_,_,_,_⟩:=J2.pin (e,excObj C (some dd) t) (by simp)
 refine getx_ok J2 T na q1 rfl rfl rfl hd hl fun u ru J3 => ?_
 refine Calls.spliced_nil ?_
 obtain⟨nm,q,bs,bm,sn,sub,ab,col,dd',k0,k1,k2,k3,k5,hC,ot⟩:=T.ex
 obtain⟨z1,_,_,_,_⟩:=J3.pin (e,excObj C (some dd) t) (by simp)
 refine wpAny_call (exc_base_init PySem.F.excBase_ValueError (ot _ J3.kIn) (J3.kIn _ _ hC) z1 (by show 1<=sizeLine;decide) fun h' g1 g2 g3 => ?_)
 exact h _ _ (J3.chE F g1 g3 (fun v=>by simp[excObj]))
end
end L2
set_option maxHeartbeats 4000000
namespace L2
open PySem PySem.Spec PyProof.Rows
section
variable{X:Cx}{pins:List (Addr×Obj)}{σ:St}{H:Hp}{s:Shared}{e:Addr}
noncomputable def Cx.mk1(X:Cx)(e:Addr):Cx:={ X with ex:=[e] }
theorem Inv.mk1(I:Inv X pins σ H s)(hx:X.ex=[])(h1:e≠X.env.locals)(h2:∀ x c,X.env.cells.lookup x=some c->c≠e)(h3:∀ o,X.base.get? e≠some o)(h4:e∉X.fs):Inv (X.mk1 e) pins σ H s:=
 ⟨⟨I.ok.mod,I.ok.kind,I.ok.glob,I.ok.blt,I.ok.above,I.ok.inj,I.ok.has,I.ok.cab,I.ok.hd,I.ok.frames,I.ok.stk,fun b hb=>by rw[List.mem_singleton.mp hb];exact⟨h1,h2⟩,I.ok.bs,I.ok.bsz,fun b o q hb=>by rw[List.mem_singleton.mp hb]at q;exact h3 o q,fun b hb=>by rw[List.mem_singleton.mp hb];exact h4,I.ok.funs,I.ok.frf⟩,
  I.os,I.bare,I.base.mono (fun _ h=>h) (by rw[hx];simp),I.loc,I.cell,I.free,I.freeC,I.pin,I.hok,I.len⟩
end
section
variable{P:Program}{w:World}{K:PySem.W.Frag}{mg:Str->Option Value}{base:Heap}
theorem init_go{x qual sf pn bn fld:Str}{st:Stmt}{f c C N0 B0:Addr}{fd:FuncData}{k:Nat}{ve:Expr}{a1 a2 p1 p2 p3 p4 apos pos a3 p5:Pos}{pl:Env->Sem Bool}{Post:VK}
  (F:Fun K x qual st f fd) (hcv:fd.code=.ref c) (S:FnScope [sf,pn] [sf,pn] (defScope st)) (T:XCls K C N0 f) (B:XBase K mg bn B0) (na:NoAttr K C fld)
  (hbd:defBody st=[.Assign [.Attribute (.Name sf a1) fld a2] ve a3,.Expr (.Call (.Attribute (.Name bn p1) "__init__" apos) [.Name sf p2,.Attribute (.Name sf p3) fld p4] [] pos) p5])
  (hg:(defScope st).names.lookup bn=some .globalImplicit) (hsf:(defScope st).names.lookup sf=some .local)
  (hsw:∀ env,swapsWith ve (some (.Attribute (.Name sf a1) fld a2)) a3.line env=pure false) (hl:(apos.endLine == pos.line)=true)
  (ht:∀ env:Env,eval (.Call (.Attribute (.Name bn p1) "__init__" apos) [.Name sf p2,.Attribute (.Name sf p3) fld p4] [] pos) env=(do
   let ov ← eval (.Name bn p1) env
   standAt apos.atName
   let (f,first) ← holding [ov] (getMethod ov "__init__" (pl env))
   callWith pos f first (backTo pos (starEach [.Name sf p2,.Attribute (.Name sf p3) fld p4] env)) (backToKw pos (keywordEach [] env))))
  {A:Around} {outer:List Env} {s:Shared} {H:Hp} {u:Value} {v0:V} {e t0:Addr} {R:Result->Shared->Prop}
  (hve:∀ E,∃ tv,PE ((cxOf CX0 P w K mg base [sf,pn] qual (defScope st) f (.ref c) A outer s H E).nox.mk1 e) ve tv/\tv (start [sf,pn] [.ref e,v0]) H Post)
  (hr:Room (k + 1) A) (e0:Env0 P w K mg base A outer s H) (hb:BindsTo s fd ⟨[.ref e,u],[]⟩ [(sf,.ref e),(pn,u)]) (rv:RelV v0 u)
  (he:s.heap.get? e=some (excObj C none t0)) (heb:base.objs.size<=e) (hHe:H e=none) (hef:e∉frs outer)
  (h:∀ v H2 dd t' s',Post v H2->s'.os=s.os->AllBare s'.gens->Un (frs outer) [e] H (upd H2 dd (.xd [(fld,v)])) s.heap s'.heap->HOk P w (upd H2 dd (.xd [(fld,v)])) s'.heap->H2 dd=none->dd≠e ->
   s'.heap.get? e=some (excObj C (some dd) t')->upd H2 dd (.xd [(fld,v)]) e=none->R (.ok (.ret (.ref e))) s')
  (hd0:(bn == ("__debug__":Str))=false:=by decide) (hd1:(sf == ("__debug__":Str))=false:=by decide) (hd2:(sf == ("__classdict__":Str))=false:=by decide) :
  codeAny (model P w) A (.call (.ref f) ⟨[.ref e,u],[]⟩) (PySem.W.InitBack e R) s:=by
 obtain⟨oc,od,kV,doc,pm,an,cdv,ct,osl,rfl,lk,hcd⟩:=F.ex
 obtain rfl:cdv=.ref c:=hcv
 have KX:K.In s.heap:=e0.mod.kin.keeps fun b o e=>(e0.bs b o e).1
 have lim:s.heap.NoLimit:=e0.mod.nolimit.keeps fun b o e=>(e0.bs b o e).1
 have hkind:∀ y∈[sf,pn].zip [.ref e,u],(defScope st).names.lookup y.1=some .local\/((defScope st).names.lookup y.1=some .cell/\((cellsFrom (s.heap.objs.size + 1) (defScope st).names []).lookup y.1).isSome=true):=fun ⟨n,v⟩ hy=>by
  rcases S.par n (List.of_mem_zip hy).1 with q | q
  ·exact .inl q
  ·exact .inr ⟨q,PySem.W.cellsFrom_some _ _ _ (.inl q)⟩
 refine codeAny_call_function hr.depth (KX _ _ lk) rfl S.co S.gen rfl (PySem.W.codeRec_of KX hcd) (hb _ _ _ _ ?_)
 refine wpAny_newFunctionEnv_cells S.kind hkind fun env hen s1 x => ?_
 subst hen
 refine⟨lim.keeps x.toInCall.keep,codeAny_func ?_⟩
 have E:XK:=fun _ _ _=>False
 have I:Inv (cxOf CX0 P w K mg base [sf,pn] qual (defScope st) f (.ref c) A outer s H E) [] (start [sf,pn] [.ref e,v0]) H s1:=inv_start (us:=[.ref e,u]) S hr.hd e0 rfl (.cons rfl (.cons rv .nil)) x
 have hlt:=Heap.lt_size he
 have hloc:e≠s.heap.objs.size:=Nat.ne_of_lt hlt
 have hcl:∀ (y:Str) (cc:Addr),(envOfC qual (defScope st) s.heap.objs.size f (.ref c)).cells.lookup y=some cc->cc≠e:=fun y cc hy z=>by
  have:=I.ok.cab y cc rfl hy
  rw[z]at this
  exact absurd (Nat.lt_of_lt_of_le hlt this) (Nat.lt_irrefl _)
 have I1:=(I.wish (fun _ _=>False)).mk1 (e:=e) rfl hloc hcl (fun o q=>absurd (Nat.lt_of_lt_of_le (Heap.lt_size q) heb) (Nat.lt_irrefl _)) hef
 have I2:=I1.pinE (x.toInCall.keep _ _ he) hHe hloc hef (fun v=>by simp[excObj])
 obtain⟨tv,hpe,htv⟩:=hve E
 have run:wpAny (model P w) (A.deeper (envOfC qual (defScope st) s.heap.objs.size f (.ref c))) (execs (defBody st) (envOfC qual (defScope st) s.heap.objs.size f (.ref c)))
   (fun fl s'=>fl=.next/\∃ v H2 dd t',Post v H2/\H2 dd=none/\dd≠e/\Inv ((cxOf CX0 P w K mg base [sf,pn] qual (defScope st) f (.ref c) A outer s H E).nox.mk1 e) [(e,excObj C (some dd) t')] (start [sf,pn] [.ref e,v0]) (upd H2 dd (.xd [(fld,v)])) s') (fun _ _=>False) s1:=by
  generalize hX:(cxOf CX0 P w K mg base [sf,pn] qual (defScope st) f (.ref c) A outer s H E).nox.mk1 e=X at *
  have xe:X.env=envOfC qual (defScope st) s.heap.objs.size f (.ref c):=by rw[← hX];rfl
  have xN:X.N=[sf,pn]:=by rw[← hX];rfl
  have xA:X.A=A.deeper (envOfC qual (defScope st) s.heap.objs.size f (.ref c)):=by rw[← hX];rfl
  have xK:X.K=K:=by rw[← hX];rfl
  have xm:X.mg=mg:=by rw[← hX];rfl
  have xp:X.prog=P:=by rw[← hX];rfl
  have xw:X.w=w:=by rw[← hX];rfl
  have xx:X.xe=fun _ _=>False:=by rw[← hX];rfl
  have fr:Free X e:=⟨.inl (by rw[← hX];simp[Cx.mk1]),by rw[xe];exact hcl,by rw[← hX];intro p hp;cases hp⟩
  rw[← xA,← xe,← xp,← xw,← xx,hbd]
  rw[← xK]at T B na
  rw[← xm]at B
  have hN:X.N[0]?=some sf:=by rw[xN];rfl
  have hv:Vis X.env.scope sf:=.inl (by rw[xe];exact hsf)
  have hgl:Gl X bn:=by show X.env.scope.names.lookup bn=_;rw[xe];exact hg
  refine wpAny_execs_cons (plainObj_wpAny_Assign_Attribute (thn (hpe _ s1 _ H Post I2 htv) fun u1 s2 ⟨v,H2,J2,r2,q2⟩ => ?_) (hsw _))
  refine thn (pe_var (pos:=a1) hN hv hd1 hd2 _ _ _ H2 (fun z H'=>z=.ref e/\H'=H2) J2 ⟨.ref e,rfl,rfl,rfl⟩) fun u2 s3 ⟨z,H3,J3,r3,hz,hH⟩ => ?_
  subst hz hH
  cases (show u2=Value.ref e from r3)
  refine setx_ok J3 T na fr.new fr.cell fr.pn r2 fun dd s4 hdd hne J4 => ?_
  refine wpAny_execs_cons (wpAny_Expr_any (basei_ok (v:=v) (fs:=[(fld,v)]) J4 fr T B na upd_same (by simp[List.lookup]) hN hv rfl hgl (ht X.env) (fun t' s5 J5 => ?_) hd0 hd1 hd2) J4.quiet (by rfl))
  exact wpAny_execs_nil ⟨rfl,v,_,dd,t',q2,hdd,hne,J5⟩
 refine wpAny_mono run (fun fl s' hs => ?_) fun _ _ z=>z.elim
 obtain⟨rfl,v,H2,dd,t',q2,hdd,hne,J⟩:=hs
 obtain⟨g1,g2,_,_,_⟩:=J.pin (e,excObj C (some dd) t') (by simp)
 exact⟨rfl,h v H2 dd t' s' q2 J.os J.bare J.base J.hok hdd hne g1 g2⟩
end
end L2
set_option maxHeartbeats 4000000
namespace L2
open PySem PySem.Spec PyProof.Rows
section
variable{M:Model}{A:Around}{E:Value->Shared->Prop}{s:Shared}
structure Flown(l:List Env)(e:Addr)(oe:Obj)(T:Addr)(h h':Heap):Prop where
 keep:∀ b o,b≠e->b∉frs l->h.get? b=some o->h'.get? b=some o
 slot:∀ b o,b≠e->h.get? b=some o->∃ sl,h'.get? b=some { o with slots:=sl }
 at_:h'.get? e=some (oe.mapFields (·.setIfInBounds 1 (.ref T)))
 tb:∃ oT ts,h'.get? T=some oT/\oT.data=.fields ts/\ts[3]?=some .none
 new:h.objs.size<=T
noncomputable def Landed(h:Heap)(vs:Array Value):Prop:=vs[1]?=some .none\/∃ T0 oT0 ts0,vs[1]?=some (.ref T0)/\h.get? T0=some oT0/\oT0.data=.fields ts0/\ts0[3]?=some .none
theorem entry_x{base:Heap}{env:Env}{outer:List Env}{L e:Addr}{oe:Obj}{vs:Array Value}{head:Value}{hadNext:Bool}{Q:Unit->Shared->Prop}
  (hfr:A.frames=some (env::outer)) (hl:s.heap.FunFrames base (env::outer)) (hf:env.frame=some L) (he:s.heap.get? e=some oe) (hd:oe.data=.fields vs) (hsz:1 < vs.size)
  (h:∀ h' T,Flown (env::outer) e oe T s.heap h'->Q () { s with heap:=h' }) :
  wpAny M A (do let a ← frameOf env;let pl ← entryPlaceOf L hadNext;let b ← EntryCells.newEntry head a .none (rawInt L) .none pl;setField (.ref e) 1 b) (fun _ s'=>wpAny M A (setFlight (.ref e) none) Q E s') E s:=by
 have hene:e∉frs (env::outer):=fun hm=>by
  obtain⟨_,o,ho,hnf⟩:=hl.mem hm
  rw[he]at ho;injection ho with ho;subst ho;exact hnf vs hd
 refine wpAny_bind (wpAny_frameOf_fun hfr hl hf fun h₁ hs₁ => ?_)
 refine wpAny_bind (wpAny_entryPlaceOf fun pl hpl => ?_)
 unfold EntryCells.newEntry newFields
 refine wpAny_bind (wpAny_newObj_type ?_ (hpl.sizeOk5 _ _ _ _ _))
 have he₁:h₁.get? e=some oe:=(hs₁.2.1 e hene).trans he
 generalize hob:({ cls:=.type "traceback",dict:=none,data:=.fields ([head,.ref L,.none,rawInt L,.none]++(if pl.isEmpty then List.replicate 6 Value.none else pl)).toArray }:Obj)=ob at *
 have hobd:ob.data=.fields ([head,.ref L,.none,rawInt L,.none]++(if pl.isEmpty then List.replicate 6 Value.none else pl)).toArray:=by rw[← hob]
 have hobf:ob.isFreed=false:=by rw[← hob];rfl
 have he₂:=Heap.get?_push_of_some (h:=h₁) ob he₁
 have hTe:h₁.objs.size≠e:=Nat.ne_of_gt (Heap.lt_size he₁)
 refine wpAny_setField he₂ hd hsz ?_
 have hd₃:=Obj.data_mapFields hd (·.setIfInBounds 1 (Value.ref h₁.objs.size))
 have he₃:=Heap.get?_update_self (Obj.mapFields (·.setIfInBounds 1 (Value.ref h₁.objs.size))) he₂ (Obj.isFreed_of_fields hd₃)
 have hT₃:((h₁.push ob).update e (Obj.mapFields (·.setIfInBounds 1 (Value.ref h₁.objs.size)))).get? h₁.objs.size=some ob:=(Heap.get?_update_other _ _ (Ne.symm hTe)).trans (Heap.get?_push_size h₁ hobf)
 unfold setFlight
 refine wpAny_bind (wpAny_field he₃ hd₃ (x:=.ref h₁.objs.size) (by simp[hsz]) ?_)
 rw[if_pos (show(Value.ref h₁.objs.size != Value.none)=true from by simp)]
 refine wpAny_setField hT₃ hobd (by simp) (h _ h₁.objs.size ?_)
 have keep:∀ b o,b≠e->h₁.get? b=some o->(((h₁.push ob).update e (Obj.mapFields (·.setIfInBounds 1 (Value.ref h₁.objs.size)))).update h₁.objs.size (Obj.mapFields (·.setIfInBounds 3 ((none:Option Addr).elim Value.none fun f=>rawInt f)))).get? b=some o:=fun b o hbe hb=>by
  have hbT:h₁.objs.size≠b:=Nat.ne_of_gt (Heap.lt_size hb)
  rw[Heap.get?_update_other _ _ hbT,Heap.get?_update_other _ _ (Ne.symm hbe)]
  exact Heap.get?_push_of_some _ hb
 refine⟨fun b o hb hn q=>keep b o hb ((hs₁.2.1 b hn).trans q),fun b o hb q => ?_,?_,?_,by rw[hs₁.1];exact Nat.le_refl _⟩
 ·obtain⟨sl,q1⟩:=hs₁.2.2 b o q
  exact⟨sl,keep b _ hb q1⟩
 ·rw[Heap.get?_update_other _ _ hTe];exact he₃
 ·exact⟨_,_,Heap.get?_update_self _ hT₃ (Obj.isFreed_of_fields (Obj.data_mapFields hobd _)),Obj.data_mapFields hobd _,by simp⟩
theorem note_x{base:Heap}{env:Env}{outer:List Env}{L e:Addr}{oe:Obj}{vs:Array Value}{Q:Unit->Shared->Prop}
  (hfr:A.frames=some (env::outer)) (hl:s.heap.FunFrames base (env::outer)) (hf:env.frame=some L) (he:s.heap.get? e=some oe) (hd:oe.data=.fields vs) (h1:Landed s.heap vs)
  (h:∀ h' T,Flown (env::outer) e oe T s.heap h'->Q () { s with heap:=h' }) :
  wpAny M A (noteFrame (.ref e) env) (fun _ s'=>wpAny M A (setFlight (.ref e) none) Q E s') E s:=by
 unfold noteFrame
 simp only[hf]
 rcases h1 with h1 | ⟨T0,oT0,ts0,h1,g1,g2,g3⟩
 ·refine wpAny_bind (wpAny_field he hd h1 ?_)
  rw[if_neg (by decide)]
  exact entry_x hfr hl hf he hd (Array.getElem?_eq_some_iff.mp h1).1 h
 ·refine wpAny_bind (wpAny_field he hd h1 ?_)
  rw[if_pos (show(Value.ref T0 != Value.none)=true from by simp)]
  refine wpAny_bind (wpAny_field g1 g2 g3 ?_)
  rw[if_neg (show ¬ ((Value.none == rawInt L)=true) from by simp[rawInt])]
  refine wpAny_bind (wpAny_setField g1 g2 (Array.getElem?_eq_some_iff.mp g3).1 ?_)
  rw[Heap.update_setField_same s.heap T0 oT0 ts0 3 .none g1 g2 g3]
  exact entry_x hfr hl hf he hd (Array.getElem?_eq_some_iff.mp h1).1 h
theorem leaving_x{base:Heap}{env:Env}{outer:List Env}{L e:Addr}{oe:Obj}{vs:Array Value}{Q:Unit->Shared->Prop}
  (hfr:A.frames=some (env::outer)) (hl:s.heap.FunFrames base (env::outer)) (hf:env.frame=some L) (he:s.heap.get? e=some oe) (hd:oe.data=.fields vs) (h1:Landed s.heap vs)
  (h:∀ h' T,Flown (env::outer) e oe T s.heap h'->Q () { s with heap:=h' }):wpAny M A (leaving env (.ref e)) Q E s:=by
 unfold leaving
 exact wpAny_bind (note_x hfr hl hf he hd h1 h)
end
end L2
set_option maxHeartbeats 800000
namespace L2
open PySem PySem.Spec PyProof.Rows
structure XDef(K:PySem.W.Frag)(mg:Str->Option Value)(C N0 f c:Addr)(fd:FuncData)(st:Stmt)(qual fld sf pn:Str)(ve:Expr):Prop where
 fn:∃ x,Fun K x qual st f fd
 cv:fd.code=.ref c
 sc:FnScope [sf,pn] [sf,pn] (defScope st)
 cls:XCls K C N0 f
 bs:Binds K fd [sf,pn] []
 na:NoAttr K C fld
 sl:(defScope st).names.lookup sf=some .local
 d1:(sf == ("__debug__":Str))=false
 d2:(sf == ("__classdict__":Str))=false
 body:∃ (bn:Str) (B0:Addr) (a1 a2 a3 p1 p2 p3 p4 p5 apos pos:Pos) (pl:Env->Sem Bool),XBase K mg bn B0/\(bn == ("__debug__":Str))=false/\(defScope st).names.lookup bn=some .globalImplicit /\
  defBody st=[.Assign [.Attribute (.Name sf a1) fld a2] ve a3,.Expr (.Call (.Attribute (.Name bn p1) "__init__" apos) [.Name sf p2,.Attribute (.Name sf p3) fld p4] [] pos) p5] /\
  (∀ env,swapsWith ve (some (.Attribute (.Name sf a1) fld a2)) a3.line env=pure false)/\(apos.endLine == pos.line)=true /\
  (∀ env:Env,eval (.Call (.Attribute (.Name bn p1) "__init__" apos) [.Name sf p2,.Attribute (.Name sf p3) fld p4] [] pos) env=(do
   let ov ← eval (.Name bn p1) env
   standAt apos.atName
   let (f,first) ← holding [ov] (getMethod ov "__init__" (pl env))
   callWith pos f first (backTo pos (starEach [.Name sf p2,.Attribute (.Name sf p3) fld p4] env)) (backToKw pos (keywordEach [] env))))
section
variable{X:Cx}{pins:List (Addr×Obj)}{σ:St}{H:Hp}{s:Shared}{C N0 f c:Addr}{fd:FuncData}{st:Stmt}{qual fld sf pn:Str}{ve:Expr}{k:Nat}{v0:V}{u:Value}{Post:VK}
theorem make_x(D:XDef X.K X.mg C N0 f c fd st qual fld sf pn ve)(I:Inv X pins σ H s)(hr:Room (k + 2) X.A)(rv:RelV v0 u)
  (hve:∀ (A:Around) (s':Shared) (e:Addr) (E:XK),Room k (A.deeper (envOfC qual (defScope st) s'.heap.objs.size f (.ref c)))->∃ tv,PE ((cxOf CX0 X.prog X.w X.K X.mg X.base [sf,pn] qual (defScope st) f (.ref c) A X.stack s' H E).nox.mk1 e) ve tv/\tv (start [sf,pn] [.ref e,v0]) H Post)
  {Q:Value->Shared->Prop} (h:∀ e dd t v H2 s',Post v H2->Inv X pins σ (upd H2 dd (.xd [(fld,v)])) s'->s'.heap.get? e=some (excObj C (some dd) t)->s.heap.objs.size<=e->upd H2 dd (.xd [(fld,v)]) e=none->H2 dd=none->Q (.ref e) s') :
  wpAny (model X.prog X.w) X.A (call (.ref C) [u]) Q X.xe s:=by
 obtain⟨nm,q,bs,bm,sn,sub,ab,col,dd',k0,k1,k2,k3,k5,hC,ot⟩:=D.cls.ex
 obtain⟨mN,hn,hni⟩:=D.cls.ns _ I.kIn
 obtain⟨x,F⟩:=D.fn
 obtain⟨bn,B0,a1,a2,a3,p1,p2,p3,p4,p5,apos,pos,pl,B,hd0,hg,hbd,hsw,hl,ht⟩:=D.body
 have kx:∀ b o,s.heap.get? b=some o->(excHeap s.heap C [u]).get? b=some o:=fun b o e=>Heap.get?_push_of_some _ (Heap.get?_push_of_some _ e)
 have I2:Inv X pins σ H { s with heap:=excHeap s.heap C [u] }:=I.kept (t':=s.toks) kx
 have hget:(excHeap s.heap C [u]).get? (s.heap.objs.size + 1)=some (excObj C none s.heap.objs.size):=by
  show(excHeap s.heap C [u]).get? (s.heap.objs.size + 1)=some ({ cls:=.ref C,data:=.fields #[.ref s.heap.objs.size,.none,.none,.none,.bool false,.none] }:Obj)
  heap_get
 have hfe:H (s.heap.objs.size + 1)=none:=I.hok.fresh (Nat.le_succ _)
 have hne:∀ b o,s.heap.get? b=some o->b≠s.heap.objs.size + 1:=fun b o q=>Nat.ne_of_lt (Nat.lt_succ_of_lt (Heap.lt_size q))
 have hef:s.heap.objs.size + 1∉frs X.stack:=fun z=>by
  obtain⟨_,o,ho,_⟩:=I.stack.mem z
  exact hne _ _ ho rfl
 refine wpAny_call ?_
 have hz:[u].length<=sizeLine:=by show 1<=sizeLine;decide
 refine exc_make PySem.F.excBase_ValueError (ot _ I.kIn) (I.kIn _ _ hC) hn hni (fun self=>PySem.W.bind_fn I.kIn self D.cls.fn) hz ?_
 refine init_go (k:=k) (Post:=Post) (v0:=v0) F D.cv D.sc D.cls B D.na hbd hg D.sl hsw hl ht (fun E=>hve _ _ _ E ?_) (hr.make C [u] []) (I2.env0.make C [u] []) (D.bs _ [.ref (s.heap.objs.size + 1),u] I2.kIn rfl) rv hget ?_ hfe hef (fun v H2 dd t' s' q2 ho hbr un hok hdd hdne g1 g2 => ?_) hd0 D.d1 D.d2
 ·exact(hr.make C [u] []).deeper _
 ·exact Nat.le_trans (Nat.le_trans I.ok.bsz I.sz) (Nat.le_succ _)
 ·refine h (s.heap.objs.size + 1) dd t' v H2 s' q2 (I.call' (ch:=[]) ho ⟨fun b o e n hb _=>un.keep b o (kx b o e) n hb (by simpa using hne b o e),fun b o e n hb _=>un.slot b o (kx b o e) n hb (by simpa using hne b o e),fun b o e n _=>un.free b o (kx b o e) n (by simpa using hne b o e),fun b o e _=>un.there b o (kx b o e) (by simpa using hne b o e),un.tups,un.frzs,un.tbls⟩ hok hbr (by simp)) g1 (Nat.le_succ _) g2 hdd
end
end L2
set_option maxHeartbeats 800000
namespace L2
open PySem PySem.Spec PyProof.Rows
section
variable{M:Model}{A:Around}{E:Value->Shared->Prop}{s:Shared}{env:Env}
variable{nm q:Str}{C N:Addr}{bs bm:List Value}{hdct:Bool}{sn:List Str}{sub:List Value}{ab:Bool}{col:Option Bool}{dd:Option Addr}{k0 k1 k2 k3 k5:Option Value}{newId:String}
theorem raise_made{x:Sem Value}{Q:Flow->Shared->Prop}(hbase:bm.contains (.type "BaseException")=true)(hh:A.handled=none)
  (h:wpAny M A x (fun v s₁=>∃ e od t,v=.ref e/\s₁.heap.get? C=some (excClassObj nm q C N bs bm hdct sn sub ab col dd k0 k1 k2 k3 k5 newId)/\s₁.heap.get? e=some (excObj C od t)/\E (.ref e) s₁) E s) :
  wpAny M A (raiseStmt env (some x) none) Q E s:=by
 have hcB:(Value.ref C::bm).contains (.type "BaseException")=true:=by rw[List.contains_cons,hbase,Bool.or_true]
 unfold raiseStmt
 refine wpAny_bind (wpAny_mono h (fun v s₁ h₁ => ?_) fun _ _ x=>x)
 obtain⟨e,od,t,rfl,hC,he,hE⟩:=h₁
 obtain⟨hp,g,d,tk,os⟩:=s₁
 have he:hp.get? e=some ⟨.ref C,od,.fields #[.ref t,.none,.none,.none,.bool false,.none],#[]⟩:=he
 repeat (first | with_reducible refine wpAny_loadPart_at he ?_ | with_reducible refine wpAny_loadPart_at hC ?_ | (with_reducible refine wpAny_isSubtype_exc hC ?_;rw[hcB]) | wp_step)
 exact wpAny_raiseNew_none hh hE
theorem raise_arm{x:Expr}{pos:Pos}{Q:Flow->Shared->Prop}(hbase:bm.contains (.type "BaseException")=true)(hh:A.handled=none)
  (h:wpAny M A (eval x env) (fun v s₁=>∃ e od t,v=.ref e/\s₁.heap.get? C=some (excClassObj nm q C N bs bm hdct sn sub ab col dd k0 k1 k2 k3 k5 newId)/\s₁.heap.get? e=some (excObj C od t)/\E (.ref e) s₁) E s) :
  wpAny M A (exec (.Raise (some x) none pos) env) Q E s:=by
 rw[arm_exec_Raise]
 first
  | exact wpAny_bind (wpAny_standAt (raise_made hbase hh (wpAny_bind (wpAny_mono h (fun v s₁ h₁=>wpAny_bind (wpAny_standAt (wpAny_pure h₁))) fun _ _ x=>x))))
  | (show wpAny M A (do standAt pos;raiseStmt env (some (do let v ← eval x env;standAt pos;pure v)) none) Q E s;exact wpAny_bind (wpAny_standAt (raise_made hbase hh (wpAny_bind (wpAny_mono h (fun v s₁ h₁=>wpAny_bind (wpAny_standAt (wpAny_pure h₁))) fun _ _ x=>x)))))
end
structure Thrown(P:Program)(w:World)(outer:List Env)(H:Hp)(s:Shared)(e C d:Addr)(H':Hp)(s':Shared):Prop where
 os:s'.os=s.os
 bare:AllBare s'.gens
 un:Un (frs outer) [] H H' s.heap s'.heap
 hok:HOk P w H' s'.heap
 new:s.heap.objs.size<=e
 free:H' e=none
 obj:∃ oe vs,s'.heap.get? e=some oe/\oe.cls=.ref C/\oe.dict=some d/\oe.data=.fields vs/\Landed s'.heap vs
noncomputable def CXe(P:Program)(w:World):CXT:=fun outer H s E x s'=>∃ e C d H',x=.ref e/\Thrown P w outer H s e C d H' s'/\E (.ref C) (some d) H'
section
variable{X:Cx}{pins:List (Addr×Obj)}{σ:St}{H:Hp}{s:Shared}{e C d t:Addr}
theorem thrown_x(I:Inv X pins σ H s)(hx:X.ex=[])(hst:X.stack=X.env::X.outer)(hfm:X.env.frame=some X.env.locals)(he:s.heap.get? e=some (excObj C (some d) t))(hn:X.s₀.heap.objs.size<=e)(hH:H e=none){Q:Unit->Shared->Prop}{E:Value->Shared->Prop}
  (h:∀ s',Thrown X.prog X.w X.outer X.H₀ X.s₀ e C d H s'->Q () s'):wpAny (model X.prog X.w) X.A (leaving X.env (.ref e)) Q E s:=by
 have hfr:=I.ok.frames
 rw[hst]at hfr
 have hl:=I.stack
 rw[hst]at hl
 refine leaving_x hfr hl hfm he rfl (.inl rfl) fun h' T F=>h _ ?_
 have hfree:∀ b u,H b=some u->b∉frs (X.env::X.outer):=fun b u q z=>by
  have:=I.stkFree b (by rw[hst];exact z)
  rw[this]at q;cases q
 have hlt:∀ b o,X.s₀.heap.get? b=some o->b≠e/\b≠X.env.locals:=fun b o q=>⟨fun z=>by rw[z]at q;exact absurd (Nat.lt_of_lt_of_le (Heap.lt_size q) hn) (Nat.lt_irrefl _),fun z=>by rw[z]at q;exact absurd (Nat.lt_of_lt_of_le (Heap.lt_size q) I.ok.above) (Nat.lt_irrefl _)⟩
 have hnf:∀ b o,X.s₀.heap.get? b=some o->b∉X.fs->b∉frs (X.env::X.outer):=fun b o q hb z=>by
  unfold frs at z
  rw[List.filterMap_cons,hfm]at z
  rcases List.mem_cons.mp z with z | z
  ·exact(hlt b o q).2 z
  ·exact hb z
 refine⟨I.os,I.bare,⟨fun b o q n hb _ => ?_,fun b o q n hb _ => ?_,fun b o q n _=>I.base.free b o q n (by rw[hx];simp),fun b o q _ => ?_,I.base.tups,I.base.frzs,I.base.tbls⟩,fun a u q => ?_,hn,hH,?_⟩
 ·exact F.keep b o (hlt b o q).1 (hnf b o q hb) (I.base.keep b o q n hb (by rw[hx];simp))
 ·obtain⟨sl,q1⟩:=I.base.slot b o q n hb (by rw[hx];simp)
  obtain⟨sl',q2⟩:=F.slot b _ (hlt b o q).1 q1
  exact⟨sl',q2⟩
 ·obtain⟨o',q1⟩:=I.base.there b o q (by rw[hx];simp)
  obtain⟨sl',q2⟩:=F.slot b _ (hlt b o q).1 q1
  exact⟨_,q2⟩
 ·refine(I.hok a u q).stay (fun b u' hb q'=>F.keep b u' (fun z => ?_) ?_ q') (fun b q'=>q') fun b xs q'=>q'
  ·rw[z]at hb
   rcases hb with hb | hb
   ·rw[← hb,hH]at q;cases q
   ·rw[hH]at hb;cases hb
  ·rcases hb with hb | hb
   ·rw[hb];exact hfree a u q
   ·exact hfree b _ hb
 ·obtain⟨oT,ts,g1,g2,g3⟩:=F.tb
  exact⟨_,_,F.at_,rfl,rfl,rfl,.inr ⟨T,oT,ts,by simp,g1,g2,g3⟩⟩
end
end L2
set_option maxHeartbeats 800000
namespace L2
open PySem PySem.Spec PyProof.Rows
noncomputable def tRaise(te:TE)(Arg:V->Hp->Prop)(Post:V->Hp->VK)(C:Addr)(fld:Str)(E:XK):TS:=fun _ σ H=>te σ H fun v0 H1=>Arg v0 H1/\∀ v H2 dd,Post v0 H1 v H2->H2 dd=none->E (.ref C) (some dd) (upd H2 dd (.xd [(fld,v)]))
section
variable{P:Program}{w:World}{K:PySem.W.Frag}{mg:Str->Option Value}{base:Heap}{N:List Str}{qual:Str}{scope:Scope}{f:Addr}{cd:Value}{A:Around}{outer:List Env}{s0:Shared}{H0:Hp}{E:XK}
variable{C N0 fI c:Addr}{fd:FuncData}{st:Stmt}{qual' fld sf pn cn:Str}{ve arg:Expr}{k:Nat}{te:TE}{Arg:V->Hp->Prop}{Post:V->Hp->VK}{np cpos pos:Pos}
theorem ps_raise(D:XDef K mg C N0 fI c fd st qual' fld sf pn ve)(hr:Room (k + 2) (A.deeper (envOfC qual scope s0.heap.objs.size f cd)))(hg:Gl (cxOf (CXe P w) P w K mg base N qual scope f cd A outer s0 H0 E) cn)(hm:mg cn=some (.ref C))
  (harg:PE (cxOf (CXe P w) P w K mg base N qual scope f cd A outer s0 H0 E) arg te)
  (hve:∀ v0 H1,Arg v0 H1->∀ (A':Around) (ot:List Env) (s':Shared) (e:Addr) (E':XK),Room k (A'.deeper (envOfC qual' (defScope st) s'.heap.objs.size fI (.ref c)))->∃ tv,PE ((cxOf CX0 P w K mg base [sf,pn] qual' (defScope st) fI (.ref c) A' ot s' H1 E').nox.mk1 e) ve tv/\tv (start [sf,pn] [.ref e,v0]) H1 (Post v0 H1))
  (hst:starEach [arg] (envOfC qual scope s0.heap.objs.size f cd)=[(false,eval arg (envOfC qual scope s0.heap.objs.size f cd))]) (hdb:(cn == ("__debug__":Str))=false:=by decide) :
  PS (cxOf (CXe P w) P w K mg base N qual scope f cd A outer s0 H0 E) (.Raise (some (.Call (.Name cn np) [arg] [] cpos)) none pos) (tRaise te Arg Post C fld E):=by
 intro pins s σ H Dn I h
 obtain⟨nm,q,bs,bm,sn,sub,ab,col,dd',k0,k1,k2,k3,k5,hC,ot⟩:=D.cls.ex
 have hbase:bm.contains (.type "BaseException")=true:=(ot _ I.kIn).hasType (by decide +kernel)
 refine raise_arm (C:=C) (nm:=nm) (q:=q) (N:=N0) (bs:=bs) (bm:=bm) (hdct:=true) (sn:=sn) (sub:=sub) (ab:=ab) (col:=col) (dd:=dd') (k0:=k0) (k1:=k1) (k2:=k2) (k3:=k3) (k5:=k5) (newId:="ValueError.__new__") hbase (I.ok.hd rfl) ?_
 refine wpAny_Call_Name_kw (ld_glob I hg hm ?_ hdb)
 refine PySem.W.callWith_K (h₀:=base) I.ok.mod.kin D.cls.kp ?_ hst rfl
 have hst':backTo cpos (starEach [arg] (cxOf (CXe P w) P w K mg base N qual scope f cd A outer s0 H0 E).env)=(false,eval arg (cxOf (CXe P w) P w K mg base N qual scope f cd A outer s0 H0 E).env)::[]:=by
  show backTo cpos (starEach [arg] (envOfC qual scope s0.heap.objs.size f cd))=_
  rw[hst];rfl
 rw[hst']
 refine Calls.spliced_cons (thn (harg pins s σ H _ I h) fun u s1 ⟨v0,H1,I1,r1,ha,hq⟩=>Calls.spliced_nil ⟨I1.kIn,?_⟩)
 refine make_x (k:=k) (Post:=Post v0 H1) D I1 hr r1 (fun A' s' e E' hr'=>hve v0 H1 ha A' _ s' e E' hr') fun e dd t v H2 s' q2 J g1 g2 g3 g4=>⟨e,some dd,t,rfl,J.kIn _ _ hC,g1,?_⟩
 exact thrown_x J rfl rfl rfl g1 (Nat.le_trans I1.sz g2) g3 fun s'' T=>⟨e,C,dd,_,rfl,T,hq v H2 dd q2 g4⟩
end
end L2
set_option maxHeartbeats 800000
namespace L2
open PySem PySem.Spec PyProof.Rows
section
variable{X:Cx}{pins:List (Addr×Obj)}{σ:St}{H H':Hp}{s s':Shared}{e C d:Addr}{h':Heap}
noncomputable def Cx.mkd(X:Cx)(e:Addr):Cx:={ X with A:=X.A.mark (some (.ref e)),calm:=false,xe:=fun _ _=>False }
theorem Inv.mkd(I:Inv X pins σ H s):Inv (X.mkd e) pins σ H s:=
 ⟨⟨I.ok.mod,I.ok.kind,I.ok.glob,I.ok.blt,I.ok.above,I.ok.inj,I.ok.has,I.ok.cab,(fun z=>nomatch (show false=true from z)),I.ok.frames,I.ok.stk,I.ok.exf,I.ok.bs,I.ok.bsz,I.ok.noex,I.ok.exfs,I.ok.funs,I.ok.frf⟩,
  I.os,I.bare,I.base,I.loc,I.cell,I.free,I.freeC,I.pin,I.hok,I.len⟩
theorem Inv.blank{t':Nat}{m':Str->Option Value}(ok:X.Ok)(I:Inv (X.mkd e) pins σ H s)(hn:h'.Ns X.env.locals m')(hs:Heap.SameBut X.env.locals s.heap h'):Inv X [] (List.replicate X.N.length none) H { s with heap:=h',toks:=t' }:=by
 have k:∀ b o,b≠X.env.locals->s.heap.get? b=some o->h'.get? b=some o:=fun b o hb q=>(hs.2 b hb).trans q
 have neL:∀ b o,X.s₀.heap.get? b=some o->b≠X.env.locals:=fun b o q=>Nat.ne_of_lt (Nat.lt_of_lt_of_le (Heap.lt_size q) I.ok.above)
 refine⟨ok,I.os,I.bare,⟨fun b o q n hb hx=>k b o (neL b o q) (I.base.keep b o q n hb hx),fun b o q n hb hx => ?_,I.base.free,fun b o q hx => ?_,I.base.tups,I.base.frzs,I.base.tbls⟩,⟨m',hn,fun i x v _ z => ?_⟩,fun x c q => ?_,I.free,I.freeC,fun p hp => ?_,fun a u q => ?_,by simp⟩
 ·obtain⟨sl,q1⟩:=I.base.slot b o q n hb hx
  exact⟨sl,k b _ (neL b o q) q1⟩
 ·obtain⟨o',q1⟩:=I.base.there b o q hx
  exact⟨o',k b _ (neL b o q) q1⟩
 ·rw[List.getElem?_replicate]at z
  split at z<;>cases z
 ·obtain⟨v,o,q1,q2⟩:=I.cell x c q
  exact⟨v,o,k c o (I.cne x c q) q1,q2⟩
 ·rw[List.append_nil]at hp
  obtain⟨a1,a2,a3,a4,a5⟩:=I.pin p (by simp[show p∈(X.mkd e).pn from hp])
  exact⟨k _ _ a3 a1,a2,a3,a4,a5⟩
 ·refine(I.hok a u q).stay (fun b u' hb q'=>k b u' (fun z => ?_) q') (fun _ q'=>q') fun _ _ q'=>q'
  have hf:H X.env.locals=none:=I.free
  rcases hb with hb | hb
  ·rw[← hb,z,hf]at q;cases q
  ·rw[z,hf]at hb;cases hb
theorem Inv.flown{oe:Obj}{T:Addr}(I:Inv X [] σ H s)(F:Flown X.stack e oe T s.heap h')(Fr:Free X e)(he:e≠X.env.locals)(hH:H e=none):Inv X [] σ H { s with heap:=h' }:=by
 have hst:∀ b,b∈frs X.stack->b=X.env.locals\/b∈X.fs:=fun b z=>List.mem_cons.mp (I.stkSub b z)
 refine I.step (g':=s.gens) (d':=s.drawn) (t':=s.toks) (ch:=[e]) (fun b hb => ?_) (fun b o hL hb hc q n=>F.keep b o (by simpa using hc) (fun z=>(hst b z).elim hL hb) q) (fun b o _ _ hc q _=>F.slot b o (by simpa using hc) q) (fun _ _ _ _ n=>n) (fun b o hc q => ?_) (fun _ _ q=>q) (fun _ _ _ q=>q) (fun b ps q=>⟨#[],by rw[q];simp⟩) (fun m hm => ?_) (fun a u q => ?_) I.bare
 ·rw[List.mem_singleton.mp hb]
  exact⟨Fr.new,he,Fr.cell,fun p hp=>Fr.pn p (by simpa using hp)⟩
 ·obtain⟨sl,q1⟩:=F.slot b o (by simpa using hc) q
  exact⟨_,q1⟩
 ·obtain⟨o,es,ep,e1,e2,e3⟩:=hm
  obtain⟨sl,q1⟩:=F.slot _ o (Ne.symm he) e1
  exact⟨_,es,ep,q1,e2,e3⟩
 ·refine(I.hok a u q).stay (fun b u' hb q'=>F.keep b u' (fun z => ?_) (fun z => ?_) q') (fun _ q'=>q') fun _ _ q'=>q'
  ·rw[z]at hb
   rcases hb with hb | hb
   ·rw[← hb,hH]at q;cases q
   ·rw[hH]at hb;cases hb
  ·have hf:=I.stkFree b z
   rcases hb with hb | hb
   ·rw[hb,q]at hf;cases hf
   ·rw[hb]at hf;cases hf
theorem setFlight_same{M:Model}{A:Around}{E:Value->Shared->Prop}{Q:Unit->Shared->Prop}{oe oT:Obj}{vs ts:Array Value}{T:Addr}(he:s.heap.get? e=some oe)(hd:oe.data=.fields vs)(h1:vs[1]?=some (.ref T))(hT:s.heap.get? T=some oT)(hdT:oT.data=.fields ts)(h3:ts[3]?=some .none)(h:Q () s) :
  wpAny M A (setFlight (.ref e) none) Q E s:=by
 unfold setFlight
 refine wpAny_bind (wpAny_field he hd h1 ?_)
 rw[if_pos (show(Value.ref T != Value.none)=true from by simp)]
 refine wpAny_setField hT hdT (Array.getElem?_eq_some_iff.mp h3).1 ?_
 have:s.heap.update T (Obj.mapFields (·.setIfInBounds 3 ((none:Option Addr).elim Value.none fun f=>rawInt f)))=s.heap:=Heap.update_setField_same s.heap T oT ts 3 .none hT hdT h3
 rw[this]
 exact h
end
end L2
set_option maxHeartbeats 800000
namespace L2
open PySem PySem.Spec PyProof.Rows
section
variable{X:Cx}{σ:St}{H H':Hp}{s s':Shared}{e C d:Addr}
theorem except_x{bn n:Str}{B0:Addr}{i:Nat}{b0:Stmt}{suite:List Stmt}{hp pos:Pos}{fs:List (Str×V)}{Q:Flow->Shared->Prop}{E:Value->Shared->Prop}(I:Inv X [] σ H s)(Th:Thrown X.prog X.w X.stack H s e C d H' s')(hst:X.stack=X.env::X.outer)(hfm:X.env.frame=some X.env.locals)
  (hxd:H' d=some (.xd fs)) (hg:Gl X bn) (hm:X.mg bn=some (.ref B0)) (hex:PySem.W.exmOne X.K (.ref C) (.ref B0)=some true) (hN:X.N.Nodup) (hi:X.N[i]?=some n) (hn:X.env.scope.names.lookup n=some .local)
  (hsuite:∀ oe s4,oe.cls=.ref C->oe.dict=some d->PySem.W.notCls oe=true->Inv (X.mkd e) [(e,oe)] (σ.set i (some (.ref e))) H' s4 ->
   wpAny (model X.prog X.w) (X.A.mark (some (.ref e))) (execs (b0::suite) X.env) (fun f s5=>∃ σ5 H5,Inv (X.mkd e) [(e,oe)] σ5 H5 s5/\∀ s6,Inv X [] (List.replicate X.N.length none) H5 s6->Q f s6) (fun _ _=>False) s4)
  (hdb:(bn == ("__debug__":Str))=false:=by decide) :
  wpAny (model X.prog X.w) X.A (noteFrame (.ref e) X.env) (fun _ s₂=>wpAny (model X.prog X.w) X.A (setFlight (.ref e) none) (fun _ s₃=>wpAny (model X.prog X.w) X.A (handleBy (.ref e) X.env [.ExceptHandler (some (.Name bn hp)) (some n) (b0::suite) pos]) Q E s₃) E s₂) E s':=by
 have I':Inv X [] σ H' s':=I.call' (ch:=[]) Th.os Th.un Th.hok Th.bare (by simp)
 obtain⟨oe,vs,g1,g2,g3,g4,g5⟩:=Th.obj
 have hfr:=I'.ok.frames
 rw[hst]at hfr
 have hl:=I'.stack
 rw[hst]at hl
 have hlt:∀ b o,s.heap.get? b=some o->b≠e:=fun b o q z=>by rw[z]at q;exact absurd (Nat.lt_of_lt_of_le (Heap.lt_size q) Th.new) (Nat.lt_irrefl _)
 have hloc:e≠X.env.locals:=fun z=>by
  obtain⟨m,⟨o,_,_,ho,_⟩,_⟩:=I.loc
  exact hlt _ _ ho z.symm
 have fr:Free X e:=⟨.inr (Nat.le_trans I.sz Th.new),fun x c q=>by
  obtain⟨v,o,q1,_⟩:=I.cell x c q
  exact hlt _ _ q1,fun p hp=>by
  obtain⟨q1,_⟩:=I.pin p (by simp[hp])
  exact hlt _ _ q1⟩
 have hfs:e∉X.fs:=fun z=>by
  obtain⟨_,o,ho,_⟩:=I.ok.funs.mem z
  exact absurd (Nat.lt_of_lt_of_le (Heap.lt_size ho) (Nat.le_trans I.sz Th.new)) (Nat.lt_irrefl _)
 refine note_x hfr hl hfm g1 g4 g5 fun h' T F => ?_
 have J:Inv X [] σ H' { s' with heap:=h' }:=I'.flown (by rw[hst];exact F) fr hloc Th.free
 have hat:=F.at_
 obtain⟨oT,ts,t1,t2,t3⟩:=F.tb
 have hcl:(oe.mapFields (·.setIfInBounds 1 (.ref T))).cls=.ref C:=by rw[Obj.cls_mapFields];exact g2
 have hdat:=Obj.data_mapFields g4 (·.setIfInBounds 1 (Value.ref T))
 have hdi:(oe.mapFields (·.setIfInBounds 1 (.ref T))).dict=some d:=by
  obtain⟨oc,od,dt,sl⟩:=oe
  cases dt<;>exact g3
 have hsz:1 < vs.size:=by
  rcases g5 with z | ⟨_,_,_,z,_⟩<;>exact(Array.getElem?_eq_some_iff.mp z).1
 generalize (oe.mapFields (·.setIfInBounds 1 (.ref T)))=oe' at *
 have hnc:PySem.W.notCls oe'=true:=by unfold PySem.W.notCls;rw[hdat]
 obtain⟨mA,nA,_⟩:=J.hok d _ hxd
 obtain⟨od,gd,_⟩:=lookIn_ns nA
 have at_:PySem.W.InstAt h' e oe' C (some od):=⟨hat,hcl,hnc,by rw[hdi];exact gd⟩
 refine wpAny_handleBy_cons (codeAny_handlers_test ?_) (by intro q;cases q)
 refine ld_glob (X:=X.mkd e) J.mkd hg hm ?_ hdb
 refine(PySem.W.exm_one (K:=X.K) J.kIn at_.type hex).here ?_
 refine codeAny_handlers_suite_as ?_
 refine setFlight_same hat hdat (by simp[hsz]) t1 t2 t3 ?_
 have J1:Inv (X.mkd e) [(e,oe')] σ H' { s' with heap:=h' }:=J.mkd.pinE hat Th.free hloc hfs (fun v=>by rw[hdat];simp)
 refine store_ok (X:=X.mkd e) J1 hN hi (.inl hn) (v:=.ref e) rfl (fun s4 J4 => ?_) (.inr hn)
 refine wpAny_mono (hsuite oe' s4 hcl hdi hnc J4) (fun f s5 ⟨σ5,H5,J5,q5⟩ => ?_) (fun _ _ z=>z.elim)
 obtain⟨m,hm5,_⟩:=J5.loc
 exact wpAny_nameGoes hn hm5 (by rw[I.ok.kind];rfl) fun h6 m6 n6 sb6=>q5 _ (J5.blank I.ok n6 sb6)
end
end L2
set_option maxHeartbeats 800000
namespace L2
open PySem PySem.Spec PyProof.Rows
theorem Cx.fz_nil(X:Cx):X.fz []=X:=by
 obtain⟨a1,a2,a3,a4,a5,a6,a7,a8,a9,a10,a11,a12,a13,fn,a15,a16,a17⟩:=X
 simp[Cx.fz]
section
variable{X:Cx}{σ:St}{H:Hp}{s:Shared}{C:Addr}{k:Nat}{f:Addr}{fd:FuncData}{ps:List Str}{sp:Sp}{ta:TA}{fs:List (Str×V)}{Rest:Hp->Prop}
noncomputable def wantX(C:Addr)(Flds:List (Str×V)->Prop)(Rest:Hp->Prop):XK:=fun cls dd H'=>cls=.ref C/\∃ d fs,dd=some d/\H' d=some (.xd fs)/\Flds fs/\Rest H'
theorem try_x{Flds:List (Str×V)->Prop}{fnm bn n:Str}{B0:Addr}{i:Nat}{b0:Stmt}{suite:List Stmt}{p cpos epos hp hpos pos:Pos}{a1:Expr}{as:List Expr}{Q:Flow->Shared->Prop}{E:Value->Shared->Prop}(I:Inv X [] σ H s)(hxe:∀ e s,¬ X.xe e s)
  (F:FnOk X.prog X.w X.K X.mg X.base (CXe X.prog X.w) k f fd ps sp) (hr:Room k X.A) (hb:Binds X.K fd ps []) (hgf:Gl X fnm) (hmf:X.mg fnm=some (.ref f)) (hkf:PySem.W.keepIn X.K (.ref f)=true)
  (ha:PA X (a1::as) ta) (hta:ta σ H fun vs H1=>sp vs H1 (fun _ _=>False) (wantX C Flds Rest))
  (hst:X.stack=X.env::X.outer) (hfm:X.env.frame=some X.env.locals) (hg:Gl X bn) (hm:X.mg bn=some (.ref B0)) (hex:PySem.W.exmOne X.K (.ref C) (.ref B0)=some true) (hN:X.N.Nodup) (hi:X.N[i]?=some n) (hn:X.env.scope.names.lookup n=some .local)
  (hsuite:∀ e d fs oe H' s4,H' d=some (.xd fs)->Flds fs->Rest H'->oe.cls=.ref C->oe.dict=some d->PySem.W.notCls oe=true->Inv (X.mkd e) [(e,oe)] (σ.set i (some (.ref e))) H' s4 ->
   wpAny (model X.prog X.w) (X.A.mark (some (.ref e))) (execs (b0::suite) X.env) (fun f s5=>∃ σ5 H5,Inv (X.mkd e) [(e,oe)] σ5 H5 s5/\∀ s6,Inv X [] (List.replicate X.N.length none) H5 s6->Q f s6) (fun _ _=>False) s4)
  (he:starEach (a1::as) X.env=(false,eval a1 X.env)::starEach as X.env) (hpl:(backTo cpos (starEach as X.env)).any (·.1)=false) (hsw:swapsWith (.Call (.Name fnm p) (a1::as) [] cpos) none epos.line X.env=pure false) (hdb:(bn == ("__debug__":Str))=false:=by decide) (hdf:(fnm == ("__debug__":Str))=false:=by decide) :
  wpAny (model X.prog X.w) X.A (exec (.Try [.Expr (.Call (.Name fnm p) (a1::as) [] cpos) epos] [.ExceptHandler (some (.Name bn hp)) (some n) (b0::suite) hpos] [] [] pos) X.env) Q E s:=by
 refine wpAny_Try_except (wpAny_execs_cons (wpAny_Expr_any ?_ I.quiet hsw))
 refine wpAny_Call_Name_kw (ld_glob I hgf hmf ?_ hdf)
 refine PySem.W.callWith_K (h₀:=X.base) I.ok.mod.kin hkf (wpAny_mono (ha cpos [] s σ H _ I hta) (fun us s1 z => ?_) fun e s1 z=>(hxe e s1 z).elim) he hpl
 obtain⟨vs,H1,I1,r1,h1⟩:=z
 refine⟨I1.kIn,?_⟩
 have hl:us.length=ps.length:=by rw[← r1.length];exact F.len _ _ _ _ h1
 have hb1:=hb s1 us I1.kIn (by rw[List.append_nil];exact hl)
 rw[List.append_nil]at hb1
 refine wpAny_call (codeAny_mono (F.run X.A X.stack s1 H1 ⟨us,[]⟩ us vs _ _ hr I1.env0 hb1 r1 h1) fun r s2 hq => ?_)
 cases r with
 | error x=>
  obtain⟨e,C',d,H',rfl,Th,hE⟩:=hq
  obtain⟨e1,d',fs,e2,hxd,hfl,hre⟩:=hE
  cases e1
  cases e2
  exact except_x I1 Th hst hfm hxd hg hm hex hN hi hn (fun oe s4 c1 c2 c3 J4=>hsuite e d fs oe H' s4 hxd hfl hre c1 c2 c3 J4) hdb
 | ok fl=>
  cases fl with
  | ret u=>
   obtain⟨_,_,_,_,_,_,_,z⟩:=hq
   exact z.elim
  | next=>exact False.elim hq
  | brk=>exact False.elim hq
  | cont=>exact False.elim hq
end
end L2
set_option maxHeartbeats 800000
namespace L2
open PySem PySem.Spec PyProof.Rows
section
variable{X:Cx}{pins:List (Addr×Obj)}{σ:St}{H:Hp}{s:Shared}{e C N fI:Addr}{oe:Obj}
noncomputable def Cx.pn1(X:Cx)(e:Addr)(oe:Obj):Cx:={ X with pn:=X.pn++[(e,oe)] }
theorem Inv.pn1(I:Inv X [(e,oe)] σ H s):Inv (X.pn1 e oe) [] σ H s:=
 ⟨⟨I.ok.mod,I.ok.kind,I.ok.glob,I.ok.blt,I.ok.above,I.ok.inj,I.ok.has,I.ok.cab,I.ok.hd,I.ok.frames,I.ok.stk,I.ok.exf,I.ok.bs,I.ok.bsz,I.ok.noex,I.ok.exfs,I.ok.funs,I.ok.frf⟩,
  I.os,I.bare,I.base,I.loc,I.cell,I.free,I.freeC,fun p hp=>I.pin p (by simpa[Cx.pn1] using hp),I.hok,I.len⟩
theorem Inv.unpn1(I:Inv (X.pn1 e oe) [] σ H s):Inv X [(e,oe)] σ H s:=
 ⟨⟨I.ok.mod,I.ok.kind,I.ok.glob,I.ok.blt,I.ok.above,I.ok.inj,I.ok.has,I.ok.cab,I.ok.hd,I.ok.frames,I.ok.stk,I.ok.exf,I.ok.bs,I.ok.bsz,I.ok.noex,I.ok.exfs,I.ok.funs,I.ok.frf⟩,
  I.os,I.bare,I.base,I.loc,I.cell,I.free,I.freeC,fun p hp=>I.pin p (by simpa[Cx.pn1] using hp),I.hok,I.len⟩
structure XIs(K:PySem.W.Frag)(C:Addr):Prop where
 ha:PySem.W.findIn K (.ref C) "__class__"=some (some (.builtin "object.__class__"))
 hn:PySem.W.specialIn K (.builtin "object.__class__") "__get__"=some (some (.builtin "getset_descriptor.__get__"))
 ht:PySem.W.takesIn K (.builtin "object.__class__")=some true
 hm:PySem.W.mroIn K C (.type "object")=some true
structure Cau(X:Cx)(e C:Addr)(oe:Obj)(d:Addr)(N fI:Addr):Prop where
 pn:(e,oe)∈X.pn
 cls:oe.cls=.ref C
 dict:oe.dict=some d
 no:PySem.W.notCls oe=true
 txt:XCls X.K C N fI
 is:XIs X.K C
variable{d:Addr}
theorem Cau.inst(c:Cau X e C oe d N fI)(I:Inv X pins σ H s){fs:List (Str×V)}(hd:H d=some (.xd fs)):∃ od,PySem.W.InstAt s.heap e oe C (some od):=by
 obtain⟨mA,nA,_⟩:=I.hok d _ hd
 obtain⟨od,gd,_⟩:=lookIn_ns nA
 exact⟨od,(I.pin (e,oe) (by simp[c.pn])).1,c.cls,c.no,by rw[c.dict];exact gd⟩
noncomputable def NameIs(X:Cx)(z:Str×Pos)(cv:Value):Prop:=∀ (E:Value->Shared->Prop) (pins:List (Addr×Obj)) (s:Shared) (σ:St) (H:Hp) (Q:Value->Shared->Prop),Inv X pins σ H s->Q cv s->wpAny (model X.prog X.w) X.A (eval (.Name z.1 z.2) X.env) Q E s
noncomputable def tIsx(i:Nat)(e d:Addr)(b:Bool):TE:=fun σ H Q=>σ[i]?=some (some (.ref e))/\(∃ fs,H d=some (.xd fs))/\Q (.bl b) H
theorem pe_isx{i:Nat}{n cn:Str}{p q r pos:Pos}{cv:Value}{b:Bool}(c:Cau X e C oe d N fI)(hi:X.N[i]?=some n)(hv:Vis X.env.scope n)(hg:Gl X "isinstance")(hm:X.mg "isinstance"=none)
  (hcn:NameIs X (cn,r) cv)
  (hk:PySem.W.kitOne X.K (.ref C) cv=some b) (hd1:(n == ("__debug__":Str))=false:=by decide) (hd2:(n == ("__classdict__":Str))=false:=by decide) :
  PE X (.Call (.Name "isinstance" p) [.Name n q,.Name cn r] [] pos) (tIsx i e d b):=by
 intro pins s σ H Q I h
 obtain⟨h1,⟨fs,h2⟩,h3⟩:=h
 refine wpAny_Call_Name_kw (ld_blt I hg hm boot_isinstance ?_ (by decide) (by decide))
 refine PyProof.Rows.callWith_builtin1 ?_ rfl rfl
 refine Calls.spliced_cons (thn (pe_var (pos:=q) hi hv hd1 hd2 pins s σ H (fun w H'=>w=.ref e/\H'=H) I ⟨.ref e,h1,rfl,rfl⟩) fun u s1 ⟨w,H1,J1,r1,hw,hH⟩ => ?_)
 subst hw hH
 cases (show u=Value.ref e from r1)
 refine Calls.spliced_cons (hcn _ pins s1 σ H1 _ J1 (Calls.spliced_nil ?_))
 obtain⟨od,at_⟩:=c.inst J1 h2
 exact PySem.W.kia_one (kitx_exc (od:=od) c.txt.xg c.txt.hd c.is.ha c.is.hn c.is.ht c.is.hm) J1.kIn at_ hk (fun z=>nomatch z) fun tk=>⟨.bl b,H1,J1.tok tk,rfl,h3⟩
inductive Names (X:Cx):List (Str×Pos)->List Value->Prop
 | nil:Names X [] []
 | cons {z:Str×Pos} {cv:Value} {ns:List (Str×Pos)} {cs:List Value} (h:NameIs X z cv) (t:Names X ns cs):Names X (z::ns) (cv::cs)
theorem spliced_names{pos:Pos}{E:Value->Shared->Prop}:∀ {ns:List (Str×Pos)} {cs:List Value},Names X ns cs ->
  ∀ {pins:List (Addr×Obj)} {s:Shared} {σ:St} {H:Hp} {Q:List Value->Shared->Prop},Inv X pins σ H s->Q cs s->wpAny (model X.prog X.w) X.A (spliced (backTo pos (starEach (ns.map fun z=>.Name z.1 z.2) X.env))) Q E s
 | [],_,.nil,_,_,_,_,_,_,h=>Calls.spliced_nil h
 | z::ns,cv::cs,.cons h1 h2,pins,s,σ,H,Q,I,h=>Calls.spliced_cons (h1 E pins s σ H _ I (spliced_names h2 I h))
theorem pe_isxT{i:Nat}{n:Str}{x1:Nat}{p q r pos:Pos}{ns:List (Str×Pos)}{cs:List Value}{b:Bool}(c:Cau X e C oe d N fI)(hi:X.N[i]?=some n)(hv:Vis X.env.scope n)(hg:Gl X "isinstance")(hm:X.mg "isinstance"=none)
  (hcn:Names X ns cs) (hz:cs.length<=100)
  (hk:PySem.W.kitAny X.K (.ref C) cs=some b) (hd1:(n == ("__debug__":Str))=false:=by decide) (hd2:(n == ("__classdict__":Str))=false:=by decide) :
  PE X (.Call (.Name "isinstance" p) [.Name n q,.Tuple (ns.map fun z=>.Name z.1 z.2) x1 r] [] pos) (tIsx i e d b):=by
 intro pins s σ H Q I h
 obtain⟨h1,⟨fs,h2⟩,h3⟩:=h
 refine wpAny_Call_Name_kw (ld_blt I hg hm boot_isinstance ?_ (by decide) (by decide))
 refine PyProof.Rows.callWith_builtin1 ?_ rfl rfl
 refine Calls.spliced_cons (thn (pe_var (pos:=q) hi hv hd1 hd2 pins s σ H (fun w H'=>w=.ref e/\H'=H) I ⟨.ref e,h1,rfl,rfl⟩) fun u s1 ⟨w,H1,J1,r1,hw,hH⟩ => ?_)
 subst hw hH
 cases (show u=Value.ref e from r1)
 refine Calls.spliced_cons (wpAny_Tuple_spliced (x1:=x1) (spliced_names hcn J1 ⟨Nat.le_trans hz (by decide),Calls.spliced_nil ?_⟩))
 have J2:Inv X pins σ H1 { s1 with heap:=s1.heap.push { cls:=.type "tuple",data:=.seq cs.toArray } }:=J1.kept (t':=s1.toks) fun b o z=>Heap.get?_push_of_some _ z
 obtain⟨od,at_⟩:=c.inst J2 h2
 exact PySem.W.kia_tup (kitx_exc (od:=od) c.txt.xg c.txt.hd c.is.ha c.is.hn c.is.ht c.is.hm) J2.kIn at_ (Heap.get?_push_size _ rfl) hk (fun z=>nomatch z) fun tk=>⟨.bl b,H1,J2.tok tk,rfl,h3⟩
noncomputable def tXf(i:Nat)(e d:Addr)(fld:Str):TE:=fun σ H Q=>σ[i]?=some (some (.ref e))/\∃ fs v,H d=some (.xd fs)/\fs.lookup fld=some v/\Q v H
theorem pe_xf{i:Nat}{n fld:Str}{q p:Pos}(c:Cau X e C oe d N fI)(na:NoAttr X.K C fld)(hi:X.N[i]?=some n)(hv:Vis X.env.scope n)(hd1:(n == ("__debug__":Str))=false:=by decide)(hd2:(n == ("__classdict__":Str))=false:=by decide) :
  PE X (.Attribute (.Name n q) fld p) (tXf i e d fld):=by
 intro pins s σ H Q I h
 obtain⟨h1,fs,v,h2,h3,h4⟩:=h
 refine attr_of rfl (thn (pe_var (pos:=q) hi hv hd1 hd2 pins s σ H (fun w H'=>w=.ref e/\H'=H) I ⟨.ref e,h1,rfl,rfl⟩) fun u s1 ⟨w,H1,J1,r1,hw,hH⟩ => ?_)
 subst hw hH
 cases (show u=Value.ref e from r1)
 exact getx_ok J1 c.txt na (J1.pin (e,oe) (by simp[c.pn])).1 c.cls c.dict c.no h2 h3 fun u' ru J2=>⟨v,H1,J2,ru,h4⟩
end
end L2
set_option maxHeartbeats 800000
namespace L2
open PySem PySem.Spec PyProof.Rows
section
variable{X:Cx}{e C N fI d:Addr}{oe:Obj}
theorem suite_x{i j:Nat}{n sn fld vn cn:Str}{ns:List (Str×Pos)}{cs:List Value}{vv:Value}{x1:Nat}{jx:Nat}{p1 q1 r1 s1 p2 q2 r2 s2 p3 q3 r3 s3 q4 s4 q5 s5 b1 b2 b3 c1 c2 i1 r4:Pos}
  (c:Cau X e C oe d N fI) (na:NoAttr X.K C fld) (hi:X.N[i]?=some n) (hv:Vis X.env.scope n) (hj:X.N[j]?=some sn) (hvj:Vis X.env.scope sn) (hg:Gl X "isinstance") (hm:X.mg "isinstance"=none)
  (h1:NameIs X (vn,r1) vv) (k1:PySem.W.kitOne X.K (.ref C) vv=some true) (h2:Names X ns cs) (hz:cs.length<=100) (k2:PySem.W.kitAny X.K (.ref C) cs=some false) (h3:NameIs X (cn,r3) (.ref C)) (k3:PySem.W.kitOne X.K (.ref C) (.ref C)=some true)
  (hd1:(n == ("__debug__":Str))=false) (hd2:(n == ("__classdict__":Str))=false) (hd3:(sn == ("__debug__":Str))=false) (hd4:(sn == ("__classdict__":Str))=false) :
  ∃ t,PSs X [.If (.BoolOp .Or [.UnaryOp .Not (.Call (.Name "isinstance" p1) [.Name n q1,.Name vn r1] [] s1) b1,.Call (.Name "isinstance" p2) [.Name n q2,.Tuple (ns.map fun z=>.Name z.1 z.2) x1 r2] [] s2] b2) [.Return (some (.Constant (.bool false) jx c1)) c2] [] i1,
    .Return (some (.BoolOp .And [.Call (.Name "isinstance" p3) [.Name n q3,.Name cn r3] [] s3,.Compare (.Attribute (.Name n q4) fld s4) [.Eq] [.Name sn q5] s5] b3)) r4] t /\
   ∀ (D:Ends) (σ:St) (H:Hp) (x:Str) (fs:List (Str×V)),σ[i]?=some (some (.ref e))->σ[j]?=some (some (.str x))->H d=some (.xd fs)->fs.lookup fld=some (.str x)->D.rt (.bl true) H->t D σ H:=by
 refine⟨_,pss_cons (ps_if (pw_or (pt_not (pt_val (pe_isx c hi hv hg hm h1 k1 hd1 hd2))) (pw_or1 (pt_val (pe_isxT c hi hv hg hm h2 hz k2 hd1 hd2)))).pt (pss_one (ps_ret pe_bl)) pss_nil)
  (pss_one (ps_ret (pe_and (pe_isx c hi hv hg hm h3 k3 hd1 hd2) (pe_one (pe_cmpR op_eq (pe_xf c na hi hv hd1 hd2) (pe_var (pos:=q5) hj hvj hd3 hd4) (nomark _)))))),fun D σ H x fs g1 g2 g3 g4 g5 => ?_⟩
 refine⟨g1,⟨fs,g3⟩,true,rfl,?_⟩
 refine⟨g1,⟨fs,g3⟩,false,rfl,?_⟩
 refine⟨g1,⟨fs,g3⟩,true,rfl,?_⟩
 refine⟨g1,fs,.str x,g3,g4,.str x,g2,?_⟩
 refine⟨rfl,?_⟩
 rw[decide_eq_true rfl]
 exact g5
theorem nameIs_own{cn:Str}{r:Pos}{u:Value}(hg:Gl X cn)(hm:X.mg cn=some u)(hd:(cn == ("__debug__":Str))=false):NameIs X (cn,r) u:=fun E pins s σ H Q I q=>ld_glob I hg hm q hd
theorem nameIs_blt{cn:Str}{r:Pos}{u:Value}(hg:Gl X cn)(hm:X.mg cn=none)(hv:bootBuiltins cn=some u)(hn:cn≠"__name__")(hd:(cn == ("__debug__":Str))=false):NameIs X (cn,r) u:=fun E pins s σ H Q I q=>ld_blt I hg hm hv q hn hd
end
end L2
set_option maxHeartbeats 800000
namespace L2
open PySem PySem.Spec PyProof.Rows
noncomputable def strKey(e:DictEntry):Bool:=match e.key with
 | .str _ _=>true
 | _=>false
noncomputable def nsB(K:PySem.W.Frag)(N:Addr)(nm:Str):Option (Option Value):=match K.lookup N with
 | some ⟨_,_,.dict es _,_⟩=>if es.toList.all strKey=true then some (nsFind es nm) else none
 | _=>none
theorem ns_of{K:PySem.W.Frag}{N:Addr}{nm:Str}{r:Option Value}(h:nsB K N nm=some r)(hp:Heap)(X:K.In hp):∃ mN,hp.Ns N mN/\mN nm=r:=by
 unfold nsB at h
 split at h
 ·rename_i c d es n sl hl
  split at h
  ·rename_i ha
   cases h
   refine⟨nsFind es,⟨_,es,n,X _ _ hl,rfl,fun e he => ?_,fun _=>rfl⟩,rfl⟩
   have:=List.all_eq_true.mp ha e (by simpa using he)
   unfold strKey at this
   split at this
   ·rename_i a b q;exact⟨a,b,q⟩
   ·cases this
  ·cases h
 ·cases h
noncomputable def tailB(K:PySem.W.Frag):List Value->Bool
 | .ref A::tl=>(match K.lookup A with
  | some ⟨_,_,.cls cd,_⟩=>nsB K cd.ns "__init__" == some none
  | _=>false) && tailB K tl
 | l=>l == veTail
theorem tail_of{K:PySem.W.Frag}:∀ {l:List Value},tailB K l=true->∀ h:Heap,K.In h->OwnTail h veTail l
 | [],e,h,X=>by simp[tailB]at e
 | a::r,e,h,X=>by
  cases a with
  | ref A=>
   simp only[tailB,Bool.and_eq_true]at e
   obtain⟨e1,e2⟩:=e
   split at e1
   ·rename_i c d cd sl hl
    obtain⟨mN,n1,n2⟩:=ns_of (eq_of_beq e1) h X
    exact .own (X _ _ hl) n1 n2 (tail_of e2 h X)
   ·cases e1
  | _=>rw[eq_of_beq (show(_ == veTail)=true from e)];exact .base
end L2
namespace Mir
open PySem
inductive D where
 | non | bl (b:Bool) | int (i:Int) | str (x:Str)
 | lst (xs:List D) | tup (xs:List D) | dct (ks:List L2.Key) (vs:List D) | ref (n:Nat)
 deriving Inhabited
inductive Out (α:Type) where
 | ok (a:α) | exc (c:Str) (fs:List (Str×D)) | bad
noncomputable def Out.bind{α β:Type}:Out α->(α->Out β)->Out β
 | .ok a,f=>f a
 | .exc c fs,_=>.exc c fs
 | .bad,_=>.bad
noncomputable instance:Monad Out where
 pure:=.ok
 bind:=Out.bind
@[simp] theorem bind_ok{α β:Type}(a:α)(f:α->Out β):(Out.ok a >>= f)=f a:=rfl
@[simp] theorem bind_bad{α β:Type}(f:α->Out β):((Out.bad:Out α) >>= f)=.bad:=rfl
@[simp] theorem bind_exc{α β:Type}(c fs)(f:α->Out β):((Out.exc c fs:Out α) >>= f)=.exc c fs:=rfl
@[simp] theorem pure_ok{α:Type}(a:α):(pure a:Out α)=.ok a:=rfl
mutual
noncomputable def eqD:D->D->Bool
 | .non,.non=>true
 | .bl a,.bl b=>a == b
 | .bl a,.int j=>(if a then 1 else 0) == j
 | .int i,.bl b=>i == (if b then 1 else 0)
 | .int i,.int j=>i == j
 | .str x,.str y=>x == y
 | .lst xs,.lst ys=>eqDs xs ys
 | .tup xs,.tup ys=>eqDs xs ys
 | _,_=>false
noncomputable def eqDs:List D->List D->Bool
 | [],[]=>true
 | x::xs,y::ys=>eqD x y && eqDs xs ys
 | _,_=>false
end
noncomputable def okEq:Nat->D->Bool
 | _,.non | _,.bl _ | _,.int _ | _,.str _=>true
 | n + 1,.lst xs | n + 1,.tup xs=>xs.all (okEq n)
 | _,_=>false
noncomputable def small(n:Nat):Bool:=decide (n<=sizeLine)
noncomputable def truD:D->Option Bool
 | .non=>some false
 | .bl b=>some b
 | .int i=>some (i != 0)
 | .str x=>if small x.length then some (x.length != 0) else none
 | .lst xs=>some (!xs.isEmpty)
 | .tup xs=>some (!xs.isEmpty)
 | _=>none
noncomputable abbrev Rs:=Bool×D
noncomputable def in64(i:Int):Bool:=decide (i.natAbs < 18446744073709551616)
theorem in64_inv{i:Int}(h:in64 i=true) : -(2 ^ 64) < i/\i < 2 ^ 64:=by
 have:=of_decide_eq_true h
 omega
noncomputable def binD(op:Operator)(x y:D):Out Rs:=
 match op,x,y with
 | .Add,.int i,.int j=>.ok (false,.int (i + j))
 | .Sub,.int i,.int j=>.ok (false,.int (i - j))
 | .Mult,.int i,.int j=>if in64 i || in64 j then .ok (false,.int (i * j)) else .bad
 | .FloorDiv,.int i,.int j=>if decide (0 < j) && decide (j < 1073741824) then .ok (false,.int (i / j)) else .bad
 | .Mod,.int i,.int j=>if decide (0 < j) then .ok (false,.int (i % j)) else .bad
 | .Pow,.int i,.int j=>if decide (0<=j) && decide (j<=1000) && decide (i.natAbs < 2 ^ 64) then .ok (false,.int (i ^ j.toNat)) else .bad
 | .Add,.str i,.str j=>if small (i.length + j.length) then .ok (false,.str (i++j)) else .bad
 | .Add,.lst i,.lst j=>if small (i.length + j.length) then .ok (true,.lst (i++j)) else .bad
 | _,_,_=>.bad
noncomputable def inStr(x y:Str):Bool := !(Builtin.Str.occurrences y x 0 y.length 1).isEmpty
noncomputable def inD(x y:D):Out Bool:=
 match x,y with
 | x,.lst ys=>if okEq 8 x && ys.all (okEq 8) then .ok (ys.any fun y=>eqD y x) else .bad
 | x,.tup ys=>if okEq 8 x && ys.all (okEq 8) then .ok (ys.any fun y=>eqD y x) else .bad
 | .str x,.str y=>.ok (inStr x y)
 | _,_=>.bad
noncomputable def isD(x y:D):Out Bool:=
 match x,y with
 | .non,.non=>.ok true
 | _,.non=>.ok false
 | .bl a,.bl b=>.ok (a == b)
 | .non,.bl _=>.ok false
 | .int _,.bl _=>.ok false
 | .str _,.bl _=>.ok false
 | .lst _,.bl _=>.ok false
 | .tup _,.bl _=>.ok false
 | _,_=>.bad
noncomputable def cmpD(op:CmpOp)(x y:D):Out Bool:=
 match op,x,y with
 | .Eq,x,y=>if okEq 8 x && okEq 8 y then .ok (eqD x y) else .bad
 | .NotEq,x,y=>if okEq 8 x && okEq 8 y then .ok (!eqD x y) else .bad
 | .Lt,.int i,.int j=>.ok (decide (i < j))
 | .LtE,.int i,.int j=>.ok (decide (i<=j))
 | .Gt,.int i,.int j=>.ok (decide (j < i))
 | .GtE,.int i,.int j=>.ok (decide (j<=i))
 | .In,x,y=>inD x y
 | .NotIn,x,y=>do let b ← inD x y;.ok (!b)
 | .Is,x,y=>isD x y
 | .IsNot,x,y=>do let b ← isD x y;.ok (!b)
 | _,_,_=>.bad
noncomputable def oneS(c:Nat):Str:=⟨#[c]⟩
noncomputable def idxD(x y:D):Out Rs:=
 match x,y with
 | .lst xs,.int i=>match L2.atI xs i with | some d=>.ok (false,d) | none=>.bad
 | .tup xs,.int i=>match L2.atI xs i with | some d=>.ok (false,d) | none=>.bad
 | .str z,.int i=>if small z.length then (match L2.atI z.cps.toList i with | some c=>.ok (false,.str (oneS c)) | none=>.bad) else .bad
 | _,_=>.bad
noncomputable def cutL{α:Type}(xs:List α)(lo hi:Option Int):List α:=(xs.drop (HT.sIx xs.length 0 lo)).take (HT.sIx xs.length xs.length hi - HT.sIx xs.length 0 lo)
noncomputable def slcD(x:D)(lo hi:Option Int):Out Rs:=
 match x with
 | .lst xs=>.ok (true,.lst (cutL xs lo hi))
 | .str z=>if small z.length then .ok (false,.str ⟨(cutL z.cps.toList lo hi).toArray⟩) else .bad
 | _=>.bad
noncomputable def intsFrom(lo:Int):Nat->List D
 | 0=>[]
 | n + 1=>.int lo::intsFrom (lo + 1) n
noncomputable def in62(i:Int):Bool:=decide (i.natAbs < 4611686018427387904)
theorem in62_inv{i:Int}(h:in62 i=true) : -(2 ^ 62)<=i/\i < 2 ^ 62:=by
 have:=of_decide_eq_true h
 omega
noncomputable def enmFrom(i:Nat):List D->List D
 | []=>[]
 | d::ds=>.tup [.int i,d]::enmFrom (i + 1) ds
inductive Blt where
 | len | all | any | sorted | list | tuple | int | min | max | bool
 deriving DecidableEq
noncomputable def blsD:List D->Option (List Bool)
 | []=>some []
 | d::r=>match truD d,blsD r with | some b,some bs=>some (b::bs) | _,_=>none
noncomputable def intsD:List D->Option (List Int)
 | []=>some []
 | .int i::r=>(intsD r).map (i :: ·)
 | _=>none
noncomputable def strsD:List D->Option (List Str)
 | []=>some []
 | .str i::r=>(strsD r).map (i :: ·)
 | _=>none
noncomputable def leStr(a b:Str):Bool := !decide (b.cps.toList < a.cps.toList)
noncomputable def sortedD(ds:List D):Out (List D):=
 if 64<=ds.length then .bad else
 match intsD ds with
 | some is=>.ok ((is.mergeSort fun a b=>decide (a<=b)).map .int)
 | none=>match strsD ds with
  | some xs=>.ok ((xs.mergeSort leStr).map .str)
  | none=>.bad
noncomputable def bltD(f:Blt)(a:D):Out Rs:=
 match f,a with
 | .len,.tup [.lst xs]=>.ok (false,.int xs.length)
 | .len,.tup [.tup xs]=>.ok (false,.int xs.length)
 | .len,.tup [.str z]=>if small z.length then .ok (false,.int z.length) else .bad
 | .all,.tup [.lst xs]=>match blsD xs with | some bs=>.ok (false,.bl (bs.all id)) | none=>.bad
 | .any,.tup [.lst xs]=>match blsD xs with | some bs=>.ok (false,.bl (bs.any id)) | none=>.bad
 | .sorted,.tup [.lst xs]=>do let ys ← sortedD xs;.ok (true,.lst ys)
 | .list,.tup [.lst xs]=>.ok (true,.lst xs)
 | .list,.tup [.tup xs]=>.ok (true,.lst xs)
 | .tuple,.tup [.lst xs]=>.ok (false,.tup xs)
 | .tuple,.tup [.tup xs]=>.ok (false,.tup xs)
 | .int,.tup [.int i]=>.ok (false,.int i)
 | .int,.tup [.bl k]=>.ok (false,.int (if k then 1 else 0))
 | .min,.tup [.int i,.int j]=>.ok (false,.int (if j < i then j else i))
 | .max,.tup [.int i,.int j]=>.ok (false,.int (if j > i then j else i))
 | _,_=>.bad
inductive Mth where
 | index | join
 deriving DecidableEq
noncomputable def mthD(m:Mth)(x:D)(a:D):Out Rs:=
 match m,x,a with
 | .index,.lst xs,.tup [d]=>if okEq 8 d && xs.all (okEq 8) then (match xs.findIdx? fun y=>eqD y d with | some j=>.ok (false,.int j) | none=>.bad) else .bad
 | .index,.str z,.tup [.str y]=>match Builtin.Str.occurrences z y 0 z.length 1 with | i::_=>.ok (false,.int i) | []=>.bad
 | .join,.str z,.tup [.lst ds]=>match strsD ds with | some xs=>if decide (z.length<=16) && decide ((xs.map (·.length)).sum + xs.length<=1048576) then .ok (false,.str (Txt.join z xs)) else .bad | none=>.bad
 | _,_,_=>.bad
inductive Ty where
 | int | str | bool | list | tuple | dict
 deriving DecidableEq
noncomputable def tyD:D->Ty->Option Bool
 | .non,_=>some false
 | .bl _,t=>some (t == .bool || t == .int)
 | .int _,t=>some (t == .int)
 | .str _,t=>some (t == .str)
 | .lst _,t=>some (t == .list)
 | .tup _,t=>some (t == .tuple)
 | .dct _ _,t=>some (t == .dict)
 | .ref _,_=>none
noncomputable def flatB:D->Bool
 | .non | .bl _ | .int _ | .str _=>true
 | _=>false
noncomputable def fuel:Nat:=100000
end Mir
namespace Mir
open PySem PySem.Spec PyProof.Rows L2
mutual
noncomputable def Rep(Z:Addr->Prop)(H:Hp):D->V->Prop
 | .non,v=>v=.non
 | .bl b,v=>v=.bl b
 | .int i,v=>v=.int i
 | .str x,v=>v=.str x
 | .lst ds,v=>∃ a vs,v=.ref a/\Z a/\Rd H a (.lst vs)/\Reps Z H ds vs
 | .tup ds,v=>∃ a vs,v=.ref a/\Z a/\Rd H a (.tup vs)/\Reps Z H ds vs
 | .dct ks ds,v=>∃ a vs,v=.ref a/\Z a/\H a=some (.dK (ks.zip vs))/\Reps Z H ds vs
 | .ref _,_=>False
noncomputable def Reps(Z:Addr->Prop)(H:Hp):List D->List V->Prop
 | [],vs=>vs=[]
 | d::ds,vs=>∃ v r,vs=v::r/\Rep Z H d v/\Reps Z H ds r
end
section
variable{Z Z':Addr->Prop}{H H':Hp}
theorem rd_keep{a:Addr}{u:HO}(k:∀ o,H a=some o->H' a=some o)(h:Rd H a u):Rd H' a u:=by
 rcases h with h | ⟨o,h⟩
 ·exact .inl (k _ h)
 ·exact .inr ⟨o,k _ h⟩
mutual
theorem Rep.mono(k:∀ a o,Z a->H a=some o->H' a=some o)(z:∀ a,Z a->Z' a):∀ {d:D} {v:V},Rep Z H d v->Rep Z' H' d v
 | .non,_,h=>by simpa only [Rep] using h
 | .bl _,_,h=>by simpa only [Rep] using h
 | .int _,_,h=>by simpa only [Rep] using h
 | .str _,_,h=>by simpa only [Rep] using h
 | .lst ds,v,h=>by
  simp only[Rep]at h ⊢
  obtain⟨a,vs,e,hz,hr,hs⟩:=h
  exact⟨a,vs,e,z a hz,rd_keep (fun o=>k a o hz) hr,Reps.mono k z hs⟩
 | .tup ds,v,h=>by
  simp only[Rep]at h ⊢
  obtain⟨a,vs,e,hz,hr,hs⟩:=h
  exact⟨a,vs,e,z a hz,rd_keep (fun o=>k a o hz) hr,Reps.mono k z hs⟩
 | .dct ks ds,v,h=>by
  simp only[Rep]at h ⊢
  obtain⟨a,vs,e,hz,hr,hs⟩:=h
  exact⟨a,vs,e,z a hz,k a _ hz hr,Reps.mono k z hs⟩
 | .ref _,_,h=>by simp only[Rep]at h
theorem Reps.mono(k:∀ a o,Z a->H a=some o->H' a=some o)(z:∀ a,Z a->Z' a):∀ {ds:List D} {vs:List V},Reps Z H ds vs->Reps Z' H' ds vs
 | [],_,h=>by simpa only [Reps] using h
 | d::ds,vs,h=>by
  simp only[Reps]at h ⊢
  obtain⟨v,r,e,h1,h2⟩:=h
  exact⟨v,r,e,Rep.mono k z h1,Reps.mono k z h2⟩
end
theorem Reps.length:∀ {ds:List D} {vs:List V},Reps Z H ds vs->vs.length=ds.length
 | [],_,h=>by simp only[Reps]at h;rw[h];rfl
 | d::ds,_,h=>by
  simp only[Reps]at h
  obtain⟨v,r,e,_,h2⟩:=h
  rw[e,List.length_cons,List.length_cons,Reps.length h2]
theorem Reps.get:∀ {ds:List D} {vs:List V} {i:Nat} {d:D},Reps Z H ds vs->ds[i]?=some d->∃ v,vs[i]?=some v/\Rep Z H d v
 | [],_,_,_,_,e=>by simp at e
 | d::ds,_,0,_,h,e=>by
  simp only[Reps]at h
  obtain⟨v,r,rfl,h1,_⟩:=h
  simp at e;subst e
  exact⟨v,rfl,h1⟩
 | d::ds,_,i + 1,d',h,e=>by
  simp only[Reps]at h
  obtain⟨v,r,rfl,_,h2⟩:=h
  obtain⟨u,h3,h4⟩:=Reps.get (i:=i) (d:=d') h2 (by simpa using e)
  exact⟨u,by simpa using h3,h4⟩
theorem Reps.append:∀ {ds es:List D} {vs ws:List V},Reps Z H ds vs->Reps Z H es ws->Reps Z H (ds++es) (vs++ws)
 | [],_,_,_,h,h'=>by simp only[Reps]at h;rw[h];exact h'
 | d::ds,_,_,_,h,h'=>by
  simp only[Reps]at h
  obtain⟨v,r,rfl,h1,h2⟩:=h
  show Reps Z H (d::(ds++_)) (v::(r++_))
  simp only[Reps]
  exact⟨v,_,rfl,h1,Reps.append h2 h'⟩
theorem Reps.nil:Reps Z H [] []:=by simp only[Reps]
theorem Reps.cons{d:D}{ds:List D}{v:V}{vs:List V}(h:Rep Z H d v)(h':Reps Z H ds vs):Reps Z H (d::ds) (v::vs):=by
 simp only[Reps];exact⟨v,vs,rfl,h,h'⟩
theorem Reps.one{d:D}{v:V}(h:Rep Z H d v):Reps Z H [d] [v]:=.cons h .nil
theorem Reps.nil_inv{vs:List V}(h:Reps Z H [] vs):vs=[]:=by simpa only [Reps] using h
theorem Reps.cons_inv{d:D}{ds:List D}{vs:List V}(h:Reps Z H (d::ds) vs):∃ v r,vs=v::r/\Rep Z H d v/\Reps Z H ds r:=by simpa only [Reps] using h
theorem Reps.take:∀ {ds:List D} {vs:List V} (n:Nat),Reps Z H ds vs->Reps Z H (ds.take n) (vs.take n)
 | _,_,0,_=>by simp only[List.take_zero,Reps]
 | [],_,n + 1,h=>by simp only[Reps]at h;rw[h];simp only[List.take_nil,Reps]
 | d::ds,_,n + 1,h=>by
  obtain⟨v,r,rfl,h1,h2⟩:=h.cons_inv
  exact .cons h1 (Reps.take n h2)
theorem Reps.drop:∀ {ds:List D} {vs:List V} (n:Nat),Reps Z H ds vs->Reps Z H (ds.drop n) (vs.drop n)
 | _,_,0,h=>h
 | [],_,n + 1,h=>by simp only[Reps]at h;rw[h];simp only[List.drop_nil,Reps]
 | d::ds,_,n + 1,h=>by
  obtain⟨v,r,rfl,h1,h2⟩:=h.cons_inv
  exact Reps.drop n h2
theorem Reps.reverse{ds:List D}{vs:List V}(h:Reps Z H ds vs):Reps Z H ds.reverse vs.reverse:=by
 induction ds generalizing vs with
 | nil=>rw[h.nil_inv];exact .nil
 | cons d ds ih=>
  obtain⟨v,r,rfl,h1,h2⟩:=h.cons_inv
  rw[List.reverse_cons,List.reverse_cons]
  exact(ih h2).append (.one h1)
theorem Reps.eraseIdx:∀ {ds:List D} {vs:List V} (n:Nat),Reps Z H ds vs->Reps Z H (ds.eraseIdx n) (vs.eraseIdx n)
 | [],_,n,h=>by rw[h.nil_inv];simp only[List.eraseIdx_nil,Reps]
 | d::ds,_,0,h=>by
  obtain⟨v,r,rfl,h1,h2⟩:=h.cons_inv
  exact h2
 | d::ds,_,n + 1,h=>by
  obtain⟨v,r,rfl,h1,h2⟩:=h.cons_inv
  exact .cons h1 (Reps.eraseIdx n h2)
noncomputable def Now(Z:Addr->Prop)(H:Hp)(d:D)(v:V):Prop:=
 match d with
 | .lst ds=>∃ a vs,v=.ref a/\Rd H a (.lst vs)/\Reps Z H ds vs
 | d=>Rep Z H d v
theorem Rep.now{d:D}{v:V}(h:Rep Z H d v):Now Z H d v:=by
 cases d with
 | lst ds=>
  simp only[Rep]at h
  obtain⟨a,vs,e,_,h⟩:=h
  exact⟨a,vs,e,h⟩
 | _=>exact h
theorem Now.mono(k:Same H H')(z:∀ a,Z a->Z' a){d:D}{v:V}(h:Now Z H d v):Now Z' H' d v:=by
 cases d with
 | lst ds=>
  obtain⟨a,vs,e,hr,hs⟩:=h
  exact⟨a,vs,e,rd_keep (fun o=>k a o) hr,hs.mono (fun a o _=>k a o) z⟩
 | _=>exact Rep.mono (fun a o _=>k a o) z h
end
structure Grow(Z:Addr->Prop)(H:Hp)(Z':Addr->Prop)(H':Hp):Prop where
 same:Same H H'
 sub:∀ a,Z a->Z' a
 new:∀ a,Z' a->Z a\/H a=none
 dom:∀ a,Z' a->H' a≠none
theorem Grow.trans{Z Z1 Z2:Addr->Prop}{H H1 H2:Hp}(g:Grow Z H Z1 H1)(g':Grow Z1 H1 Z2 H2):Grow Z H Z2 H2:=
 ⟨g.same.trans g'.same,fun a h=>g'.sub a (g.sub a h),fun a h=>by
  rcases g'.new a h with h | h
  ·exact g.new a h
  ·exact .inr (g.same.free h),g'.dom⟩
theorem Grow.refl{Z:Addr->Prop}{H:Hp}(d:∀ a,Z a->H a≠none):Grow Z H Z H:=⟨Same.refl _,fun _ h=>h,fun _ h=>.inl h,d⟩
theorem Same.laid{H:Hp}{p:Addr}{o:HO}(h:H p=none):Same H (upd H p o):=fun b u e=>by rw[upd_ne (ne_of_none e h)];exact e
theorem Grow.laid{Z:Addr->Prop}{H:Hp}{p:Addr}{o:HO}(d:∀ a,Z a->H a≠none)(h:H p=none):Grow Z H Z (upd H p o):=
 ⟨Same.laid h,fun _ h=>h,fun _ h=>.inl h,fun a ha=>by
  have ne:a≠p:=fun e=>d a ha (by rw[e];exact h)
  rw[upd_ne ne]
  exact d a ha⟩
noncomputable def Zp(Z:Addr->Prop)(p:Addr):Addr->Prop:=fun a=>Z a\/a=p
theorem Grow.more{Z Z1:Addr->Prop}{H H1:Hp}{p:Addr}(g:Grow Z H Z1 H1)(h:H p=none)(h1:H1 p≠none):Grow Z H (Zp Z1 p) H1:=
 ⟨g.same,fun a ha=>.inl (g.sub a ha),fun a ha=>by
  rcases ha with ha | ha
  ·exact g.new a ha
  ·exact .inr (ha▸h),fun a ha=>by
  rcases ha with ha | ha
  ·exact g.dom a ha
  ·exact ha▸h1⟩
section
variable{Z0 Z Z':Addr->Prop}{H0 H H':Hp}{ρ:MEnv}{σ:L2.St}
end
noncomputable def Res1(bw own:Bool)(Z:Addr->Prop)(Hb H:Hp)(d:D)(v:V):Prop:=
 if own=true then ∃ a vs ds,d=.lst ds/\v=.ref a/\Hb a=none/\¬ Z a/\H a=some (.lst vs)/\Reps Z H ds vs
 else if bw=true then Now Z H d v else Rep Z H d v
theorem Res1.own{bw:Bool}{Z:Addr->Prop}{Hb H:Hp}{a:Addr}{ds:List D}{vs:List V}(h1:Hb a=none)(h2:¬ Z a)(h3:H a=some (.lst vs))(h4:Reps Z H ds vs):Res1 bw true Z Hb H (.lst ds) (.ref a):=by
 unfold Res1;rw[if_pos rfl];exact⟨a,vs,ds,rfl,rfl,h1,h2,h3,h4⟩
theorem Res1.rep{bw:Bool}{Z:Addr->Prop}{Hb H:Hp}{d:D}{v:V}(h:Rep Z H d v):Res1 bw false Z Hb H d v:=by
 unfold Res1;rw[if_neg Bool.false_ne_true]
 split
 ·exact h.now
 ·exact h
theorem Res1.now{own:Bool}{Z:Addr->Prop}{Hb H:Hp}{d:D}{v:V}(h:Res1 true own Z Hb H d v):Now Z H d v:=by
 unfold Res1 at h
 split at h
 ·obtain⟨a,vs,ds,rfl,rfl,_,_,h3,h4⟩:=h
  exact⟨a,vs,rfl,.inl h3,h4⟩
 ·rw[if_pos rfl]at h;exact h
theorem PE.imp{X:Cx}{e:Expr}{t t':TE}(h:PE X e t)(i:∀ σ H Q,t' σ H Q->t σ H Q):PE X e t':=fun pins s σ H Q I q=>h pins s σ H Q I (i σ H Q q)
theorem bind_inv{α β:Type}{x:Out α}{f:α->Out β}{b:β}(h:(x >>= f)=.ok b):∃ a,x=.ok a/\f a=.ok b:=by
 cases x with
 | ok a=>exact⟨a,rfl,h⟩
 | exc c fs=>cases h
 | bad=>cases h
section
variable{Γ:Fns}{Z0 Z:Addr->Prop}{H0 H:Hp}{ρ:MEnv}{σ:L2.St}{c:Ex}{Q:VK}{own:Bool}{d:D}
end
end Mir
namespace Mir
open PySem PySem.Spec PyProof.Rows L2
section
variable{Z Z':Addr->Prop}{H H2 H':Hp}{d:D}{v:V}{bw own:Bool}
theorem Res1.back(k:Same H H2)(h:Res1 bw own Z' H2 H' d v):Res1 bw own Z' H H' d v:=by
 unfold Res1 at h ⊢
 split
 ·rename_i ho
  rw[if_pos ho]at h
  obtain⟨a,vs,ds,e1,e2,h1,h2⟩:=h
  exact⟨a,vs,ds,e1,e2,k.free h1,h2⟩
 ·rename_i ho
  rw[if_neg ho]at h
  exact h
theorem Res1.flat{Hb:Hp}(h:Rep Z H d v):Res1 bw false Z Hb H d v:=.rep h
theorem small_iff{n:Nat}(h:small n=true):n<=sizeLine:=of_decide_eq_true h
end
section
variable{X:Cx}{Γ:Fns}{bw:Bool}{a b e:Expr}{ca cb c:Ex}{pos:Pos}
noncomputable def flatD:D->Option V
 | .non=>some .non
 | .bl b=>some (.bl b)
 | .int i=>some (.int i)
 | .str x=>some (.str x)
 | _=>none
theorem flat_rep{Z:Addr->Prop}{H:Hp}{d:D}{v:V}(h:flatD d=some v):Rep Z H d v:=by
 cases d<;>simp only[flatD]at h<;>first | cases h;simp only[Rep] | cases h
end
section
variable{Z:Addr->Prop}{H:Hp}{x:V}
theorem now_non(h:Now Z H .non x):x=.non:=by simpa only [Now,Rep] using h
theorem now_int{i:Int}(h:Now Z H (.int i) x):x=.int i:=by simpa only [Now,Rep] using h
theorem now_bl{i:Bool}(h:Now Z H (.bl i) x):x=.bl i:=by simpa only [Now,Rep] using h
theorem now_str{i:Str}(h:Now Z H (.str i) x):x=.str i:=by simpa only [Now,Rep] using h
theorem now_lst{ds:List D}(h:Now Z H (.lst ds) x):∃ a vs,x=.ref a/\Rd H a (.lst vs)/\Reps Z H ds vs:=h
theorem now_tup{ds:List D}(h:Now Z H (.tup ds) x):∃ a vs,x=.ref a/\Z a/\Rd H a (.tup vs)/\Reps Z H ds vs:=by simpa only [Now,Rep] using h
theorem sqL{K:PySem.W.Frag}{a:Addr}{vs:List V}(h:Rd H a (.lst vs)):SqL K H a vs:=.inl h
theorem sqT{K:PySem.W.Frag}{a:Addr}{vs:List V}(h:Rd H a (.tup vs)):SqT K H a vs:=.inl h
theorem new_lst{bw:Bool}{Q:VK}{ds:List D}{vs:List V}(dom:∀ a,Z a->H a≠none)(hs:Reps Z H ds vs)
  (k:∀ v H' Z',Grow Z H Z' H'->Res1 bw true Z' H H' (.lst ds) v->Q v H'):∀ p,H p=none->Q (.ref p) (upd H p (.lst vs)):=fun p hp=>
 k _ _ Z (Grow.laid dom hp) (.own hp (fun z=>dom p z hp) upd_same (hs.mono (fun a o _=>Same.laid hp a o) fun _ z=>z))
end
section
variable{X:Cx}{Γ:Fns}{bw:Bool}{a b e:Expr}{ca cb c:Ex}{pos:Pos}
noncomputable def rCatR:R2:=fun x y H Q=>∃ l b xs zs,x=.ref l/\y=.ref b/\Rd H l (.lst xs)/\Rd H b (.lst zs)/\xs.length + zs.length<=sizeLine/\∀ p,H p=none->Q (.ref p) (upd H p (.lst (xs++zs)))
theorem op_catR:OpR X (binaryOp .Add) rCatR:=by
 intro pins s σ H x y v u Q I rx ry h
 obtain⟨l,b,xs,zs,rfl,rfl,hH,hB,hz,q⟩:=h
 cases rx
 cases ry
 obtain⟨z,its,n,r,e⟩:xs.length<=sizeLine/\∃ (its:List Value) (n:Nat),Vals xs its/\s.heap.get? l=some { cls:=.type "list",data:=.seq its.toArray n }:=Rd.ok hH I.hok
 obtain⟨z2,its2,n2,r2,e2⟩:zs.length<=sizeLine/\∃ (its:List Value) (n:Nat),Vals zs its/\s.heap.get? b=some { cls:=.type "list",data:=.seq its.toArray n }:=Rd.ok hB I.hok
 have hl:=r.length
 have hl2:=r2.length
 refine PySem.P.add_list e e2 ?_ (by rw[List.size_toArray,List.size_toArray];omega)
 have ea:its.toArray++its2.toArray=(its++its2).toArray:=by simp
 rw[ea]
 exact⟨.ref _,_,I.lnew (t':=s.toks) (r.append r2) (by rw[List.length_append];omega),rfl,q _ I.fresh⟩
noncomputable def rBin(op:Operator):R2:=fun x y H Q=>match op with
 | .Add=>(∃ i j,x=.int i/\y=.int j/\Q (.int (i + j)) H)\/(∃ i j,x=.str i/\y=.str j/\i.length + j.length<=sizeLine/\Q (.str (i++j)) H)\/rCatR x y H Q
 | .Sub=>∃ i j,x=.int i/\y=.int j/\Q (.int (i - j)) H
 | .Mult=>∃ i j,x=.int i/\y=.int j/\CMul i j/\Q (.int (i * j)) H
 | .FloorDiv=>∃ i j,x=.int i/\y=.int j/\CDiv i j/\Q (.int (i / j)) H
 | .Mod=>∃ i j,x=.int i/\y=.int j/\0 < j/\Q (.int (i % j)) H
 | .Pow=>∃ i j,x=.int i/\y=.int j/\CPow i j/\Q (.int (i ^ j.toNat)) H
 | _=>False
theorem op_bin(op:Operator):OpR X (binaryOp op) (rBin op):=by
 cases op with
 | Add=>exact op_add.or (op_add_str.or op_catR)
 | Sub=>exact op_sub
 | Mult=>exact op_mul
 | FloorDiv=>exact op_fdiv
 | Mod=>exact op_mod
 | Pow=>exact op_pow
 | _=>exact fun _ _ _ _ _ _ _ _ _ _ _ _ h=>h.elim
theorem bin_ok{op:Operator}{dx dy:D}{x y:V}{Z:Addr->Prop}{H:Hp}{own:Bool}{d:D}{Q:VK}(nx:Now Z H dx x)(ny:Now Z H dy y)(dom:∀ a,Z a->H a≠none)(ee:binD op dx dy=.ok (own,d))
  (k:∀ v H' Z',Grow Z H Z' H'->Res1 bw own Z' H H' d v->Q v H'):rBin op x y H Q:=by
 have flat:∀ {d':D} {v:V},flatD d'=some v->Out.ok (false,d')=Out.ok (own,d)->Q v H:=fun hf q=>by
  cases q
  exact k _ H Z (Grow.refl dom) (.rep (flat_rep hf))
 unfold binD at ee
 split at ee
 ·cases now_int nx;cases now_int ny
  exact .inl ⟨_,_,rfl,rfl,flat rfl ee⟩
 ·cases now_int nx;cases now_int ny
  exact⟨_,_,rfl,rfl,flat rfl ee⟩
 ·cases now_int nx;cases now_int ny
  split at ee
  ·rename_i hc
   refine⟨_,_,rfl,rfl,?_,flat rfl ee⟩
   simp only[Bool.or_eq_true]at hc
   have hc:=hc.imp in64_inv in64_inv
   exact hc
  ·cases ee
 ·cases now_int nx;cases now_int ny
  split at ee
  ·rename_i hc
   refine⟨_,_,rfl,rfl,?_,flat rfl ee⟩
   simp only[Bool.and_eq_true,decide_eq_true_eq]at hc
   exact hc
  ·cases ee
 ·cases now_int nx;cases now_int ny
  split at ee
  ·rename_i hc
   exact⟨_,_,rfl,rfl,of_decide_eq_true hc,flat rfl ee⟩
  ·cases ee
 ·cases now_int nx;cases now_int ny
  split at ee
  ·rename_i hc
   refine⟨_,_,rfl,rfl,?_,flat rfl ee⟩
   simp only[Bool.and_eq_true,decide_eq_true_eq]at hc
   exact⟨hc.1.1,Int.le_trans hc.1.2 (by decide),hc.2⟩
  ·cases ee
 ·cases now_str nx;cases now_str ny
  split at ee
  ·rename_i hc
   exact .inr (.inl ⟨_,_,rfl,rfl,small_iff hc,flat rfl ee⟩)
  ·cases ee
 ·obtain⟨l,xs,rfl,h1,h2⟩:=now_lst nx
  obtain⟨m,zs,rfl,h3,h4⟩:=now_lst ny
  split at ee
  ·rename_i hc
   cases ee
   have hz:=small_iff hc
   exact .inr (.inr ⟨l,m,xs,zs,rfl,rfl,h1,h3,by rw[h2.length,h4.length];exact hz,new_lst dom (h2.append h4) k⟩)
  ·cases ee
 ·cases ee
end
end Mir
namespace Mir
open PySem PySem.Spec PyProof.Rows L2
section
variable{Z:Addr->Prop}{H:Hp}
theorem rd_uniq{a:Addr}{u u':HO}(hn:∀ o w,u≠.frz o w)(hn':∀ o w,u'≠.frz o w)(h:Rd H a u)(h':Rd H a u'):u=u':=by
 rcases h with h | ⟨o,h⟩<;>rcases h' with h' | ⟨o',h'⟩<;>rw[h]at h'<;>injection h' with e
 ·exact absurd e (hn _ _)
 ·exact absurd e.symm (hn' _ _)
 ·injection e
theorem rd_lst{a:Addr}{xs ys:List V}(h:Rd H a (.lst xs))(h':Rd H a (.lst ys)):xs=ys:=by
 have e:=rd_uniq (fun _ _ z=>by cases z) (fun _ _ z=>by cases z) h h'
 injection e
theorem rd_tup{a:Addr}{xs ys:List V}(h:Rd H a (.tup xs))(h':Rd H a (.tup ys)):xs=ys:=by
 have e:=rd_uniq (fun _ _ z=>by cases z) (fun _ _ z=>by cases z) h h'
 injection e
theorem rd_lt{a:Addr}{xs ys:List V}(h:Rd H a (.lst xs))(h':Rd H a (.tup ys)):False:=by
 have e:=rd_uniq (fun _ _ z=>by cases z) (fun _ _ z=>by cases z) h h'
 cases e
mutual
theorem Rep.uniq:∀ (n:Nat) (d d':D) (v:V),okEq n d=true->okEq n d'=true->Rep Z H d v->Rep Z H d' v->d=d'
 | n,.lst xs,d',v,o,o',h,h'=>by
  simp only[Rep]at h
  obtain⟨a,vs,rfl,_,h1,h2⟩:=h
  cases d'<;>simp only[Rep]at h'
  case lst ys=>
   obtain⟨b,ws,e,_,h3,h4⟩:=h'
   cases e
   cases rd_lst h1 h3
   cases n with
   | zero=>simp[okEq]at o
   | succ n=>rw[Reps.uniq n xs ys vs (by simpa[okEq] using o) (by simpa[okEq] using o') h2 h4]
  case tup ys=>
   obtain⟨b,ws,e,_,h3,h4⟩:=h'
   cases e
   exact(rd_lt h1 h3).elim
  case dct ks ys=>cases n<;>simp[okEq]at o'
  all_goals cases h'
 | n,.tup xs,d',v,o,o',h,h'=>by
  simp only[Rep]at h
  obtain⟨a,vs,rfl,_,h1,h2⟩:=h
  cases d'<;>simp only[Rep]at h'
  case tup ys=>
   obtain⟨b,ws,e,_,h3,h4⟩:=h'
   cases e
   cases rd_tup h1 h3
   cases n with
   | zero=>simp[okEq]at o
   | succ n=>rw[Reps.uniq n xs ys vs (by simpa[okEq] using o) (by simpa[okEq] using o') h2 h4]
  case lst ys=>
   obtain⟨b,ws,e,_,h3,h4⟩:=h'
   cases e
   exact(rd_lt h3 h1).elim
  case dct ks ys=>cases n<;>simp[okEq]at o'
  all_goals cases h'
 | n,.dct ks xs,_,_,o,_,_,_=>by cases n<;>simp[okEq]at o
 | n,.ref _,_,_,_,_,h,_=>by simp only[Rep]at h
 | n,.non,d',v,_,o',h,h'=>by
  simp only[Rep]at h;subst h
  cases d'<;>simp only[Rep]at h'<;>first | rfl | (obtain⟨_,_,e,_⟩:=h';cases e;done) | (cases h';done)
 | n,.bl b,d',v,_,o',h,h'=>by
  simp only[Rep]at h;subst h
  cases d'<;>simp only[Rep]at h'<;>first | (obtain⟨_,_,e,_⟩:=h';cases e;done) | (cases h';rfl) | (cases h';done)
 | n,.int b,d',v,_,o',h,h'=>by
  simp only[Rep]at h;subst h
  cases d'<;>simp only[Rep]at h'<;>first | (obtain⟨_,_,e,_⟩:=h';cases e;done) | (cases h';rfl) | (cases h';done)
 | n,.str b,d',v,_,o',h,h'=>by
  simp only[Rep]at h;subst h
  cases d'<;>simp only[Rep]at h'<;>first | (obtain⟨_,_,e,_⟩:=h';cases e;done) | (cases h';rfl) | (cases h';done)
theorem Reps.uniq:∀ (n:Nat) (xs ys:List D) (vs:List V),(∀ x∈xs,okEq n x=true)->(∀ x∈ys,okEq n x=true)->Reps Z H xs vs->Reps Z H ys vs->xs=ys
 | n,[],ys,vs,_,_,h,h'=>by
  rw[h.nil_inv]at h'
  cases ys with
  | nil=>rfl
  | cons y ys=>obtain⟨_,_,e,_⟩:=h'.cons_inv;cases e
 | n,x::xs,ys,vs,o,o',h,h'=>by
  obtain⟨v,r,rfl,h1,h2⟩:=h.cons_inv
  cases ys with
  | nil=>exact absurd h'.nil_inv (by simp)
  | cons y ys=>
   obtain⟨w,r',e,h3,h4⟩:=h'.cons_inv
   cases e
   rw[Rep.uniq n x y v (o x (by simp)) (o' y (by simp)) h1 h3,Reps.uniq n xs ys r (fun z hz=>o z (by simp[hz])) (fun z hz=>o' z (by simp[hz])) h2 h4]
end
mutual
theorem eqD_self:∀ (n:Nat) (d:D),okEq n d=true->eqD d d=true
 | n,.lst xs,o=>by
  cases n with
  | zero=>simp[okEq]at o
  | succ n=>simp only[eqD];exact eqDs_self n xs (by simpa[okEq] using o)
 | n,.tup xs,o=>by
  cases n with
  | zero=>simp[okEq]at o
  | succ n=>simp only[eqD];exact eqDs_self n xs (by simpa[okEq] using o)
 | n,.dct _ _,o=>by cases n<;>simp[okEq]at o
 | n,.ref _,o=>by cases n<;>simp[okEq]at o
 | n,.non,_=>by simp[eqD]
 | n,.bl _,_=>by simp[eqD]
 | n,.int _,_=>by simp[eqD]
 | n,.str _,_=>by simp[eqD]
theorem eqDs_self:∀ (n:Nat) (xs:List D),(∀ x∈xs,okEq n x=true)->eqDs xs xs=true
 | n,[],_=>by simp[eqDs]
 | n,x::xs,o=>by
  simp only[eqDs,eqD_self n x (o x (by simp)),eqDs_self n xs fun z hz=>o z (by simp[hz]),Bool.and_self]
end
theorem eqDs_range:∀ (xs ys:List D),((List.range (min xs.length ys.length)).all (fun j=>eqD (xs.getD j .non) (ys.getD j .non)) && (xs.length == ys.length))=eqDs xs ys
 | [],[]=>by simp[eqDs]
 | [],_::_=>by simp[eqDs]
 | _::_,[]=>by simp[eqDs]
 | x::xs,y::ys=>by
  have ih:=eqDs_range xs ys
  have e1:min (x::xs).length (y::ys).length=min xs.length ys.length + 1:=by simp only[List.length_cons];omega
  rw[e1,List.range_succ_eq_map,List.all_cons,List.all_map,eqDs,← ih]
  simp[Function.comp_def,Bool.and_assoc]
theorem eqDs_len{xs ys:List D}(h:xs.length=ys.length):(List.range xs.length).all (fun j=>eqD (xs.getD j .non) (ys.getD j .non))=eqDs xs ys:=by
 have e:=eqDs_range xs ys
 rw[← h,Nat.min_self]at e
 simpa using e
theorem eqDs_ne{xs ys:List D}(h:xs.length≠ys.length):eqDs xs ys=false:=by
 rw[← eqDs_range xs ys]
 simp[h]
end
inductive Vw (s:Shared) (Z:Addr->Prop) (H:Hp):D->Value->Prop where
 | non:Vw s Z H .non .none
 | bl (b:Bool):Vw s Z H (.bl b) (.bool b)
 | int (i:Int) (t:Tok):Vw s Z H (.int i) (.int i t)
 | str (x:Str) (t:Tok):Vw s Z H (.str x) (.str x t)
 | lst {l:Addr} {its:List Value} {vs:List V} {ds:List D}:s.heap.IsList l its.toArray->Vals vs its->Rd H l (.lst vs)/\Reps Z H ds vs->Vw s Z H (.lst ds) (.ref l)
 | tup {l:Addr} {its:List Value} {vs:List V} {ds:List D}:s.heap.IsTuple l its.toArray->Vals vs its->Rd H l (.tup vs)/\Reps Z H ds vs->Vw s Z H (.tup ds) (.ref l)
section
variable{X:Cx}{pins:List (Addr×Obj)}{σ:L2.St}{Z:Addr->Prop}{H:Hp}{s:Shared}{A:Around}
theorem vw_of{n:Nat}{d:D}{v:V}{u:Value}(I:Inv X pins σ H s)(nw:Now Z H d v)(r:RelV v u)(o:okEq n d=true):Vw s Z H d u:=by
 cases d with
 | non=>cases now_non nw;cases r;exact .non
 | bl b=>cases now_bl nw;cases r;exact .bl b
 | int b=>cases now_int nw;obtain⟨t,rfl⟩:=r;exact .int b t
 | str b=>cases now_str nw;obtain⟨t,rfl⟩:=r;exact .str b t
 | lst ds=>
  obtain⟨a,vs,rfl,h1,h2⟩:=now_lst nw
  cases r
  obtain⟨its,rv,p,hz⟩:=I.list (sqL (K:=X.K) h1)
  exact .lst p.isList rv ⟨h1,h2⟩
 | tup ds=>
  obtain⟨a,vs,rfl,_,h1,h2⟩:=now_tup nw
  cases r
  obtain⟨its,rv,p,hz⟩:=I.tuple (sqT (K:=X.K) h1)
  exact .tup p rv ⟨h1,h2⟩
 | dct ks ds=>cases n<;>simp[okEq]at o
 | ref k=>cases n<;>simp[okEq]at o
theorem vals_at{vs:List V}{its:List Value}(r:Vals vs its){j:Nat}(hj:j < its.length):∃ v,vs[j]?=some v/\RelV v its[j]:=by
 have hl:=r.length
 have h1:vs[j]?=some vs[j]:=by simp[show j < vs.length by omega]
 obtain⟨u,h2,h3⟩:=r.get h1
 rw[List.getElem?_eq_getElem hj]at h2
 cases h2
 exact⟨_,h1,h3⟩
theorem rc_lists{n:Nat}(I:Inv X pins σ H s)(ih:∀ (A:Around) (dx dy:D) (u w:Value),A.units + n < cLine->okEq n dx=true->okEq n dy=true->Vw s Z H dx u->Vw s Z H dy w->SeqAt.EqAt A s u w (eqD dx dy))
  {ds es:List D} (ox:∀ x∈ds,okEq n x=true) (oy:∀ x∈es,okEq n x=true) (hu:A.units + (n + 1) < cLine) {vs ws:List V} {its its2:List Value} (rl:Vals vs its) (rm:Vals ws its2) (pl:Reps Z H ds vs) (pm:Reps Z H es ws) :
  ∀ j (h1:j < its.toArray.size) (h2:j < its2.toArray.size),SeqAt.EqAt A.in1 s its.toArray[j] its2.toArray[j] (eqD (ds.getD j .non) (es.getD j .non)):=by
 intro j h1 h2
 have n1:=rl.length
 have n2:=rm.length
 have k1:=pl.length
 have k2:=pm.length
 simp only[List.size_toArray]at h1 h2
 simp only[List.getElem_toArray]
 obtain⟨v,hv,rv⟩:=vals_at rl h1
 obtain⟨w,hw,rw'⟩:=vals_at rm h2
 have e1:ds[j]?=some (ds.getD j .non):=by simp[List.getD,show j < ds.length by omega]
 have e2:es[j]?=some (es.getD j .non):=by simp[List.getD,show j < es.length by omega]
 obtain⟨v',hv',p1⟩:=pl.get e1
 obtain⟨w',hw',p2⟩:=pm.get e2
 rw[hv]at hv';cases hv'
 rw[hw]at hw';cases hw'
 have o1:=ox _ (List.mem_of_getElem? e1)
 have o2:=oy _ (List.mem_of_getElem? e2)
 exact ih A.in1 _ _ _ _ (by show A.units + 1 + n < cLine;omega) o1 o2 (vw_of I p1.now rv o1) (vw_of I p2.now rw' o2)
theorem eq_of_vw(I:Inv X pins σ H s):∀ (n:Nat) (A:Around) (dx dy:D) (u w:Value),A.units + n < cLine->okEq n dx=true->okEq n dy=true->Vw s Z H dx u->Vw s Z H dy w->SeqAt.EqAt A s u w (eqD dx dy):=by
 intro n
 induction n with
 | zero=>
  intro A dx dy u w hn ox oy hx hy
  have hu:A.units < cLine:=by omega
  cases hx with
  | non=>
   cases hy with
   | non=>exact SeqAt.EqAt.same _
   | bl b2=>exact SeqAt.EqAt.none_bool _
   | int i2 t2=>exact SeqAt.EqAt.none_int _ _
   | str x2 t2=>exact SeqAt.EqAt.none_str _ _
   | @lst m its2 vs2 ds2 hm rm pm=>exact SeqAt.EqAt.none_list hm hu
   | @tup m its2 vs2 ds2 hm rm pm=>exact SeqAt.EqAt.none_tuple hm hu
  | bl b=>
   cases hy with
   | non=>exact SeqAt.EqAt.bool_none _
   | bl b2=>exact SeqAt.EqAt.bool_bool _ _
   | int i2 t2=>exact SeqAt.EqAt.bool_int _ _ _
   | str x2 t2=>exact SeqAt.EqAt.bool_str _ _ _
   | @lst m its2 vs2 ds2 hm rm pm=>exact SeqAt.EqAt.bool_list _ hm hu
   | @tup m its2 vs2 ds2 hm rm pm=>exact SeqAt.EqAt.bool_tuple _ hm hu
  | int i t=>
   cases hy with
   | non=>exact SeqAt.EqAt.int_none _ _
   | bl b2=>exact SeqAt.EqAt.int_bool _ _ _
   | int i2 t2=>exact SeqAt.EqAt.int_int _ _ _ _
   | str x2 t2=>exact SeqAt.EqAt.int_str _ _ _ _
   | @lst m its2 vs2 ds2 hm rm pm=>exact SeqAt.EqAt.int_list _ _ hm hu
   | @tup m its2 vs2 ds2 hm rm pm=>exact SeqAt.EqAt.int_tuple _ _ hm hu
  | str x t=>
   cases hy with
   | non=>exact SeqAt.EqAt.str_none _ _
   | bl b2=>exact SeqAt.EqAt.str_bool _ _ _
   | int i2 t2=>exact SeqAt.EqAt.str_int _ _ _ _
   | str x2 t2=>exact SeqAt.EqAt.str_str _ _ _ _
   | @lst m its2 vs2 ds2 hm rm pm=>exact SeqAt.EqAt.str_list _ _ hm hu
   | @tup m its2 vs2 ds2 hm rm pm=>exact SeqAt.EqAt.str_tuple _ _ hm hu
  | @lst l its vs ds hl rl pl=>
   cases hy with
   | non=>exact SeqAt.EqAt.list_none hl hu
   | bl b2=>exact SeqAt.EqAt.list_bool _ hl hu
   | int i2 t2=>exact SeqAt.EqAt.list_int _ _ hl hu
   | str x2 t2=>exact SeqAt.EqAt.list_str _ _ hl hu
   | @lst m its2 vs2 ds2 hm rm pm=>
    simp[okEq]at ox
   | @tup m its2 vs2 ds2 hm rm pm=>exact SeqAt.EqAt.list_tuple hl hm hu
  | @tup l its vs ds hl rl pl=>
   cases hy with
   | non=>exact SeqAt.EqAt.tuple_none hl hu
   | bl b2=>exact SeqAt.EqAt.tuple_bool _ hl hu
   | int i2 t2=>exact SeqAt.EqAt.tuple_int _ _ hl hu
   | str x2 t2=>exact SeqAt.EqAt.tuple_str _ _ hl hu
   | @lst m its2 vs2 ds2 hm rm pm=>exact SeqAt.EqAt.tuple_list hl hm hu
   | @tup m its2 vs2 ds2 hm rm pm=>
    simp[okEq]at ox
 | succ n ih=>
  intro A dx dy u w hn ox oy hx hy
  have hu:A.units < cLine:=by omega
  cases hx with
  | non=>
   cases hy with
   | non=>exact SeqAt.EqAt.same _
   | bl b2=>exact SeqAt.EqAt.none_bool _
   | int i2 t2=>exact SeqAt.EqAt.none_int _ _
   | str x2 t2=>exact SeqAt.EqAt.none_str _ _
   | @lst m its2 vs2 ds2 hm rm pm=>exact SeqAt.EqAt.none_list hm hu
   | @tup m its2 vs2 ds2 hm rm pm=>exact SeqAt.EqAt.none_tuple hm hu
  | bl b=>
   cases hy with
   | non=>exact SeqAt.EqAt.bool_none _
   | bl b2=>exact SeqAt.EqAt.bool_bool _ _
   | int i2 t2=>exact SeqAt.EqAt.bool_int _ _ _
   | str x2 t2=>exact SeqAt.EqAt.bool_str _ _ _
   | @lst m its2 vs2 ds2 hm rm pm=>exact SeqAt.EqAt.bool_list _ hm hu
   | @tup m its2 vs2 ds2 hm rm pm=>exact SeqAt.EqAt.bool_tuple _ hm hu
  | int i t=>
   cases hy with
   | non=>exact SeqAt.EqAt.int_none _ _
   | bl b2=>exact SeqAt.EqAt.int_bool _ _ _
   | int i2 t2=>exact SeqAt.EqAt.int_int _ _ _ _
   | str x2 t2=>exact SeqAt.EqAt.int_str _ _ _ _
   | @lst m its2 vs2 ds2 hm rm pm=>exact SeqAt.EqAt.int_list _ _ hm hu
   | @tup m its2 vs2 ds2 hm rm pm=>exact SeqAt.EqAt.int_tuple _ _ hm hu
  | str x t=>
   cases hy with
   | non=>exact SeqAt.EqAt.str_none _ _
   | bl b2=>exact SeqAt.EqAt.str_bool _ _ _
   | int i2 t2=>exact SeqAt.EqAt.str_int _ _ _ _
   | str x2 t2=>exact SeqAt.EqAt.str_str _ _ _ _
   | @lst m its2 vs2 ds2 hm rm pm=>exact SeqAt.EqAt.str_list _ _ hm hu
   | @tup m its2 vs2 ds2 hm rm pm=>exact SeqAt.EqAt.str_tuple _ _ hm hu
  | @lst l its vs ds hl rl pl=>
   cases hy with
   | non=>exact SeqAt.EqAt.list_none hl hu
   | bl b2=>exact SeqAt.EqAt.list_bool _ hl hu
   | int i2 t2=>exact SeqAt.EqAt.list_int _ _ hl hu
   | str x2 t2=>exact SeqAt.EqAt.list_str _ _ hl hu
   | @lst m its2 vs2 ds2 hm rm pm=>
    have n1:=rl.length
    have n2:=rm.length
    have k1:=pl.2.length
    have k2:=pm.2.length
    simp only[eqD]
    by_cases hll:l=m
    ·subst hll
     have e0:=rd_lst pl.1 pm.1
     subst e0
     have e1:=Reps.uniq n ds ds2 vs (by simpa[okEq] using ox) (by simpa[okEq] using oy) pl.2 pm.2
     subst e1
     rw[eqDs_self n ds (by simpa[okEq] using ox)]
     exact SeqAt.EqAt.same _
    ·refine SeqAt.EqAt.of_refs hll ?_
     by_cases hsz:ds.length=ds2.length
     ·rw[← eqDs_len hsz]
      have:=SeqAt.RcAt.lists hl hm (by simp only[List.size_toArray];omega) hu (rc_lists I ih (by simpa[okEq] using ox) (by simpa[okEq] using oy) hn rl rm pl.2 pm.2)
      rw[show its.toArray.size=ds.length by simp only[List.size_toArray];omega]at this
      exact this
     ·rw[eqDs_ne hsz]
      exact SeqAt.RcAt.lists_lengths hl hm (by simp only[List.size_toArray,bne_iff_ne];omega) hu
   | @tup m its2 vs2 ds2 hm rm pm=>exact SeqAt.EqAt.list_tuple hl hm hu
  | @tup l its vs ds hl rl pl=>
   cases hy with
   | non=>exact SeqAt.EqAt.tuple_none hl hu
   | bl b2=>exact SeqAt.EqAt.tuple_bool _ hl hu
   | int i2 t2=>exact SeqAt.EqAt.tuple_int _ _ hl hu
   | str x2 t2=>exact SeqAt.EqAt.tuple_str _ _ hl hu
   | @lst m its2 vs2 ds2 hm rm pm=>exact SeqAt.EqAt.tuple_list hl hm hu
   | @tup m its2 vs2 ds2 hm rm pm=>
    have n1:=rl.length
    have n2:=rm.length
    have k1:=pl.2.length
    have k2:=pm.2.length
    simp only[eqD]
    by_cases hll:l=m
    ·subst hll
     have e0:=rd_tup pl.1 pm.1
     subst e0
     have e1:=Reps.uniq n ds ds2 vs (by simpa[okEq] using ox) (by simpa[okEq] using oy) pl.2 pm.2
     subst e1
     rw[eqDs_self n ds (by simpa[okEq] using ox)]
     exact SeqAt.EqAt.same _
    ·refine SeqAt.EqAt.of_refs hll ?_
     rw[← eqDs_range ds ds2]
     have:=SeqAt.RcAt.tuples hl hm hu (rc_lists I ih (by simpa[okEq] using ox) (by simpa[okEq] using oy) hn rl rm pl.2 pm.2)
     rw[show its.toArray.size=ds.length by simp only[List.size_toArray];omega,show its2.toArray.size=ds2.length by simp only[List.size_toArray];omega]at this
     exact this
theorem rc_of_vw(I:Inv X pins σ H s){n:Nat}{dx dy:D}{u w:Value}(hn:A.units + (n + 1) < cLine)(ox:okEq (n + 1) dx=true)(oy:okEq (n + 1) dy=true)(hx:Vw s Z H dx u)(hy:Vw s Z H dy w):SeqAt.RcAt A s u w (eqD dx dy):=by
 have hu:A.units < cLine:=by omega
 cases hx with
 | non=>
  cases hy with
  | non=>exact SeqAt.RcAt.none_none
  | bl b2=>exact SeqAt.RcAt.none_bool _
  | int i2 t2=>exact SeqAt.RcAt.none_int _ _
  | str x2 t2=>exact SeqAt.RcAt.none_str _ _
  | @lst m its2 vs2 ds2 hm rm pm=>exact SeqAt.RcAt.none_list hm hu
  | @tup m its2 vs2 ds2 hm rm pm=>exact SeqAt.RcAt.none_tuple hm hu
 | bl b=>
  cases hy with
  | non=>exact SeqAt.RcAt.bool_none _
  | bl b2=>exact SeqAt.RcAt.bool_bool _ _
  | int i2 t2=>exact SeqAt.RcAt.bool_int _ _ _
  | str x2 t2=>exact SeqAt.RcAt.bool_str _ _ _
  | @lst m its2 vs2 ds2 hm rm pm=>exact SeqAt.RcAt.bool_list _ hm hu
  | @tup m its2 vs2 ds2 hm rm pm=>exact SeqAt.RcAt.bool_tuple _ hm hu
 | int i t=>
  cases hy with
  | non=>exact SeqAt.RcAt.int_none _ _
  | bl b2=>exact SeqAt.RcAt.int_bool _ _ _
  | int i2 t2=>exact SeqAt.RcAt.int_int _ _ _ _
  | str x2 t2=>exact SeqAt.RcAt.int_str _ _ _ _
  | @lst m its2 vs2 ds2 hm rm pm=>exact SeqAt.RcAt.int_list _ _ hm hu
  | @tup m its2 vs2 ds2 hm rm pm=>exact SeqAt.RcAt.int_tuple _ _ hm hu
 | str x t=>
  cases hy with
  | non=>exact SeqAt.RcAt.str_none _ _
  | bl b2=>exact SeqAt.RcAt.str_bool _ _ _
  | int i2 t2=>exact SeqAt.RcAt.str_int _ _ _ _
  | str x2 t2=>exact SeqAt.RcAt.str_str _ _ _ _
  | @lst m its2 vs2 ds2 hm rm pm=>exact SeqAt.RcAt.str_list _ _ hm hu
  | @tup m its2 vs2 ds2 hm rm pm=>exact SeqAt.RcAt.str_tuple _ _ hm hu
 | @lst l its vs ds hl rl pl=>
  cases hy with
  | non=>exact SeqAt.RcAt.list_none hl hu
  | bl b2=>exact SeqAt.RcAt.list_bool _ hl hu
  | int i2 t2=>exact SeqAt.RcAt.list_int _ _ hl hu
  | str x2 t2=>exact SeqAt.RcAt.list_str _ _ hl hu
  | @lst m its2 vs2 ds2 hm rm pm=>
   have n1:=rl.length
   have n2:=rm.length
   have k1:=pl.2.length
   have k2:=pm.2.length
   simp only[eqD]
   by_cases hsz:ds.length=ds2.length
   ·rw[← eqDs_len hsz]
    have:=SeqAt.RcAt.lists hl hm (by simp only[List.size_toArray];omega) hu (rc_lists I (eq_of_vw I n) (by simpa[okEq] using ox) (by simpa[okEq] using oy) hn rl rm pl.2 pm.2)
    rw[show its.toArray.size=ds.length by simp only[List.size_toArray];omega]at this
    exact this
   ·rw[eqDs_ne hsz]
    exact SeqAt.RcAt.lists_lengths hl hm (by simp only[List.size_toArray,bne_iff_ne];omega) hu
  | @tup m its2 vs2 ds2 hm rm pm=>exact SeqAt.RcAt.list_tuple hl hm hu
 | @tup l its vs ds hl rl pl=>
  cases hy with
  | non=>exact SeqAt.RcAt.tuple_none hl hu
  | bl b2=>exact SeqAt.RcAt.tuple_bool _ hl hu
  | int i2 t2=>exact SeqAt.RcAt.tuple_int _ _ hl hu
  | str x2 t2=>exact SeqAt.RcAt.tuple_str _ _ hl hu
  | @lst m its2 vs2 ds2 hm rm pm=>exact SeqAt.RcAt.tuple_list hl hm hu
  | @tup m its2 vs2 ds2 hm rm pm=>
   have n1:=rl.length
   have n2:=rm.length
   have k1:=pl.2.length
   have k2:=pm.2.length
   simp only[eqD]
   rw[← eqDs_range ds ds2]
   have:=SeqAt.RcAt.tuples hl hm hu (rc_lists I (eq_of_vw I n) (by simpa[okEq] using ox) (by simpa[okEq] using oy) hn rl rm pl.2 pm.2)
   rw[show its.toArray.size=ds.length by simp only[List.size_toArray];omega,show its2.toArray.size=ds2.length by simp only[List.size_toArray];omega]at this
   exact this
theorem rcNe_of_vw(I:Inv X pins σ H s){n:Nat}{dx dy:D}{u w:Value}(hn:A.units + (n + 1) < cLine)(ox:okEq (n + 1) dx=true)(oy:okEq (n + 1) dy=true)(hx:Vw s Z H dx u)(hy:Vw s Z H dy w):SeqAt.RcNeAt A s u w (!eqD dx dy):=by
 have hu:A.units < cLine:=by omega
 cases hx with
 | non=>
  cases hy with
  | non=>exact SeqAt.RcNeAt.none_none
  | bl b2=>exact SeqAt.RcNeAt.none_bool _
  | int i2 t2=>exact SeqAt.RcNeAt.none_int _ _
  | str x2 t2=>exact SeqAt.RcNeAt.none_str _ _
  | @lst m its2 vs2 ds2 hm rm pm=>exact SeqAt.RcNeAt.none_list hm hu
  | @tup m its2 vs2 ds2 hm rm pm=>exact SeqAt.RcNeAt.none_tuple hm hu
 | bl b=>
  cases hy with
  | non=>exact SeqAt.RcNeAt.bool_none _
  | bl b2=>exact SeqAt.RcNeAt.bool_bool _ _
  | int i2 t2=>exact SeqAt.RcNeAt.bool_int _ _ _
  | str x2 t2=>exact SeqAt.RcNeAt.bool_str _ _ _
  | @lst m its2 vs2 ds2 hm rm pm=>exact SeqAt.RcNeAt.bool_list _ hm hu
  | @tup m its2 vs2 ds2 hm rm pm=>exact SeqAt.RcNeAt.bool_tuple _ hm hu
 | int i t=>
  cases hy with
  | non=>exact SeqAt.RcNeAt.int_none _ _
  | bl b2=>exact SeqAt.RcNeAt.int_bool _ _ _
  | int i2 t2=>exact SeqAt.RcNeAt.int_int _ _ _ _
  | str x2 t2=>exact SeqAt.RcNeAt.int_str _ _ _ _
  | @lst m its2 vs2 ds2 hm rm pm=>exact SeqAt.RcNeAt.int_list _ _ hm hu
  | @tup m its2 vs2 ds2 hm rm pm=>exact SeqAt.RcNeAt.int_tuple _ _ hm hu
 | str x t=>
  cases hy with
  | non=>exact SeqAt.RcNeAt.str_none _ _
  | bl b2=>exact SeqAt.RcNeAt.str_bool _ _ _
  | int i2 t2=>exact SeqAt.RcNeAt.str_int _ _ _ _
  | str x2 t2=>exact SeqAt.RcNeAt.str_str _ _ _ _
  | @lst m its2 vs2 ds2 hm rm pm=>exact SeqAt.RcNeAt.str_list _ _ hm hu
  | @tup m its2 vs2 ds2 hm rm pm=>exact SeqAt.RcNeAt.str_tuple _ _ hm hu
 | @lst l its vs ds hl rl pl=>
  cases hy with
  | non=>exact SeqAt.RcNeAt.list_none hl hu
  | bl b2=>exact SeqAt.RcNeAt.list_bool _ hl hu
  | int i2 t2=>exact SeqAt.RcNeAt.list_int _ _ hl hu
  | str x2 t2=>exact SeqAt.RcNeAt.list_str _ _ hl hu
  | @lst m its2 vs2 ds2 hm rm pm=>
   have n1:=rl.length
   have n2:=rm.length
   have k1:=pl.2.length
   have k2:=pm.2.length
   simp only[eqD]
   by_cases hsz:ds.length=ds2.length
   ·rw[← eqDs_len hsz]
    have:=SeqAt.RcNeAt.lists hl hm (by simp only[List.size_toArray];omega) hu (rc_lists I (eq_of_vw I n) (by simpa[okEq] using ox) (by simpa[okEq] using oy) hn rl rm pl.2 pm.2)
    rw[show its.toArray.size=ds.length by simp only[List.size_toArray];omega]at this
    exact this
   ·rw[eqDs_ne hsz]
    exact SeqAt.RcNeAt.lists_lengths hl hm (by simp only[List.size_toArray,bne_iff_ne];omega) hu
  | @tup m its2 vs2 ds2 hm rm pm=>exact SeqAt.RcNeAt.list_tuple hl hm hu
 | @tup l its vs ds hl rl pl=>
  cases hy with
  | non=>exact SeqAt.RcNeAt.tuple_none hl hu
  | bl b2=>exact SeqAt.RcNeAt.tuple_bool _ hl hu
  | int i2 t2=>exact SeqAt.RcNeAt.tuple_int _ _ hl hu
  | str x2 t2=>exact SeqAt.RcNeAt.tuple_str _ _ hl hu
  | @lst m its2 vs2 ds2 hm rm pm=>exact SeqAt.RcNeAt.tuple_list hl hm hu
  | @tup m its2 vs2 ds2 hm rm pm=>
   have n1:=rl.length
   have n2:=rm.length
   have k1:=pl.2.length
   have k2:=pm.2.length
   simp only[eqD]
   rw[← eqDs_range ds ds2]
   have:=SeqAt.RcNeAt.tuples hl hm hu (rc_lists I (eq_of_vw I n) (by simpa[okEq] using ox) (by simpa[okEq] using oy) hn rl rm pl.2 pm.2)
   rw[show its.toArray.size=ds.length by simp only[List.size_toArray];omega,show its2.toArray.size=ds2.length by simp only[List.size_toArray];omega]at this
   exact this
end
end Mir
namespace Mir
open PySem PySem.Spec PyProof.Rows L2
theorem Vw.uniq{s:Shared}{Z:Addr->Prop}{H:Hp}{n:Nat}{d d':D}{u:Value}(h:Vw s Z H d u)(h':Vw s Z H d' u)(o:okEq n d=true)(o':okEq n d'=true):d=d':=by
 cases h with
 | non=>cases h';rfl
 | bl b=>cases h';rfl
 | int i t=>cases h';rfl
 | str x t=>cases h';rfl
 | @lst l its vs ds hl rl pl=>
  cases h' with
  | @lst _ its2 vs2 ds2 hm rm pm=>
   cases rd_lst pl.1 pm.1
   cases n with
   | zero=>simp[okEq]at o
   | succ n=>rw[Reps.uniq n ds ds2 vs (by simpa[okEq] using o) (by simpa[okEq] using o') pl.2 pm.2]
  | @tup _ its2 vs2 ds2 hm rm pm=>exact(rd_lt pl.1 pm.1).elim
 | @tup l its vs ds hl rl pl=>
  cases h' with
  | @tup _ its2 vs2 ds2 hm rm pm=>
   cases rd_tup pl.1 pm.1
   cases n with
   | zero=>simp[okEq]at o
   | succ n=>rw[Reps.uniq n ds ds2 vs (by simpa[okEq] using o) (by simpa[okEq] using o') pl.2 pm.2]
  | @lst _ its2 vs2 ds2 hm rm pm=>exact(rd_lt pm.1 pl.1).elim
section
variable{X:Cx}{pins:List (Addr×Obj)}{σ:L2.St}{Z:Addr->Prop}{H:Hp}{s:Shared}
noncomputable def eqTo(s:Shared)(Z:Addr->Prop)(H:Hp)(dx:D)(u:Value):Bool:=@decide (∃ d,okEq 8 d=true/\Vw s Z H d u/\eqD d dx=true) (Classical.propDecidable _)
theorem eqTo_of{dx d:D}{u:Value}(o:okEq 8 d=true)(h:Vw s Z H d u):eqTo s Z H dx u=eqD d dx:=by
 unfold eqTo
 cases e:eqD d dx with
 | true=>exact @decide_eq_true _ (Classical.propDecidable _) ⟨d,o,h,e⟩
 | false=>
  refine @decide_eq_false _ (Classical.propDecidable _) ?_
  rintro⟨d',o',h',e'⟩
  rw[Vw.uniq h' h o' o,e]at e'
  cases e'
theorem any_eqTo(I:Inv X pins σ H s){dx:D}:∀ {ds:List D} {vs:List V} {its:List Value},Reps Z H ds vs->Vals vs its->(∀ d∈ds,okEq 8 d=true)->its.any (eqTo s Z H dx)=ds.any fun d=>eqD d dx
 | [],_,_,h,r,_=>by rw[h.nil_inv]at r;cases r;rfl
 | d::ds,_,_,h,r,o=>by
  obtain⟨v,vr,rfl,h1,h2⟩:=h.cons_inv
  cases r with
  | cons r1 r2=>
   rw[List.any_cons,List.any_cons,any_eqTo I h2 r2 fun z hz=>o z (by simp[hz]),eqTo_of (o d (by simp)) (vw_of I h1.now r1 (o d (by simp)))]
theorem mem_eqTo(I:Inv X pins σ H s){A:Around}{dx:D}{w:Value}(hu:A.units + 8 < cLine)(ox:okEq 8 dx=true)(hx:Vw s Z H dx w) :
  ∀ {ds:List D} {vs:List V} {its:List Value},Reps Z H ds vs->Vals vs its->(∀ d∈ds,okEq 8 d=true)->∀ u∈its,SeqAt.EqAt A s u w (eqTo s Z H dx u)
 | [],_,_,h,r,_,u,hm=>by rw[h.nil_inv]at r;cases r;simp at hm
 | d::ds,_,_,h,r,o,u,hm=>by
  obtain⟨v,vr,rfl,h1,h2⟩:=h.cons_inv
  cases r with
  | cons r1 r2=>
   rcases List.mem_cons.mp hm with e | hm
   ·subst e
    have vw:=vw_of I h1.now r1 (o d (by simp))
    rw[eqTo_of (o d (by simp)) vw]
    exact eq_of_vw I 8 A d dx _ w hu (o d (by simp)) ox vw hx
   ·exact mem_eqTo I hu ox hx h2 r2 (fun z hz=>o z (by simp[hz])) u hm
end
section
variable{X:Cx}{Γ:Fns}{bw:Bool}{a b e:Expr}{ca cb cc c:Ex}{pos:Pos}
noncomputable def rCmp(op:CmpOp):R2:=fun x y H Q=>∃ Z dx dy k,Now Z H dx x/\Now Z H dy y/\cmpD op dx dy=.ok k/\Q (.bl k) H
theorem now_dct_ref{Z:Addr->Prop}{H:Hp}{ks:List L2.Key}{ds:List D}{x:V}(h:Now Z H (.dct ks ds) x):∃ a,x=.ref a:=by
 have h:Rep Z H (.dct ks ds) x:=h
 simp only[Rep]at h
 obtain⟨a,_,e,_⟩:=h
 exact⟨a,e⟩
theorem is_ok{Z:Addr->Prop}{H:Hp}{dx dy:D}{x y:V}{k:Bool}{u v:Value}(nx:Now Z H dx x)(ny:Now Z H dy y)(rx:RelV x u)(ry:RelV y v)(h:isD dx dy=.ok k):plainIs u v=true/\(u == v)=k:=by
 have lstR:∀ {ds:List D} {x:V} {u:Value},Now Z H (.lst ds) x->RelV x u->∃ a,u=.ref a:=fun n r=>by
  obtain⟨a,_,rfl,_⟩:=now_lst n;exact⟨a,r⟩
 have tupR:∀ {ds:List D} {x:V} {u:Value},Now Z H (.tup ds) x->RelV x u->∃ a,u=.ref a:=fun n r=>by
  obtain⟨a,_,rfl,_⟩:=now_tup n;exact⟨a,r⟩
 cases dy with
 | non=>
  cases now_non ny
  cases ry
  cases dx with
  | non=>cases now_non nx;cases rx;cases h;exact⟨rfl,rfl⟩
  | bl b=>cases now_bl nx;cases rx;cases h;exact⟨rfl,rfl⟩
  | int i=>cases now_int nx;obtain⟨t,rfl⟩:=rx;cases h;exact⟨rfl,rfl⟩
  | str i=>cases now_str nx;obtain⟨t,rfl⟩:=rx;cases h;exact⟨rfl,rfl⟩
  | lst ds=>obtain⟨a,rfl⟩:=lstR nx rx;cases h;exact⟨rfl,rfl⟩
  | tup ds=>obtain⟨a,rfl⟩:=tupR nx rx;cases h;exact⟨rfl,rfl⟩
  | dct ks ds=>obtain⟨a,rfl⟩:=now_dct_ref nx;cases rx;cases h;exact⟨rfl,rfl⟩
  | ref n=>exact(show False by simpa only [Now,Rep] using nx).elim
 | bl c=>
  cases now_bl ny
  cases ry
  cases dx with
  | non=>cases now_non nx;cases rx;cases h;exact⟨rfl,rfl⟩
  | bl b=>cases now_bl nx;cases rx;cases h;exact⟨rfl,by cases b<;>cases c<;>rfl⟩
  | int i=>cases now_int nx;obtain⟨t,rfl⟩:=rx;cases h;exact⟨rfl,rfl⟩
  | str i=>cases now_str nx;obtain⟨t,rfl⟩:=rx;cases h;exact⟨rfl,rfl⟩
  | lst ds=>obtain⟨a,rfl⟩:=lstR nx rx;cases h;exact⟨rfl,rfl⟩
  | tup ds=>obtain⟨a,rfl⟩:=tupR nx rx;cases h;exact⟨rfl,rfl⟩
  | dct ks ds=>cases h
  | ref n=>cases h
 | int _=>cases dx<;>cases h
 | str _=>cases dx<;>cases h
 | lst _=>cases dx<;>cases h
 | tup _=>cases dx<;>cases h
 | dct _ _=>cases dx<;>cases h
 | ref _=>cases dx<;>cases h
theorem in_ok{pins:List (Addr×Obj)}{s:Shared}{σ:L2.St}{H:Hp}{x y:V}{u v:Value}{Q:VK}(hu:X.A.units + 64 < cLine)(I:Inv X pins σ H s)(rx:RelV x u)(ry:RelV y v)
  {Z:Addr->Prop} {dx dy:D} {k:Bool} (nx:Now Z H dx x) (ny:Now Z H dy y) (e:inD dx dy=.ok k) :
  (Q (.bl k) H->wpAny (model X.prog X.w) X.A (compareOp .In u v) (EP X pins σ Q) X.xe s)/\(Q (.bl !k) H->wpAny (model X.prog X.w) X.A (compareOp .NotIn u v) (EP X pins σ Q) X.xe s):=by
 unfold inD at e
 split at e
 ·rename_i ys
  split at e
  ·rename_i hc
   cases e
   simp only[Bool.and_eq_true]at hc
   obtain⟨ox,os⟩:=hc
   have os:=List.all_eq_true.mp os
   obtain⟨l,vs,rfl,h1,h2⟩:=now_lst ny
   cases ry
   obtain⟨its,rv,p,hz⟩:=I.list (sqL (K:=X.K) h1)
   have vw:=vw_of I nx rx ox
   have hm:∀ w,w∈its.toArray->SeqAt.EqAt X.A.in1 s w u (eqTo s Z H dx w):=fun w hw=>mem_eqTo I (A:=X.A.in1) (by show X.A.units + 1 + 8 < cLine;omega) ox vw h2 rv os w (by simpa using hw)
   have ea:its.toArray.any (eqTo s Z H dx)=ys.any fun y=>eqD y dx:=by
    rw[← any_eqTo I h2 rv os];simp
   exact⟨fun q=>SeqAt.in_listAt (eqTo s Z H dx) p.isList hm ⟨.bl _,H,I,rfl,by rw[ea];exact q⟩,fun q=>SeqAt.notIn_listAt (eqTo s Z H dx) p.isList hm ⟨.bl _,H,I,rfl,by rw[ea];exact q⟩⟩
  ·cases e
 ·rename_i ys
  split at e
  ·rename_i hc
   cases e
   simp only[Bool.and_eq_true]at hc
   obtain⟨ox,os⟩:=hc
   have os:=List.all_eq_true.mp os
   obtain⟨l,vs,rfl,_,h1,h2⟩:=now_tup ny
   cases ry
   obtain⟨its,rv,p,hz⟩:=I.tuple (sqT (K:=X.K) h1)
   have vw:=vw_of I nx rx ox
   have hm:∀ w,w∈its.toArray->SeqAt.EqAt X.A.in1 s w u (eqTo s Z H dx w):=fun w hw=>mem_eqTo I (A:=X.A.in1) (by show X.A.units + 1 + 8 < cLine;omega) ox vw h2 rv os w (by simpa using hw)
   have ea:its.toArray.any (eqTo s Z H dx)=ys.any fun y=>eqD y dx:=by
    rw[← any_eqTo I h2 rv os];simp
   exact⟨fun q=>SeqAt.in_tupleAt (eqTo s Z H dx) p hm ⟨.bl _,H,I,rfl,by rw[ea];exact q⟩,fun q=>SeqAt.notIn_tupleAt (eqTo s Z H dx) p hm ⟨.bl _,H,I,rfl,by rw[ea];exact q⟩⟩
  ·cases e
 ·cases e
  cases now_str nx
  cases now_str ny
  exact⟨fun q=>op_in_str pins s σ H _ _ u v Q I rx ry ⟨_,_,rfl,rfl,q⟩,fun q=>op_notin_str pins s σ H _ _ u v Q I rx ry ⟨_,_,rfl,rfl,q⟩⟩
 ·cases e
theorem op_cmp(hu:X.A.units + 64 < cLine)(op:CmpOp):OpR X (compareOp op) (rCmp op):=by
 intro pins s σ H x y u v Q I rx ry h
 obtain⟨Z,dx,dy,k,nx,ny,e,q⟩:=h
 have fin:EP X pins σ Q (.bool k) s:=⟨.bl k,H,I,rfl,q⟩
 have intc:∀ {i j:Int} {o:CmpOp} {g:Int->Int->Bool},OpR X (compareOp o) (rI0 fun i j=>.bl (g i j))->dx=.int i->dy=.int j->k=g i j->wpAny (model X.prog X.w) X.A (compareOp o u v) (EP X pins σ Q) X.xe s:=by
  intro i j o g h1 e1 e2 e3
  subst e1 e2 e3
  cases now_int nx
  cases now_int ny
  exact h1 pins s σ H _ _ u v Q I rx ry ⟨_,_,rfl,rfl,q⟩
 cases op with
 | Eq=>
  simp only[cmpD]at e
  split at e
  ·rename_i hc
   cases e
   simp only[Bool.and_eq_true]at hc
   exact rc_of_vw I (n:=7) (by omega) hc.1 hc.2 (vw_of I nx rx hc.1) (vw_of I ny ry hc.2) X.prog X.w X.xe _ fin
  ·cases e
 | NotEq=>
  simp only[cmpD]at e
  split at e
  ·rename_i hc
   cases e
   simp only[Bool.and_eq_true]at hc
   exact rcNe_of_vw I (n:=7) (by omega) hc.1 hc.2 (vw_of I nx rx hc.1) (vw_of I ny ry hc.2) X.prog X.w X.xe _ fin
  ·cases e
 | Lt=>cases dx<;>cases dy<;>simp only[cmpD]at e<;>first | (cases e;exact intc op_lt rfl rfl rfl) | cases e
 | LtE=>cases dx<;>cases dy<;>simp only[cmpD]at e<;>first | (cases e;exact intc op_le rfl rfl rfl) | cases e
 | Gt=>cases dx<;>cases dy<;>simp only[cmpD]at e<;>first | (cases e;exact intc op_gt rfl rfl rfl) | cases e
 | GtE=>cases dx<;>cases dy<;>simp only[cmpD]at e<;>first | (cases e;exact intc op_ge rfl rfl rfl) | cases e
 | In=>
  have e:inD dx dy=.ok k:=by cases dx<;>cases dy<;>exact e
  exact(in_ok hu I rx ry nx ny e).1 q
 | NotIn=>
  have e:(do let b ← inD dx dy;Out.ok (!b))=.ok k:=by cases dx<;>cases dy<;>exact e
  obtain⟨b,e1,e2⟩:=bind_inv e
  cases e2
  exact(in_ok hu I rx ry nx ny e1).2 q
 | Is=>
  have e:isD dx dy=.ok k:=by cases dx<;>cases dy<;>exact e
  obtain⟨h1,h2⟩:=is_ok nx ny rx ry e
  exact wpAny_is_plain h1 (by rw[h2];exact fin)
 | IsNot=>
  have e:(do let b ← isD dx dy;Out.ok (!b))=.ok k:=by cases dx<;>cases dy<;>exact e
  obtain⟨b,e1,e2⟩:=bind_inv e
  cases e2
  obtain⟨h1,h2⟩:=is_ok nx ny rx ry e1
  exact wpAny_isNot_plain h1 (by rw[h2];exact fin)
theorem cmp_ok{op:CmpOp}{dx dy:D}{x y:V}{Z:Addr->Prop}{H:Hp}{own:Bool}{d:D}{Q:VK}(nx:Now Z H dx x)(ny:Now Z H dy y)(dom:∀ a,Z a->H a≠none)
  (ee:(do let r ← cmpD op dx dy;Out.ok (false,D.bl r))=.ok (own,d)) (k:∀ v H' Z',Grow Z H Z' H'->Res1 bw own Z' H H' d v->Q v H'):rCmp op x y H Q:=by
 obtain⟨r,e1,e2⟩:=bind_inv ee
 cases e2
 exact⟨Z,dx,dy,r,nx,ny,e1,k _ H Z (Grow.refl dom) (.rep (flat_rep rfl))⟩
end
theorem PT.imp{X:Cx}{e:Expr}{t t':TT}(h:PT X e t)(i:∀ σ H Q,t' σ H Q->t σ H Q):PT X e t':=fun pins s σ H Q I q=>h pins s σ H Q I (i σ H Q q)
theorem PW.imp{X:Cx}{e:Expr}{t t':TT}(h:PW X e t)(i:∀ σ H Q,t' σ H Q->t σ H Q):PW X e t':=fun wh pins s σ H Q I q=>h wh pins s σ H Q I (i σ H Q q)
section
variable{X:Cx}{Γ:Fns}{bw:Bool}{a b e:Expr}{ca cb cc c:Ex}{pos:Pos}
theorem tru_of{Z:Addr->Prop}{H:Hp}{d:D}{x:V}{t:Bool}{K:PySem.W.Frag}(n:Now Z H d x)(h:truD d=some t):TruV K x H t:=by
 cases d with
 | non=>cases now_non n;cases h;rfl
 | bl b=>cases now_bl n;cases h;rfl
 | int b=>cases now_int n;cases h;rfl
 | str b=>
  cases now_str n
  simp only[truD]at h
  split at h
  ·rename_i hs
   cases h
   refine⟨small_iff hs,?_⟩
   have e:((b.length:Int) != 0)=(b.length != 0):=by
    rw[Bool.eq_iff_iff];simp only[bne_iff_ne,ne_eq];omega
   rw[e]
  ·cases h
 | lst ds=>
  obtain⟨a,vs,rfl,h1,h2⟩:=now_lst n
  cases h
  refine .inl ⟨vs,sqL h1,?_⟩
  have:=h2.length
  cases ds<;>cases vs<;>simp at this ⊢
 | tup ds=>
  obtain⟨a,vs,rfl,_,h1,h2⟩:=now_tup n
  cases h
  refine .inr (.inl ⟨vs,sqT h1,?_⟩)
  have:=h2.length
  cases ds<;>cases vs<;>simp at this ⊢
 | dct ks ds=>cases h
 | ref k=>cases h
end
end Mir
namespace Mir
open PySem PySem.Spec PyProof.Rows L2
noncomputable def Nows(Z:Addr->Prop)(H:Hp):List D->List V->Prop
 | [],vs=>vs=[]
 | d::ds,vs=>∃ v r,vs=v::r/\Now Z H d v/\Nows Z H ds r
section
variable{Z Z':Addr->Prop}{H H':Hp}
theorem Nows.mono(k:Same H H')(z:∀ a,Z a->Z' a):∀ {ds:List D} {vs:List V},Nows Z H ds vs->Nows Z' H' ds vs
 | [],_,h=>h
 | d::ds,_,⟨v,r,e,h1,h2⟩=>⟨v,r,e,h1.mono k z,Nows.mono k z h2⟩
theorem Nows.one{d:D}{xs:List V}(h:Nows Z H [d] xs):∃ x,xs=[x]/\Now Z H d x:=by
 obtain⟨v,r,e,h1,h2⟩:=h
 exact⟨v,by rw[e,show r=[] from h2],h1⟩
theorem Nows.two{d d':D}{xs:List V}(h:Nows Z H [d,d'] xs):∃ x y,xs=[x,y]/\Now Z H d x/\Now Z H d' y:=by
 obtain⟨v,r,e,h1,v',r',e',h2,h3⟩:=h
 exact⟨v,v',by rw[e,e',show r'=[] from h3],h1,h2⟩
end
noncomputable def Args(bw:Bool)(Z:Addr->Prop)(H:Hp)(ds:List D)(vs:List V):Prop:=if bw=true then Nows Z H ds vs else Reps Z H ds vs
theorem PA.imp{X:Cx}{e:List Expr}{t t':TA}(h:PA X e t)(i:∀ σ H Q,t' σ H Q->t σ H Q):PA X e t':=fun pos pins s σ H Q I q=>h pos pins s σ H Q I (i σ H Q q)
section
variable{X:Cx}{Γ:Fns}{bw:Bool}{a b e:Expr}{es:List Expr}{ca cb cc c cs:Ex}{pos p:Pos}
theorem at_map{Z:Addr->Prop}{H:Hp}{ds:List D}{vs:List V}{i:Int}{d:D}(h:Reps Z H ds vs)(e:atI ds i=some d):∃ v,atI vs i=some v/\Rep Z H d v:=by
 unfold atI at e ⊢
 rw[h.length]
 cases q:ixN ds.length i with
 | none=>rw[q]at e;cases e
 | some j=>
  rw[q]at e
  exact h.get e
theorem idx_ok{dx dy:D}{x y:V}{Z:Addr->Prop}{H:Hp}{own:Bool}{d:D}{Q:VK}{K:PySem.W.Frag}(nx:Now Z H dx x)(ny:Now Z H dy y)(dom:∀ a,Z a->H a≠none)(ee:idxD dx dy=.ok (own,d))
  (k:∀ v H' Z',Grow Z H Z' H'->Res1 bw own Z' H H' d v->Q v H'):rIx K x y H Q:=by
 unfold idxD at ee
 split at ee
 ·obtain⟨l,xs,rfl,h1,h2⟩:=now_lst nx
  cases now_int ny
  split at ee
  ·rename_i d' hd
   cases ee
   obtain⟨v,hv,rv⟩:=at_map h2 hd
   exact .inl ⟨l,xs,_,v,rfl,rfl,sqL h1,hv,k v H Z (Grow.refl dom) (.rep rv)⟩
  ·cases ee
 ·obtain⟨l,xs,rfl,_,h1,h2⟩:=now_tup nx
  cases now_int ny
  split at ee
  ·rename_i d' hd
   cases ee
   obtain⟨v,hv,rv⟩:=at_map h2 hd
   exact .inr (.inl ⟨l,xs,_,v,rfl,rfl,sqT h1,hv,k v H Z (Grow.refl dom) (.rep rv)⟩)
  ·cases ee
 ·cases now_str nx
  cases now_int ny
  split at ee
  ·rename_i hs
   split at ee
   ·rename_i c' hd
    cases ee
    exact .inr (.inr ⟨_,_,c',rfl,rfl,small_iff hs,hd,k _ H Z (Grow.refl dom) (.rep (flat_rep rfl))⟩)
   ·cases ee
  ·cases ee
 ·cases ee
theorem cutL_len{α:Type}(xs:List α)(lo hi:Option Int):(cutL xs lo hi).length<=xs.length:=by
 unfold cutL
 rw[List.length_take,List.length_drop]
 omega
theorem clip_ix(n d:Nat)(v:Int):max 0 (min (if v < 0 then v + (n:Int) else v) (n:Int))=((HT.sIx n d (some v):Nat):Int):=by
 show max 0 (min (if v < 0 then v + (n:Int) else v) (n:Int))=(((if v < 0 then (v + (n:Int)).toNat else min v.toNat n):Nat):Int)
 by_cases hv:v < 0
 ·simp only[if_pos hv];omega
 ·simp only[if_neg hv];omega
theorem range_ix{a b:Int}{p q:Nat}(ha:a=p)(hb:b=q):sliceRange a b 1=(List.range (q - p)).map fun k=>p + k:=by
 subst ha hb
 unfold sliceRange
 simp only[show((1:Int) > 0)=True from by simp,if_true]
 by_cases hlt:(p:Int) < q
 ·rw[if_pos hlt]
  have e3:(((q:Int) - p + 1 - 1) / 1).toNat=q - p:=by first | omega | (simp;done) | (simp;omega)
  rw[e3]
  refine List.map_congr_left fun k _ => ?_
  omega
 ·rw[if_neg hlt]
  have:q - p=0:=by omega
  rw[this];rfl
theorem indices_ix(lo hi:Option Int)(n:Nat):Builtin.Str.strSliceIndices lo hi 1 n=(List.range (HT.sIx n n hi - HT.sIx n 0 lo)).map fun k=>HT.sIx n 0 lo + k:=by
 unfold Builtin.Str.strSliceIndices
 simp only[show((1:Int) > 0)=True from by simp,if_true]
 refine range_ix ?_ ?_
 ·cases lo with
  | none=>rfl
  | some v=>exact clip_ix n 0 v
 ·cases hi with
  | none=>rfl
  | some v=>exact clip_ix n n v
theorem pick_list:∀ (n a:Nat) (l:List Nat),a + n<=l.length->((List.range n).map fun k=>a + k).filterMap (fun i=>l[i]?)=(l.drop a).take n:=by
 intro n
 induction n with
 | zero=>intro a l _;simp
 | succ n ih=>
  intro a l h
  have hlt:a + n < l.length:=by omega
  rw[List.range_succ,List.map_append,List.filterMap_append,ih a l (by omega),List.take_add_one,List.getElem?_drop]
  simp[List.getElem?_eq_getElem hlt]
theorem pick_cut(x:Str)(lo hi:Option Int):(Builtin.Str.strSliceIndices lo hi 1 x.length).filterMap (x.cps[·]?)=cutL x.cps.toList lo hi:=by
 have hn:x.cps.toList.length=x.length:=by simp[Str.length]
 have l1:=HT.sIx_le x.length 0 (Nat.zero_le _) lo
 have l2:=HT.sIx_le x.length x.length (Nat.le_refl _) hi
 rw[indices_ix]
 unfold cutL
 rw[hn]
 generalize HT.sIx x.length 0 lo=p at *
 generalize HT.sIx x.length x.length hi=q at *
 by_cases hqp:p<=q
 ·have:=pick_list (q - p) p x.cps.toList (by rw[hn];omega)
  simpa using this
 ·have:q - p=0:=by omega
  rw[this];simp
noncomputable def rSlS:V->Option Int->Option Int->Hp->VK->Prop:=fun x lo hi H Q=>∃ z,x=.str z/\z.length<=sizeLine/\Q (.str ⟨(cutL z.cps.toList lo hi).toArray⟩) H
theorem sl_str:SlR X rSlS:=by
 intro pins s σ H x v vl vu lo hi sl Q I rx hs pl pu h
 obtain⟨z,rfl,hz,q⟩:=h
 obtain⟨t,rfl⟩:=rx
 refine⟨"str",_,F.slot_str_getitem.lookup,typeIs_str _ _ _,?_⟩
 have part:∀ {w:Value} {o:Option Int},IsPart w o->∃ p:Option (Int×Tok),w=partValue p/\p.map (·.1)=o:=fun h=>by
  cases h with
  | none=>exact⟨none,rfl,rfl⟩
  | int i t=>exact⟨some (i,t),rfl,rfl⟩
 obtain⟨p1,e1,m1⟩:=part pl
 obtain⟨p2,e2,m2⟩:=part pu
 subst e1 e2
 refine wpAny_getItem_str_slice (l:=p1) (u:=p2) (st:=none) hs rfl ?_
 have ep:(slicePicked z p1 p2 none).filterMap (z.cps[·]?)=cutL z.cps.toList lo hi:=by
  unfold slicePicked
  rw[m1,m2]
  exact pick_cut z lo hi
 have hl:(cutL z.cps.toList lo hi).length<=z.length:=by
  have:=cutL_len z.cps.toList lo hi
  simpa[Str.length] using this
 unfold sliceMade
 split
 ·rename_i hc
  have hw:(slicePicked z p1 p2 none).length=z.length:=by
   simp only[Bool.and_eq_true,beq_iff_eq]at hc
   exact hc.2
  have ez:(⟨(cutL z.cps.toList lo hi).toArray⟩:Str)=z:=by
   unfold slicePicked at hw
   rw[m1,m2]at hw
   have hw:(Builtin.Str.strSliceIndices lo hi 1 z.length).length=z.length:=hw
   rw[indices_ix,List.length_map,List.length_range]at hw
   have l2:=HT.sIx_le z.length z.length (Nat.le_refl _) hi
   have hn:z.cps.toList.length=z.length:=by simp[Str.length]
   have ec:cutL z.cps.toList lo hi=z.cps.toList:=by
    unfold cutL
    rw[hn]
    by_cases h0:z.length=0
    ·have:z.cps.toList=[]:=List.eq_nil_of_length_eq_zero (by rw[hn];exact h0)
     rw[this];simp
    ·have p0:HT.sIx z.length 0 lo=0:=by omega
     rw[p0,List.drop_zero,List.take_of_length_le (by rw[hn];omega)]
   rw[ec]
  refine⟨.str z,H,I,⟨t,rfl⟩,?_⟩
  rw[ez]at q
  exact q
 ·rw[ep]
  refine⟨?_,.str _,H,I.tok _,⟨_,rfl⟩,q⟩
  show(cutL z.cps.toList lo hi).toArray.size<=sizeLine
  rw[List.size_toArray]
  omega
noncomputable def rSl(K:PySem.W.Frag):V->Option Int->Option Int->Hp->VK->Prop:=fun x lo hi H Q=>rSlL K x lo hi H Q\/rSlS x lo hi H Q
end
end Mir
namespace Mir
open PySem PySem.Spec PyProof.Rows L2
noncomputable def pureSp(F:List D->Out Rs):Sp:=fun vs H Q _=>
 ∃ Z ds own d,(∀ a,Z a->H a≠none)/\Reps Z H ds vs/\F ds=.ok (own,d)/\∀ v H' Z',Grow Z H Z' H'->Res1 false own Z' H H' d v->Q v H'
theorem Res1.weak{bw own:Bool}{Z:Addr->Prop}{Hb H:Hp}{d:D}{v:V}(h:Res1 false own Z Hb H d v):Res1 bw own Z Hb H d v:=by
 unfold Res1 at h ⊢
 split
 ·rename_i ho;rw[if_pos ho]at h;exact h
 ·rename_i ho;rw[if_neg ho,if_neg Bool.false_ne_true]at h
  split
  ·exact h.now
  ·exact h
section
variable{X:Cx}{Γ:Fns}{bw:Bool}{a b e:Expr}{es:List Expr}{ca cb cc c cs:Ex}{pos p:Pos}
structure FnIn(X:Cx)(k:Nat)(x:Str)(F:List D->Out Rs):Prop where
 ex:∃ (f:Addr) (fd:FuncData) (ps:List Str),X.mg x=some (.ref f)/\PySem.W.keepIn X.K (.ref f)=true/\Binds X.K fd ps []/\FnOk X.prog X.w X.K X.mg X.base CX0 k f fd ps (pureSp F)
inductive TruAt (h:Heap):Value->Bool->Prop where
 | non:TruAt h .none false
 | bl (b:Bool):TruAt h (.bool b) b
 | int (i:Int) (t:Tok):TruAt h (.int i t) (i != 0)
 | str (x:Str) (t:Tok):x.length<=sizeLine->TruAt h (.str x t) ((x.length:Int) != 0)
 | lst {l:Addr} {its:Array Value}:h.IsList l its->its.size<=sizeLine->TruAt h (.ref l) (!its.isEmpty)
 | tup {l:Addr} {its:Array Value}:IsTup h l its->its.size<=sizeLine->TruAt h (.ref l) (!its.isEmpty)
theorem TruAt.keep{h h':Heap}{u:Value}{t:Bool}(k:∀ b o,(u=.ref b)->h.get? b=some o->h'.get? b=some o)(x:TruAt h u t):TruAt h' u t:=by
 cases x with
 | non=>exact .non
 | bl=>exact .bl _
 | int i t=>exact .int i t
 | str x t z=>exact .str x t z
 | lst q z=>obtain⟨o,h1,h2⟩:=q;exact .lst ⟨o,k _ o rfl h1,h2⟩ z
 | tup q z=>obtain⟨o,h1,h2⟩:=q;exact .tup ⟨o,k _ o rfl h1,h2⟩ z
theorem TruAt.run{prog:Program}{w:World}{A:Around}{E:Value->Shared->Prop}{s:Shared}{u:Value}{t:Bool}{Q:Bool->Shared->Prop}(x:TruAt s.heap u t)(q:∀ tk,Q t { s with toks:=tk }):wpAny (model prog w) A (truthy u) Q E s:=by
 have hl:=line63
 cases x with
 | non=>exact truthy_none (q s.toks)
 | bl=>exact wpAny_truthy_bool (q s.toks)
 | int i t=>exact PySem.P.truthy_int (q s.toks)
 | str x t z=>exact PySem.P.truthy_str (by omega) (q _)
 | lst h z=>exact wpAny_truthy_list h (by omega) (q _)
 | tup h z=>exact truthy_tuple h (by omega) (q _)
theorem truAt_of{pins:List (Addr×Obj)}{σ:L2.St}{H:Hp}{s:Shared}{Z:Addr->Prop}{d:D}{v:V}{u:Value}{t:Bool}(I:Inv X pins σ H s)(n:Now Z H d v)(r:RelV v u)(h:truD d=some t):TruAt s.heap u t:=by
 cases d with
 | non=>cases now_non n;cases r;cases h;exact .non
 | bl b=>cases now_bl n;cases r;cases h;exact .bl _
 | int b=>cases now_int n;obtain⟨k,rfl⟩:=r;cases h;exact .int _ _
 | str b=>
  cases now_str n
  obtain⟨k,rfl⟩:=r
  simp only[truD]at h
  split at h
  ·rename_i hs
   cases h
   have e:((b.length:Int) != 0)=(b.length != 0):=by
    rw[Bool.eq_iff_iff];simp only[bne_iff_ne,ne_eq];omega
   rw[← e]
   exact .str b k (small_iff hs)
  ·cases h
 | lst ds=>
  obtain⟨a,vs,rfl,h1,h2⟩:=now_lst n
  cases r
  cases h
  obtain⟨its,rv,p,hz⟩:=I.list (sqL (K:=X.K) h1)
  have e:(!ds.isEmpty) = !its.toArray.isEmpty:=by
   have k1:=h2.length
   have k2:=rv.length
   cases ds<;>cases vs<;>cases its<;>simp at k1 k2 ⊢
  rw[e]
  exact .lst p.isList (by rw[List.size_toArray,← rv.length];exact hz)
 | tup ds=>
  obtain⟨a,vs,rfl,_,h1,h2⟩:=now_tup n
  cases r
  cases h
  obtain⟨its,rv,p,hz⟩:=I.tuple (sqT (K:=X.K) h1)
  have e:(!ds.isEmpty) = !its.toArray.isEmpty:=by
   have k1:=h2.length
   have k2:=rv.length
   cases ds<;>cases vs<;>cases its<;>simp at k1 k2 ⊢
  rw[e]
  exact .tup p (by rw[List.size_toArray,← rv.length];exact hz)
 | dct ks ds=>cases h
 | ref k=>cases h
section
variable{prog:Program}{w:World}{A:Around}{R:Result->Shared->Prop}{J:Addr}{fp wr:List Addr}{n:Nat}{P:Nat->Value->Prop}{T:Nat->Heap->Prop}
theorem all_walk(W:Walks prog w A.in1 J fp wr n P T)(tr:Nat->Bool)(G:Heap->Prop)(gk:∀ h h':Heap,G h->(∀ b o,b∉wr->h.get? b=some o->h'.get? b=some o)->G h')
  (ht:∀ i v (h:Heap),P i v->G h->TruAt h v (tr i)):∀ (m i:Nat) (s:Shared),n - i=m->i<=n->T i s.heap->G s.heap ->
  (∀ h' tk,(∀ b o,b∉wr->s.heap.get? b=some o->h'.get? b=some o)->R (.ok (.ret (.bool (((List.range n).drop i).all tr)))) { s with heap:=h',toks:=tk }) ->
  codeAny (model prog w) A (.builtin "all.loop" ⟨[.ref J],[]⟩) R s:=by
 intro m
 induction m with
 | zero=>
  intro i s hm hi st g fin
  obtain rfl:i=n:=by omega
  refine codeAny_builtin PySem.F.entry_all_loop ?_
  rw[Around.under_plainId PySem.F.plain_all_loop _]
  refine wpAny_bind (m:=pyNext (.ref J)) (W.done s _ _ st fun h' tk kp=>wpAny_bind (wpAny_rule (wpAny_pure ?_)))
  have q:=fin h' tk kp
  rw[List.drop_of_length_le (by simp)]at q
  exact q
 | succ m ih=>
  intro i s hm hi st g fin
  have lt:i < n:=by omega
  have dr:(List.range n).drop i=i::(List.range n).drop (i + 1):=by
   rw[List.drop_eq_getElem_cons (by simpa using lt)];simp
  refine codeAny_builtin PySem.F.entry_all_loop ?_
  rw[Around.under_plainId PySem.F.plain_all_loop _]
  refine wpAny_bind (m:=pyNext (.ref J)) (W.item i s _ _ lt st fun v h' tk pv st' kp => ?_)
  have g':G h':=gk _ _ g kp
  refine wpAny_bind (wpAny_holding ((ht i v h' pv g').run (s:={ s with heap:=h',toks:=tk }) fun tk2 => ?_))
  refine wpAny_bind (wpAny_letGo ?_)
  cases e:tr i with
  | true=>
   simp only[if_true]
   refine wpAny_pure ⟨plainId_quiet PySem.F.plain_all_loop _,ih (i + 1) _ (by omega) lt st' g' fun h2 tk3 kp2 => ?_⟩
   have q:=fin h2 tk3 fun b o nb z=>kp2 b o nb (kp b o nb z)
   rw[dr,List.all_cons,e,Bool.true_and]at q
   exact q
  | false=>
   simp only[Bool.false_eq_true,if_false]
   refine wpAny_bind (wpAny_rule (wpAny_pure ?_))
   have q:=fin h' tk2 kp
   rw[dr,List.all_cons,e,Bool.false_and]at q
   exact q
end
theorem bls_len:∀ {ds:List D} {bs:List Bool},blsD ds=some bs->bs.length=ds.length
 | [],_,h=>by cases h;rfl
 | d::ds,bs,h=>by
  simp only[blsD]at h
  split at h
  ·rename_i b bs' h1 h2
   cases h
   rw[List.length_cons,List.length_cons,bls_len h2]
  ·cases h
theorem bls_get:∀ {ds:List D} {bs:List Bool} {i:Nat} {d:D},blsD ds=some bs->ds[i]?=some d->∃ b,bs[i]?=some b/\truD d=some b
 | [],_,_,_,_,h=>by simp at h
 | d::ds,bs,i,d',h,hd=>by
  simp only[blsD]at h
  split at h
  ·rename_i b bs' h1 h2
   cases h
   cases i with
   | zero=>simp at hd;subst hd;exact⟨b,rfl,h1⟩
   | succ i=>
    obtain⟨c,q1,q2⟩:=bls_get (i:=i) h2 (by simpa using hd)
    exact⟨c,by simpa using q1,q2⟩
  ·cases h
theorem all_range:∀ (bs:List Bool),((List.range bs.length).all fun i=>(bs[i]?).getD true)=bs.all id
 | []=>rfl
 | b::bs=>by
  rw[List.length_cons,List.range_succ_eq_map,List.all_cons,List.all_map,List.all_cons,← all_range bs]
  rfl
noncomputable def rAll(K:PySem.W.Frag):List V->Hp->VK->Prop:=fun xs H Q=>∃ Z ds bs x,xs=[x]/\Now Z H (.lst ds) x/\blsD ds=some bs/\Q (.bl (bs.all id)) H
theorem truths{pins:List (Addr×Obj)}{σ:L2.St}{H:Hp}{s:Shared}{Z:Addr->Prop}{ds:List D}{vs:List V}{its:List Value}{bs:List Bool}(I:Inv X pins σ H s)(h2:Reps Z H ds vs)(rv:Vals vs its)(hb:blsD ds=some bs)(dflt:Bool) :
  ∀ (i:Nat) (v:Value),its.toArray[i]?=some v->TruAt s.heap v ((bs[i]?).getD dflt):=by
 intro i v hv
 have hv:its[i]?=some v:=by simpa using hv
 obtain⟨hi,ev⟩:=List.getElem?_eq_some_iff.mp hv
 obtain⟨x,hx,rx⟩:=vals_at rv hi
 have k1:=h2.length
 have k2:=rv.length
 have ed:ds[i]?=some ds[i]:=by simp[show i < ds.length by omega]
 obtain⟨y,hy,ry⟩:=h2.get ed
 rw[hx]at hy;cases hy
 obtain⟨b,q1,q2⟩:=bls_get hb ed
 rw[q1]
 rw[ev]at rx
 exact truAt_of I ry.now rx q2
theorem call_all(hc:X.calm=true):CallR X (.builtin "all") (rAll X.K):=by
 intro pins s σ H xs us Q I r h
 obtain⟨Z,ds,bs,x,rfl,nw,hb,q⟩:=h
 obtain⟨u,rfl,rx⟩:=vals1 r
 obtain⟨l,vs,rfl,h1,h2⟩:=now_lst nw
 cases rx
 obtain⟨its,rv,p,hz⟩:=I.list (sqL (K:=X.K) h1)
 have hlt:l < s.heap.objs.size:=by obtain⟨_,e,_⟩:=p.isList;exact Heap.lt_size e
 have tr:=truths I h2 rv hb true
 refine call_function_tree PySem.F.kind_all PySem.F.plain_all PySem.F.entry_all (PySem.F.args_all1 _) ?_
 unfold Builtin.«all»
 refine wpAny_bind (m:=oneArg "all" _) (wpAny_pure (wpAny_bind (wpAny_pyIter_list p.isList ?_)))
 refine wpAny_pure ⟨plainId_quiet PySem.F.plain_all_loop _,all_walk (Walks.list (A:=X.A.in1) (I.ok.hd hc) s.heap.objs.size l (Nat.ne_of_lt hlt) its.toArray) (fun i=>(bs[i]?).getD true)
  (fun h=>∀ b o,b≠s.heap.objs.size->s.heap.get? b=some o->h.get? b=some o) (fun h h' g kp b o nb e=>kp b o (by simpa using nb) (g b o nb e))
  (fun i v h pv g=>(tr i v pv).keep fun b o e z=>g b o (Nat.ne_of_lt (Heap.lt_size z)) z) _ 0 _ rfl (Nat.zero_le _) ⟨⟨_,Heap.get?_push_size _ rfl,rfl,rfl⟩,p.isList.push _⟩ (fun b o nb e=>Heap.get?_push_of_some _ e) fun h' tk kp => ?_⟩
 have e:((List.range its.toArray.size).drop 0).all (fun i=>(bs[i]?).getD true)=bs.all id:=by
  rw[List.drop_zero,List.size_toArray,← rv.length,h2.length,← bls_len hb]
  exact all_range bs
 rw[e]
 exact⟨.bl _,H,I.kept (h':=h') (t':=tk) fun b o z=>kp b o (by
  have:=Nat.ne_of_lt (Heap.lt_size z)
  simpa using this) (Heap.get?_push_of_some _ z),rfl,q⟩
end
end Mir
namespace Mir
open PySem PySem.Spec PyProof.Rows L2
section
variable{X:Cx}{Γ:Fns}{bw:Bool}{a b e:Expr}{es:List Expr}{ca cb cc c cs:Ex}{pos p:Pos}
noncomputable def Blt.nm:Blt->Str
 | .len=>"len" | .all=>"all" | .any=>"any" | .sorted=>"sorted" | .list=>"list" | .tuple=>"tuple" | .int=>"int" | .min=>"min" | .max=>"max" | .bool=>"bool"
theorem flat_k{Z:Addr->Prop}{H:Hp}{d:D}{v:V}{Q:VK}(dom:∀ a,Z a->H a≠none)(k:∀ v H' Z',Grow Z H Z' H'->Res1 bw false Z' H H' d v->Q v H')(h:flatD d=some v):Q v H:=
 k _ H Z (Grow.refl dom) (.rep (flat_rep h))
noncomputable def Ty.nm:Ty->Str
 | .int=>"int" | .str=>"str" | .bool=>"bool" | .list=>"list" | .tuple=>"tuple" | .dict=>"dict"
noncomputable def Ty.id:Ty->String
 | .int=>"int" | .str=>"str" | .bool=>"bool" | .list=>"list" | .tuple=>"tuple" | .dict=>"dict"
theorem ty_boot(t:Ty):bootBuiltins t.nm=some (.type t.id):=by cases t<;>decide +kernel
theorem kit_tab(K:PySem.W.Frag)(t:Ty):PySem.W.kitOne K (.type "NoneType") (.type t.id)=some false/\PySem.W.kitOne K (.type "bool") (.type t.id)=some (t == .bool || t == .int)/\PySem.W.kitOne K (.type "int") (.type t.id)=some (t == .int) /\
  PySem.W.kitOne K (.type "str") (.type t.id)=some (t == .str)/\PySem.W.kitOne K (.type "list") (.type t.id)=some (t == .list)/\PySem.W.kitOne K (.type "tuple") (.type t.id)=some (t == .tuple)/\PySem.W.kitOne K (.type "dict") (.type t.id)=some (t == .dict):=by
 cases t<;>refine⟨?_,?_,?_,?_,?_,?_,?_⟩<;>with_unfolding_all rfl
noncomputable def rIsi(K:PySem.W.Frag):List V->Hp->VK->Prop:=fun xs H Q=>∃ Z d x t b,xs=[x,.ty (Ty.id t)]/\Now Z H d x/\tyD d t=some b/\Q (.bl b) H
theorem tyOf_rd_tup{K:PySem.W.Frag}{H:Hp}{a:Addr}{vs:List V}{X:Cx}{pins:List (Addr×Obj)}{σ:L2.St}{s:Shared}(I:Inv X pins σ H s)(h:Rd H a (.tup vs)):∃ o,s.heap.get? a=some o/\o.cls=.type "tuple":=by
 obtain⟨_,its,_,o,h1,h2,_⟩:vs.length<=sizeLine/\∃ its:List Value,Vals vs its/\IsTup s.heap a its.toArray:=Rd.ok h I.hok
 exact⟨o,h1,h2⟩
theorem call_isi:CallR X (.builtin "isinstance") (rIsi X.K):=by
 intro pins s σ H xs us Q I r h
 obtain⟨Z,d,x,t,b,rfl,nw,ht,q⟩:=h
 obtain⟨u,w',rfl,rx,rt⟩:=vals2 r
 cases (show w'=Value.type (Ty.id t) from rt)
 obtain⟨t1,t2,t3,t4,t5,t6,t7⟩:=kit_tab X.K t
 have fin:∀ tk,EP X pins σ Q (.bool b) { s with toks:=tk }:=fun tk=>⟨.bl b,H,I.tok tk,rfl,q⟩
 cases d with
 | non=>cases now_non nw;cases ht;exact isinst_ok I rx .non t1 fin
 | bl c=>cases now_bl nw;cases ht;exact isinst_ok I rx (.bl c) t2 fin
 | int c=>cases now_int nw;cases ht;exact isinst_ok I rx (.int c) t3 fin
 | str c=>cases now_str nw;cases ht;exact isinst_ok I rx (.str c) t4 fin
 | lst ds=>
  obtain⟨a,vs,rfl,h1,h2⟩:=now_lst nw
  cases ht
  rcases h1 with h1 | ⟨o,h1⟩
  ·exact isinst_ok I rx (.lst h1) t5 fin
  ·exact isinst_ok I rx (.frz h1) t5 fin
 | tup ds=>
  obtain⟨a,vs,rfl,_,h1,h2⟩:=now_tup nw
  cases ht
  cases rx
  exact PySem.W.kia_one PySem.W.kitx_tuple I.kIn (tyOf_rd_tup (K:=X.K) I h1) t6 (fun z=>nomatch z) fin
 | dct ks ds=>
  have nw:Rep Z H (.dct ks ds) x:=nw
  simp only[Rep]at nw
  obtain⟨a,vs,rfl,_,h1,h2⟩:=nw
  cases ht
  exact isinst_ok I rx (.dK h1) t7 fin
 | ref k=>cases ht
end
end Mir
namespace Mir
open PySem PySem.Spec PyProof.Rows L2
noncomputable abbrev testsOf(ifs:List Expr)(env:Env):Sem Bool:=forIn ifs true fun c r=>if r=true then do let ok ← isTrue c env (eval c env);pure (ForInStep.yield ok) else pure (ForInStep.yield r)
section
variable{prog:Program}{w:World}{A:Around}{R:Result->Shared->Prop}{s:Shared}
theorem comp_loop{elt tg iter:Expr}{ifs:List Expr}{scope:Scope}{pos:Pos}{it acc:Value}{env:Env}(J:Nat->Shared->Prop)
  (turn:∀ n s,J n s->wpAny (model prog w) A (pyNext it) (fun r s1=>match r with
   | none=>R (.ok .next) s1
   | some v=>wpAny (model prog w) A (letOwnedTupleGo tg it v) (fun _ s2=>wpAny (model prog w) A (assign tg env v) (fun _ s3=>wpAny (model prog w) A (testsOf ifs env) (fun ok s4=>
      if ok=true then wpAny (model prog w) A (eval elt env) (fun x s5=>wpAny (model prog w) A (call (.builtin "list.append") [acc,x]) (fun _ s6=>∃ m,m < n/\J m s6) (fun _ _=>False) s5) (fun _ _=>False) s4
      else ∃ m,m < n/\J m s4) (fun _ _=>False) s3) (fun _ _=>False) s2) (fun _ _=>False) s1) (fun _ _=>False) s)
  (n:Nat) (h:J n s):codeAny (model prog w) A (.compLoop (.ListComp elt [⟨tg,iter,ifs,0⟩] scope pos) 0 it acc env) R s:=by
 refine codeAny_loop rfl J (fun n s hJ => ?_) n h
 refine wpAny_noted (env:=env) (m:=compTurn (.ListComp elt [⟨tg,iter,ifs,0⟩] scope pos) 0 it acc env) ?_
 rw[compTurn_list]
 refine wpAny_bind (wpAny_standAt (wpAny_bind (wpAny_mono (turn n s hJ) (fun r s1 h1 => ?_) fun _ _ z=>z.elim)))
 cases r with
 | none=>exact wpAny_pure h1
 | some v=>
  refine wpAny_bind (wpAny_mono h1 (fun _ s2 h2=>wpAny_bind (wpAny_mono h2 (fun _ s3 h3=>wpAny_bind (wpAny_mono h3 (fun ok s4 h4 => ?_) fun _ _ z=>z.elim)) fun _ _ z=>z.elim)) fun _ _ z=>z.elim)
  cases ok with
  | false=>exact wpAny_pure ⟨rfl,by simpa using h4⟩
  | true=>
   rw[if_pos rfl]at h4
   refine wpAny_bind (wpAny_bind (wpAny_mono h4 (fun x s5 h5=>wpAny_bind (wpAny_mono h5 (fun _ s6 h6 => ?_) fun _ _ z=>z.elim)) fun _ _ z=>z.elim))
   exact wpAny_pure (wpAny_pure ⟨rfl,h6⟩)
end
theorem closure_of{scope:Scope}{env:Env}(h:∀ y∈scope.names,y.2=.free->∃ c,env.cells.lookup y.1=some c) :
  ∃ cl,closureFor scope env=pure cl/\(∀ n c,(n,c)∈cl->env.cells.lookup n=some c)/\∀ y∈scope.names,y.2=.free->∃ c,(y.1,c)∈cl:=by
 have gen:∀ (l:List (Str×NameKind)) (acc:List (Str×Addr)),(∀ y∈l,y.2=.free->∃ c,env.cells.lookup y.1=some c)->(∀ n c,(n,c)∈acc->env.cells.lookup n=some c) ->
   ∃ cl,(forIn l acc fun x r=>match x with | (name,kind)=>if (kind == NameKind.free)=true then do let a ← cellOf env name;pure (ForInStep.yield ((name,a)::r)) else pure (ForInStep.yield r):Sem (List (Str×Addr)))=pure cl /\
    (∀ n c,(n,c)∈cl->env.cells.lookup n=some c)/\(∀ p∈acc,p∈cl)/\∀ y∈l,y.2=.free->∃ c,(y.1,c)∈cl:=by
  intro l
  induction l with
  | nil=>intro acc _ ha;exact⟨acc,rfl,ha,fun _ hp=>hp,fun _ hy=>absurd hy (by simp)⟩
  | cons y l ih=>
   intro acc hl ha
   obtain⟨n,k⟩:=y
   cases hk:(k == NameKind.free) with
   | false=>
    obtain⟨cl,e,h1,h2,h3⟩:=ih acc (fun z hz=>hl z (by simp[hz])) ha
    refine⟨cl,?_,h1,h2,fun z hz hzk => ?_⟩
    ·rw[List.forIn_cons]
     simp only[hk,Bool.false_eq_true,if_false]
     exact e
    ·rcases List.mem_cons.mp hz with rfl | hz
     ·have:k=.free:=hzk
      rw[this]at hk;exact absurd hk (by decide)
     ·exact h3 z hz hzk
   | true=>
    have hk':k=.free:=by simpa using hk
    obtain⟨c,hc⟩:=hl (n,k) (by simp) hk'
    obtain⟨cl,e,h1,h2,h3⟩:=ih ((n,c)::acc) (fun z hz=>hl z (by simp[hz])) (fun n' c' hm=>by
     rcases List.mem_cons.mp hm with q | q
     ·cases q;exact hc
     ·exact ha n' c' q)
    refine⟨cl,?_,h1,fun p hp=>h2 p (by simp[hp]),fun z hz hzk => ?_⟩
    ·rw[List.forIn_cons]
     simp only[hk,if_true]
     have:cellOf env n=pure c:=by
      have hc:env.cells.lookup n=some c:=hc
      unfold cellOf;rw[hc]
     rw[this]
     exact e
    ·rcases List.mem_cons.mp hz with rfl | hz
     ·exact⟨c,h2 _ (by simp)⟩
     ·exact h3 z hz hzk
 obtain⟨cl,e,h1,_,h3⟩:=gen scope.names [] h (fun _ _ z=>absurd z (by simp))
 refine⟨cl,?_,h1,h3⟩
 unfold closureFor
 have e':=congrArg (fun m:Sem (List (Str×Addr))=>m >>= fun r=>pure r) e
 exact e'
noncomputable def blk(X:Cx)(scope:Scope)(cl:List (Str×Addr))(C:Addr)(N:List Str)(s₀:Shared)(H₀:Hp)(fp:List Addr):Cx:=
 { X with N:=N,s₀:=s₀,H₀:=H₀,env:=compEnvC scope cl C X.env,outer:=X.stack,stack:=X.stack,ex:=fp,fn:=fun _=>false,pn:=[],xe:=fun _ _=>False }
theorem lookup_mem{α β:Type}[BEq α][LawfulBEq α]:∀ {l:List (α×β)} {x:α} {v:β},l.lookup x=some v->(x,v)∈l
 | [],_,_,h=>by simp at h
 | (n,k)::r,x,v,h=>by
  rw[List.lookup_cons]at h
  cases e:x == n with
  | true=>rw[e]at h;cases h;rw[eq_of_beq e];simp
  | false=>rw[e]at h;exact List.mem_cons_of_mem _ (lookup_mem h)
theorem mem_lookup{α β:Type}[BEq α][LawfulBEq α]:∀ {l:List (α×β)} {x:α} {v:β},(x,v)∈l->∃ u,l.lookup x=some u
 | [],_,_,h=>by simp at h
 | (n,k)::r,x,v,h=>by
  rw[List.lookup_cons]
  cases e:x == n with
  | true=>exact⟨k,rfl⟩
  | false=>
   rcases List.mem_cons.mp h with q | q
   ·cases q;simp at e
   ·exact mem_lookup q
theorem lookup_relabel{env:Env}:∀ (names:List (Str×NameKind)) (x:Str),(names.map fun (n,k)=>if (k == NameKind.free && env.scope.kind == .function && env.kindOf n == some .cell) then (n,NameKind.cell) else (n,k)).lookup x =
  (names.lookup x).map fun k=>if (k == NameKind.free && env.scope.kind == .function && env.kindOf x == some .cell) then NameKind.cell else k
 | [],_=>rfl
 | (n,k)::r,x=>by
  have ih:=lookup_relabel (env:=env) r x
  show List.lookup x ((if (k == NameKind.free && env.scope.kind == .function && env.kindOf n == some .cell)=true then (n,NameKind.cell) else (n,k))::_)=_
  cases hx:x == n with
  | true=>
   obtain rfl:x=n:=eq_of_beq hx
   by_cases hc:(k == NameKind.free && env.scope.kind == .function && env.kindOf x == some .cell)=true
   ·rw[if_pos hc,List.lookup_cons,List.lookup_cons]
    simp only[hx,Option.map_some,if_pos hc]
   ·rw[if_neg hc,List.lookup_cons,List.lookup_cons]
    simp only[hx,Option.map_some,if_neg hc]
  | false=>
   by_cases hc:(k == NameKind.free && env.scope.kind == .function && env.kindOf n == some .cell)=true
   ·rw[if_pos hc,List.lookup_cons,List.lookup_cons]
    simp only[hx];exact ih
   ·rw[if_neg hc,List.lookup_cons,List.lookup_cons]
    simp only[hx];exact ih
structure BlkSc(X:Cx)(scope:Scope)(tn cn:List Str)(cap:List Nat):Prop where
 kind:scope.kind=.function
 cell:∀ y∈scope.names,y.2≠.cell
 names:∀ y∈scope.names,y.2=.local->scope.names.lookup y.1=some .local
 free:∀ y∈scope.names,y.2=.free->X.env.kindOf y.1=some .cell\/X.env.kindOf y.1=some .free
 len:cn.length=cap.length
 at':∀ (j i:Nat) (x:Str),cn[j]?=some x->cap[j]?=some i->X.N[i]?=some x/\scope.names.lookup x=some .free
noncomputable def capV(cap:List Nat)(σ:L2.St):L2.St:=cap.map fun i=>(σ[i]?).join
noncomputable def blkσ(nt:Nat)(cap:List Nat)(σ:L2.St):L2.St:=List.replicate nt none++capV cap σ
section
variable{X:Cx}{scope:Scope}{tn cn:List Str}{cap:List Nat}
theorem blk_start{pins:List (Addr×Obj)}{σ:L2.St}{H:Hp}{s:Shared}{fp:List Addr}{cl:List (Str×Addr)}{h1:Heap}{tk:Nat}{m:Str->Option Value}(B:BlkSc X scope tn cn cap)
  (I:Inv X pins σ H s) (hf:∀ b∈fp,FpOk X pins H b) (hfo:∀ b∈fp,∃ o,s.heap.get? b=some o) (c1:∀ n c,(n,c)∈cl->X.env.cells.lookup n=some c) (c2:∀ y∈scope.names,y.2=.free->∃ c,(y.1,c)∈cl)
  (kp:∀ b o,s.heap.get? b=some o->h1.get? b=some o) (hd:∃ n,h1.get? s.heap.objs.size=some { cls:=.type "list",data:=.seq ([]:List Value).toArray n }) (ns:h1.Ns (s.heap.objs.size + 1) m) :
  Inv (blk X scope cl (s.heap.objs.size + 1) (tn++cn) s H fp) [] (blkσ tn.length cap σ) (upd H s.heap.objs.size (.lst [])) { s with heap:=h1,toks:=tk }:=by
 have ltC:∀ b o,s.heap.get? b=some o->b≠s.heap.objs.size + 1:=fun b o e=>Nat.ne_of_lt (Nat.lt_succ_of_lt (Heap.lt_size e))
 have ltD:∀ b o,s.heap.get? b=some o->b≠s.heap.objs.size:=fun b o e=>Nat.ne_of_lt (Heap.lt_size e)
 have cell:∀ x c,cl.lookup x=some c->∃ v,s.heap.IsCell c v:=fun x c e=>I.cell x c (c1 x c (lookup_mem e))
 have cne:∀ x c,cl.lookup x=some c->c≠s.heap.objs.size + 1/\c≠s.heap.objs.size:=fun x c e=>by
  obtain⟨v,o,ho,_⟩:=cell x c e
  exact⟨ltC c o ho,ltD c o ho⟩
 have fsz:∀ b∈fp,b < s.heap.objs.size:=fun b hb=>let ⟨o,e⟩:=hfo b hb;Heap.lt_size e
 have fr:=I.hok.fresh (Nat.le_refl s.heap.objs.size)
 obtain⟨nd,hd⟩:=hd
 refine⟨⟨I.ok.mod,B.kind,I.ok.glob,I.ok.blt,Nat.le_succ _,fun x y c e1 e2 => ?_,fun x hx => ?_,fun x c e _=>absurd (show false=true from e) Bool.false_ne_true,I.ok.hd,I.ok.frames,.inl rfl,fun b hb=>⟨?_,fun x c e z => ?_⟩,fun b o e=>I.bs b o e,Nat.le_trans I.ok.bsz I.sz,fun b o e hb => ?_,fun b hb hbs => ?_,I.stack,I.stkFree⟩,
  rfl,I.bare,?_,⟨m,ns,fun i x v e1 e2 e3 => ?_⟩,fun x c e => ?_,?_,fun x c e => ?_,fun p hp=>absurd (show p∈([]:List (Addr×Obj)) from hp) (by simp),?_,?_⟩
 ·exact I.ok.inj x y c (c1 x c (lookup_mem e1)) (c1 y c (lookup_mem e2))
 ·have hx:(relabel scope X.env).names.lookup x=some .cell\/(relabel scope X.env).names.lookup x=some .free:=hx
  unfold relabel at hx
  simp only[lookup_relabel]at hx
  cases q:scope.names.lookup x with
  | none=>rw[q]at hx;simp at hx
  | some k=>
   rw[q]at hx
   have hm:=lookup_mem q
   have hk:k=.free:=by
    by_cases hk:k=.free
    ·exact hk
    ·have hkf:(k == NameKind.free)=false:=by simpa using hk
     rw[Option.map_some]at hx
     simp only[hkf,Bool.false_and,Bool.false_eq_true,if_false,Option.some.injEq]at hx
     rcases hx with z | z
     ·exact absurd z (B.cell _ hm)
     ·exact z
   obtain⟨c,hc⟩:=c2 _ hm hk
   exact mem_lookup hc
 ·exact Nat.ne_of_lt (Nat.lt_succ_of_lt (fsz b hb))
 ·exact(hf b hb).2.2.2.2.1 x c (c1 x c (lookup_mem e)) z
 ·rcases(hf b hb).2.2.2.1 with z | z
  ·exact I.ok.noex b o e z
  ·exact absurd (Nat.lt_of_lt_of_le (Heap.lt_size (I.ok.bs b o e).1) z) (Nat.lt_irrefl _)
 ·rcases List.mem_cons.mp (I.stkSub b hbs) with z | z
  ·exact(hf b hb).2.1 z
  ·exact(hf b hb).2.2.1 z
 ·exact Un.laid kp (Nat.le_refl _) fr
 ·have lenT:i < tn.length->False:=fun hi=>by
   have:(blkσ tn.length cap σ)[i]?=some none:=by
    unfold blkσ
    rw[List.getElem?_append_left (by simpa using hi),List.getElem?_replicate,if_pos hi]
   rw[this]at e2;cases e2
  have hi:tn.length<=i:=Nat.le_of_not_lt lenT
  have e1:(tn++cn)[i]?=some x:=e1
  rw[List.getElem?_append_right hi]at e1
  have e2':(capV cap σ)[i - tn.length]?=some (some v):=by
   unfold blkσ at e2
   rw[List.getElem?_append_right (by simpa using hi)]at e2
   simpa using e2
  unfold capV at e2'
  rw[List.getElem?_map]at e2'
  cases q:cap[i - tn.length]? with
  | none=>rw[q]at e2';cases e2'
  | some i'=>
   rw[q]at e2'
   have e2:(σ[i']?).join=some v:=by simpa using e2'
   have e4:σ[i']?=some (some v):=by
    cases q2:σ[i']? with
    | none=>rw[q2]at e2;cases e2
    | some z=>rw[q2]at e2;cases z with
     | none=>cases e2
     | some z=>cases e2;rfl
   obtain⟨hN,hfr⟩:=B.at' _ _ _ e1 q
   have hk:=B.free _ (lookup_mem hfr) rfl
   have hk:X.env.kindOf x=some .cell\/X.env.kindOf x=some .free:=hk
   have hvis:Vis X.env.scope x:=by
    rcases hk with z | z
    ·exact .inr (.inl z)
    ·exact .inr (.inr z)
   obtain⟨m0,hn0,hl0⟩:=I.loc
   obtain⟨u,ru,lk⟩:=hl0 i' x v hN e4 hvis
   refine⟨u,ru,.inr ⟨?_,?_⟩⟩
   ·show(relabel scope X.env).names.lookup x=some .cell\/(relabel scope X.env).names.lookup x=some .free
    unfold relabel
    simp only[lookup_relabel,hfr,Option.map_some]
    split
    ·exact .inl rfl
    ·exact .inr rfl
   ·have lk:∃ c,X.env.cells.lookup x=some c/\s.heap.IsCell c (some u):=by
     rcases lk with ⟨z,_⟩ | ⟨_,z⟩
     ·rcases hk with y | y<;>rw[y]at z<;>cases z
     ·exact z
    obtain⟨c,hc,hcc⟩:=lk
    obtain⟨c',hc'⟩:=c2 _ (lookup_mem hfr) rfl
    obtain⟨c'',hc''⟩:=mem_lookup hc'
    have:=c1 _ _ (lookup_mem hc'')
    rw[hc]at this;cases this
    obtain⟨o,ho,hd⟩:=hcc
    exact⟨c,hc'',o,kp _ _ ho,hd⟩
 ·obtain⟨v,o,ho,hd⟩:=cell x c e
  exact⟨v,o,kp _ _ ho,hd⟩
 ·show upd H s.heap.objs.size (.lst []) (s.heap.objs.size + 1)=none
  rw[upd_ne (Nat.succ_ne_self _)]
  exact I.hok.fresh (Nat.le_succ _)
 ·refine⟨?_,fun hz=>absurd (show false=true from hz) Bool.false_ne_true⟩
  rw[upd_ne (cne x c e).2]
  exact(I.freeC x c (c1 x c (lookup_mem e))).1
 ·refine I.hok.laid kp (Nat.le_refl _) ⟨Nat.zero_le _,[],nd,.nil,hd⟩
 ·show(blkσ tn.length cap σ).length=(tn++cn).length
  unfold blkσ capV
  rw[List.length_append,List.length_append,List.length_replicate,List.length_map,B.len]
noncomputable def PTs(X:Cx)(ifs:List Expr)(t:TT):Prop:=∀ (pins:List (Addr×Obj)) (s:Shared) (σ:L2.St) (H:Hp) (Q:Bool->Hp->Prop),Inv X pins σ H s->t σ H Q->wpAny (model X.prog X.w) X.A (testsOf ifs X.env) (TP X pins σ Q) X.xe s
theorem pts_nil:PTs X [] (fun _ H Q=>Q true H):=fun pins s σ H Q I h=>wpAny_pure ⟨H,I,h⟩
theorem pts_one{c:Expr}{t:TT}(h:PT X c t):PTs X [c] t:=fun pins s σ H Q I q=>wpAny_tests_one (h pins s σ H Q I q)
noncomputable def tComp(wi:TI)(nt:Nat)(cap:List Nat)(g:TG)(tc:TT)(te:TE):TE:=fun σ H Q=>wi σ H fun J H1=>∀ D,H1 D=none->∃ W:Nat->Nat->List V->Hp->Prop,(∃ m,W 0 m [] (upd H1 D (.lst []))) /\
 ∀ i m ys H2,W i m ys H2->H2 D=some (.lst ys)/\((J.stop i H2/\Q (.ref D) H2)\/(J.go i H2/\ys.length < sizeLine/\∀ x H3,J.yld i H2 x H3->g x (blkσ nt cap σ) H3 fun σ' H4=>tc σ' H4 fun b H5=>
  if b=true then te σ' H5 fun y H6=>H6 D=some (.lst ys)/\∃ m',m' < m/\W (i + 1) m' (ys++[y]) (upd H6 D (.lst (ys++[y]))) else ∃ m',m' < m/\W (i + 1) m' ys H5))
theorem comp_core{tg iter elt:Expr}{ifs:List Expr}{pos fpos:Pos}{wi:TI}{g:TG}{tc:TT}{te:TE}{use:Option (Value->Sem Unit)}{Q':Value->Shared->Prop}{Q:VK}{pins:List (Addr×Obj)}{σ:L2.St}{H:Hp}{s:Shared}
  (hc:X.calm=true) (B:BlkSc X scope tn cn cap) (hi:PI X tg iter wi) (hs:∀ x,foldedSetIterable iter X.env x=pure x)
  (hgk:∀ v σ H Q,g v σ H Q->g v σ H fun σ' H'=>Q σ' H'/\σ'.length=σ.length/\∀ j,tn.length<=j->σ'[j]?=σ[j]?)
  (hb:∀ cl C s₀ H₀ fp,PG (blk X scope cl C (tn++cn) s₀ H₀ fp) tg g/\PTs (blk X scope cl C (tn++cn) s₀ H₀ fp) ifs tc/\PE (blk X scope cl C (tn++cn) s₀ H₀ fp) elt te)
  (fin:∀ (s':Shared) (H':Hp) (C D:Addr) (m:Str->Option Value),Inv X pins σ H' s'->s'.heap.Ns C m->H' C=none->C≠X.env.locals->X.s₀.heap.objs.size<=C->(∀ x c,X.env.cells.lookup x=some c->c≠C)->(∀ p∈X.pn++pins,p.1≠C)->Q (.ref D) H' ->
   compPost (model X.prog X.w) X.A X.xe use Q' (.ref D) C (.ok .next) s')
  (I:Inv X pins σ H s) (h:tComp wi tn.length cap g tc te σ H Q) :
  wpAny (model X.prog X.w) X.A (comprehension (.ListComp elt [⟨tg,iter,ifs,0⟩] scope pos) scope X.env fpos (newList []) false (eval iter X.env) use) Q' X.xe s:=by
 have hfr:∀ y∈scope.names,y.2=.free->∃ c,X.env.cells.lookup y.1=some c:=fun y hy hk=>I.ok.has y.1 (B.free y hy hk)
 obtain⟨cl,hcl,c1,c2⟩:=closure_of hfr
 refine wpAny_comprehension_free (use:=use) rfl hs hcl B.kind B.names ?_
 refine thn (hi pins s σ H _ I h) fun v s1 h1=>thn h1 fun itv s2 h2 => ?_
 obtain⟨it,fp,tn',J,H2,e,I2,T,st2,f2,h⟩:=h2
 subst e
 have fr:=I2.hok.fresh (Nat.le_refl s2.heap.objs.size)
 obtain⟨W,⟨m0,w0⟩,turn⟩:=h s2.heap.objs.size fr
 refine wpAny_newObj_type (wpAny_newFunctionEnv B.cell (fun y hy=>absurd hy (by simp)) (fun h1 ns sb => ?_) B.kind)
 have hsz:(s2.heap.push { cls:=.type "list",dict:=none,data:=.seq ([]:List Value).toArray }).objs.size=s2.heap.objs.size + 1:=Heap.size_push _ _
 dsimp only at ns sb ⊢
 rw[hsz]at ns sb ⊢
 have kp:∀ b o,s2.heap.get? b=some o->h1.get? b=some o:=fun b o e=>sb.extBut b o (Nat.ne_of_lt (Nat.lt_succ_of_lt (Heap.lt_size e))) (Heap.get?_push_of_some _ (Heap.get?_push_of_some _ e))
 have hD:∃ n,h1.get? s2.heap.objs.size=some { cls:=.type "list",data:=.seq ([]:List Value).toArray n }:=⟨0,sb.extBut _ _ (Nat.ne_of_lt (Nat.lt_succ_self _)) (Heap.get?_push_of_some _ (Heap.get?_push_size _ rfl))⟩
 have hfo:∀ b∈fp,∃ o,s2.heap.get? b=some o:=fun b hb=>let ⟨o,e,_⟩:=T.obj 0 _ st2 b hb;⟨o,e⟩
 have I4:Inv (blk X scope cl (s2.heap.objs.size + 1) (tn++cn) s2 H2 fp) [] (blkσ tn.length cap σ) (upd H2 s2.heap.objs.size (.lst [])) { s2 with heap:=h1,toks:=s2.toks + ([]:List (Str×Value)).length }:=
  blk_start B I2 f2 hfo c1 c2 kp hD ns
 obtain⟨hg,ht,he⟩:=hb cl (s2.heap.objs.size + 1) s2 H2 fp
 have st4:tn' 0 h1:=T.keep 0 _ _ st2 fun b hb o e=>kp b o e
 have fpn:∀ b∈fp,upd H2 s2.heap.objs.size (.lst []) b=none:=fun b hb=>by
  obtain⟨o,e⟩:=hfo b hb
  rw[upd_ne (Nat.ne_of_lt (Heap.lt_size e))]
  exact(f2 b hb).1
 have stat:∀ {H':Hp} {pl:List (Addr×Obj)},(∀ b∈fp,H' b=none)->∀ b∈fp,FpOk (blk X scope cl (s2.heap.objs.size + 1) (tn++cn) s2 H2 fp) [] H' b:=fun hn b hb=>
  ⟨hn b hb,(I4.ok.exf b hb).1,I4.ok.exfs b hb,.inl hb,(I4.ok.exf b hb).2,fun p hp=>absurd (show p∈([]:List (Addr×Obj)) from hp) (by simp)⟩
 have loop:codeAny (model X.prog X.w) X.A (.compLoop (.ListComp elt [⟨tg,iter,ifs,0⟩] scope pos) 0 (.ref it) (.ref s2.heap.objs.size) (compEnvC scope cl (s2.heap.objs.size + 1) X.env))
   (compPost (model X.prog X.w) X.A X.xe use Q' (.ref s2.heap.objs.size) (s2.heap.objs.size + 1)) { s2 with heap:=h1,toks:=s2.toks + ([]:List (Str×Value)).length }:=by
  refine comp_loop (fun n s'=>∃ i ys H',Inv (blk X scope cl (s2.heap.objs.size + 1) (tn++cn) s2 H2 fp) [] (blkσ tn.length cap σ) H' s'/\tn' i s'.heap/\(∀ b∈fp,H' b=none)/\W i n ys H') ?_ m0 ⟨0,[],_,I4,st4,fpn,w0⟩
  rintro n s5 ⟨i,ys,H5,I5,st5,fn5,w5⟩
  obtain⟨hD5,alt⟩:=turn i n ys H5 w5
  rcases alt with ⟨stop,qn⟩ | ⟨go,hlen,step⟩
  ·refine thn (T.done (blk X scope cl (s2.heap.objs.size + 1) (tn++cn) s2 H2 fp) rfl rfl rfl hc i [] s5 _ H5 _ I5 (stat (pl:=[]) fn5) st5 stop) fun r s6 ⟨hr,I6⟩ => ?_
   subst hr
   obtain⟨mC,nC,_⟩:=I6.loc
   have I7:Inv X pins σ H5 s6:=by
    refine I2.call' I6.os I6.base I6.hok I6.bare fun b hb => ?_
    obtain⟨f0,f1,f3,f4,f5,f6⟩:=f2 b hb
    exact⟨f4,f1,f5,f6⟩
   have hC:s2.heap.objs.size<=s2.heap.objs.size + 1:=Nat.le_succ _
   refine fin s6 H5 (s2.heap.objs.size + 1) s2.heap.objs.size mC I7 nC I6.free (Nat.ne_of_gt (Nat.lt_of_lt_of_le I2.lt hC)) (Nat.le_trans I2.sz hC) (fun x c e z => ?_) (fun p hp z => ?_) qn
   ·obtain⟨v,q⟩:=I2.cell x c e
    exact absurd (Nat.lt_of_lt_of_le q.lt (by rw[z];exact hC)) (Nat.lt_irrefl _)
   ·exact absurd (Nat.lt_of_lt_of_le (Heap.lt_size (I2.pin p hp).1) (by rw[z];exact hC)) (Nat.lt_irrefl _)
  ·refine thn (T.item (blk X scope cl (s2.heap.objs.size + 1) (tn++cn) s2 H2 fp) rfl rfl rfl hc i [] s5 _ H5 _ I5 (stat (pl:=[]) fn5) st5 go) fun r s6 ⟨u,hr,h6⟩ => ?_
   subst hr
   refine thn h6 fun _ s7 ⟨x,H7,I7,r7,y7,st7,fr7⟩ => ?_
   have I7':=I7.pinned (stat (pl:=[]) fr7) (T.obj _ _ st7)
   refine thn (hg _ s7 _ H7 x u _ I7' r7 (hgk _ _ _ _ (step x H7 y7))) fun _ s8 ⟨σ8,H8,I8,q8,l8,k8⟩ => ?_
   refine thn (ht _ s8 σ8 H8 _ I8 q8) fun ok s9 ⟨H9,I9,q9⟩ => ?_
   have again:∀ {sA:Shared} {HA:Hp},Inv (blk X scope cl (s2.heap.objs.size + 1) (tn++cn) s2 H2 fp) ([]++pinsAt fp s7.heap) σ8 HA sA->Inv (blk X scope cl (s2.heap.objs.size + 1) (tn++cn) s2 H2 fp) [] (blkσ tn.length cap σ) HA sA/\tn' (i + 1) sA.heap/\∀ b∈fp,HA b=none:=fun {sA HA} IA=>by
    refine⟨(IA.unpinned (pins:=[])).weak l8.symm fun j v hj => ?_,T.keep _ _ _ st7 fun b hb o e=>(IA.pin (b,o) (List.mem_append_right _ (List.mem_append_right _ (mem_pinsAt hb e)))).1,fun b hb => ?_⟩
    ·have hjt:tn.length<=j:=by
      refine Nat.le_of_not_lt fun hlt => ?_
      have:(blkσ tn.length cap σ)[j]?=some none:=by
       unfold blkσ
       rw[List.getElem?_append_left (by simpa using hlt),List.getElem?_replicate,if_pos hlt]
      rw[this]at hj;cases hj
     rw[k8 j hjt];exact hj
    ·obtain⟨o,e,_⟩:=T.obj _ _ st7 b hb
     exact(IA.pin (b,o) (List.mem_append_right _ (List.mem_append_right _ (mem_pinsAt hb e)))).2.1
   cases ok with
   | false=>
    rw[if_neg Bool.false_ne_true]at q9 ⊢
    obtain⟨m',hm,w'⟩:=q9
    obtain⟨a1,a2,a3⟩:=again I9
    exact⟨m',hm,i + 1,ys,H9,a1,a2,a3,w'⟩
   | true=>
    rw[if_pos rfl]at q9 ⊢
    refine thn (he _ s9 σ8 H9 _ I9 q9) fun y sB ⟨v,HB,IB,rB,hDB,m',hm,w'⟩ => ?_
    have hx:=mt_append (X:=blk X scope cl (s2.heap.objs.size + 1) (tn++cn) s2 H2 fp) _ sB σ8 HB (.ref s2.heap.objs.size) [v] (.ref s2.heap.objs.size) [y] (fun _ H'=>H'=upd HB s2.heap.objs.size (.lst (ys++[v]))) IB rfl (.cons rB .nil)
     ⟨s2.heap.objs.size,ys,v,rfl,rfl,hDB,hlen,rfl⟩
    refine thn hx fun _ sC ⟨_,HC,IC,_,eC⟩ => ?_
    subst eC
    obtain⟨a1,a2,a3⟩:=again IC
    exact⟨m',hm,i + 1,ys++[v],_,a1,a2,a3,w'⟩
 exact codeAny_compStart_list loop (T.self X.A 0 _ _ _ st4 loop)
theorem pe_comp{tg iter elt:Expr}{ifs:List Expr}{pos:Pos}{wi:TI}{g:TG}{tc:TT}{te:TE}(hc:X.calm=true)(B:BlkSc X scope tn cn cap)(hi:PI X tg iter wi)(hs:∀ x,foldedSetIterable iter X.env x=pure x)
  (hgk:∀ v σ H Q,g v σ H Q->g v σ H fun σ' H'=>Q σ' H'/\σ'.length=σ.length/\∀ j,tn.length<=j->σ'[j]?=σ[j]?)
  (hb:∀ cl C s₀ H₀ fp,PG (blk X scope cl C (tn++cn) s₀ H₀ fp) tg g/\PTs (blk X scope cl C (tn++cn) s₀ H₀ fp) ifs tc/\PE (blk X scope cl C (tn++cn) s₀ H₀ fp) elt te) :
  PE X (.ListComp elt [⟨tg,iter,ifs,0⟩] scope pos) (tComp wi tn.length cap g tc te):=by
 intro pins s σ H Q I h
 rw[eval_ListComp]
 refine comp_core (use:=none) hc B hi hs hgk hb (fun s' H' C D m I' ns h1 h2 h3 h4 h5 q=>⟨m,ns,fun h' sb => ?_⟩) I h
 exact⟨.ref D,H',I'.turned (it:=C) (t':=s'.toks) (fun b o nb e=>sb.extBut b o nb e) h1 h2 (.inr h3) h4 h5,rfl,q⟩
theorem ps_setComp{tg iter elt:Expr}{ifs:List Expr}{pos pos' spos:Pos}{wi:TI}{g:TG}{tc:TT}{te:TE}{i:Nat}{x:Str}(hN:X.N.Nodup)(hi':X.N[i]?=some x)(hx:X.env.scope.names.lookup x=some .local)
  (hsw:swapsWith (.ListComp elt [⟨tg,iter,ifs,0⟩] scope pos) (some (.Name x pos')) spos.line X.env=pure true) (hc:X.calm=true) (B:BlkSc X scope tn cn cap) (hi:PI X tg iter wi) (hs:∀ x,foldedSetIterable iter X.env x=pure x)
  (hgk:∀ v σ H Q,g v σ H Q->g v σ H fun σ' H'=>Q σ' H'/\σ'.length=σ.length/\∀ j,tn.length<=j->σ'[j]?=σ[j]?)
  (hb:∀ cl C s₀ H₀ fp,PG (blk X scope cl C (tn++cn) s₀ H₀ fp) tg g/\PTs (blk X scope cl C (tn++cn) s₀ H₀ fp) ifs tc/\PE (blk X scope cl C (tn++cn) s₀ H₀ fp) elt te) :
  PS X (.Assign [.Name x pos'] (.ListComp elt [⟨tg,iter,ifs,0⟩] scope pos) spos) (tAsg (tComp wi tn.length cap g tc te) (gName i)):=by
 intro pins s σ H D I h
 rw[exec_Assign_Name_used _ _ _ _ hsw]
 refine wpAny_bind (wpAny_standAt (wpAny_bind ?_))
 refine wpAny_bind (m:=comprehension (.ListComp elt [⟨tg,iter,ifs,0⟩] scope pos) scope X.env _ (newList []) false (eval iter X.env) (some (assign (.Name x pos') X.env))) ?_
 refine comp_core (use:=some (assign (.Name x pos') X.env)) (Q':=fun _ s'=>wpAny (model X.prog X.w) X.A (pure ()) (fun _ s''=>wpAny (model X.prog X.w) X.A (pure Flow.next) (SP X pins D) X.xe s'') X.xe s') hc B hi hs hgk hb (fun s' H' C Dl m I' ns h1 h2 h3 h4 h5 q => ?_) I h
 show wpAny (model X.prog X.w) X.A (assign (.Name x pos') X.env (.ref Dl)) _ _ s'
 refine wpAny_assign_Name (store_ok2 I' hN hi' (.inl hx) (v:=.ref Dl) rfl (fun s2 I2 ch => ?_) (.inr hx))
 obtain⟨a,sb,ha⟩:=ch
 have neC:C≠a:=by
  rcases ha with rfl | ha
  ·exact h2
  ·exact fun z=>h4 _ _ ha z.symm
 refine⟨m,ns.sameBut sb neC,fun h' sb'=>wpAny_pure (wpAny_pure ?_)⟩
 exact⟨_,H',I2.turned (it:=C) (t':=s2.toks) (fun b o nb e=>sb'.extBut b o nb e) h1 h2 (.inr h3) h4 h5,q⟩
end
end Mir
namespace Mir
open PySem PySem.Spec PyProof.Rows L2
theorem PI.imp{X:Cx}{tg e:Expr}{t t':TI}(h:PI X tg e t)(i:∀ σ H R,t' σ H R->t σ H R):PI X tg e t':=fun pins s σ H R I q=>h pins s σ H R I (i σ H R q)
section
variable{Z:Addr->Prop}{H:Hp}
theorem ints_len:∀ (n:Nat) (lo:Int),(intsFrom lo n).length=n
 | 0,_=>rfl
 | n + 1,lo=>by rw[intsFrom,List.length_cons,ints_len n]
theorem ints_get:∀ (n:Nat) (lo:Int) (i:Nat) (d:D),(intsFrom lo n)[i]?=some d->d=.int (lo + i)
 | 0,_,_,_,h=>by simp[intsFrom]at h
 | n + 1,lo,0,d,h=>by simp[intsFrom]at h;subst h;simp
 | n + 1,lo,i + 1,d,h=>by
  simp only[intsFrom,List.getElem?_cons_succ]at h
  rw[ints_get n (lo + 1) i d h]
  congr 1
  omega
noncomputable def Its(x:Str):It:=⟨fun i _=>i < x.cps.size,fun i H v H'=>H'=H/\∃ c,x.cps[i]?=some c/\v=.str ⟨#[c]⟩,fun i _=>x.cps.size<=i⟩
end
theorem turn_str{P:Program}{w:World}{K:PySem.W.Frag}{tg:Expr}(it:Addr)(x:Str)(t:Tok)(ty:String)(hty:ty="str_ascii_iterator"\/ty="str_iterator"):Turn P w K tg (Its x) [it] it (fun i h=>h.IsStrIter it ty x t i) where
 mem:=by simp
 obj:=fun i h st b hb=>by
  obtain rfl:b=it:=by simpa using hb
  obtain⟨o,e,c,d⟩:=st
  exact⟨o,e,fun v z=>by rw[d]at z;cases z⟩
 keep:=fun i h h' st k=>let ⟨o,e,r⟩:=st;⟨o,k it (by simp) o e,r⟩
 item:=by
  intro X hP hw hK hc i pins s σ H E I hf st hg
  subst hP hw hK
  obtain⟨f0,f1,f2,f3,f4,f5⟩:=hf it (by simp)
  have W:Walks X.prog X.w X.A it [it] [it] x.cps.size (SignAt x) (fun i h=>h.IsStrIter it ty x t i):=by
   rcases hty with rfl | rfl
   ·exact Walks.strAscii (I.ok.hd hc) it x t
   ·exact Walks.strWide (I.ok.hd hc) it x t
  refine W.item i s _ _ hg st fun v h' tk hv st' kk => ?_
  obtain⟨c,u,hx,rfl⟩:=hv
  have I1:Inv X pins σ H { s with heap:=h',toks:=tk }:=I.turned (fun b o hb e=>kk b o (by simpa using hb) e) f0 f1 f3 f4 f5
  obtain⟨o,e,q,d⟩:=id st'
  refine⟨_,rfl,go_of (s:={ s with heap:=h',toks:=tk }) (n:=ty) e q d (by rcases hty with rfl | rfl<;>decide) ⟨.str ⟨#[c]⟩,H,I1,⟨u,rfl⟩,⟨rfl,c,hx,rfl⟩,st',fun b hb=>(hf b hb).1⟩⟩
 done:=by
  intro X hP hw hK hc i pins s σ H E I hf st hg
  subst hP hw hK
  obtain⟨f0,f1,f2,f3,f4,f5⟩:=hf it (by simp)
  have hi:x.cps.size<=i:=hg
  rcases hty with rfl | rfl
  ·exact wpAny_pyNext_ascii_end (I.ok.hd hc) st (by simp[hi]) fun h' eb=>⟨rfl,I.turned (t':=s.toks) (fun b o hb e=>eb b o hb e) f0 f1 f3 f4 f5⟩
  ·exact wpAny_pyNext_wide_end (I.ok.hd hc) st (by simp[hi]) fun h' eb=>⟨rfl,I.turned (t':=s.toks) (fun b o hb e=>eb b o hb e) f0 f1 f3 f4 f5⟩
 self:=fun A i s Q E st h=>by
  rcases hty with rfl | rfl
  ·exact wpAny_pyIter_striter_ascii st h
  ·exact wpAny_pyIter_striter_wide st h
section
variable{X:Cx}{Γ:Fns}{bw:Bool}{tg e:Expr}{c cs:Ex}{pos p:Pos}
noncomputable def iAny(K:PySem.W.Frag)(tl:TE):TI:=fun σ H R=>tl σ H fun x H1=>(∃ a xs,x=.ref a/\Rd H1 a (.lst xs)/\R (Itl K a) H1)\/(∃ a xs,x=.ref a/\Rd H1 a (.tup xs)/\R (Itt K a) H1)\/∃ y,x=.str y/\R (Its y) H1
theorem pi_any{tl:TE}(hl:PE X e tl):PI X tg e (iAny X.K tl):=by
 intro pins s σ H R I h
 refine thn (hl pins s σ H _ I h) fun v s1 ⟨x,H1,I1,r1,q1⟩ => ?_
 have fp:∀ b∈[s1.heap.objs.size],FpOk X pins H1 b:=fun b hb=>by
  obtain rfl:b=s1.heap.objs.size:=by simpa using hb
  exact I1.fpOk (Nat.le_refl _) (I1.hok.fresh (Nat.le_refl _))
 rcases q1 with ⟨a,xs,rfl,hq,q⟩ | ⟨a,xs,rfl,hq,q⟩ | ⟨y,rfl,q⟩
 ·cases r1
  obtain⟨its,rv,pl,hz⟩:=I1.list (sqL (K:=X.K) hq)
  refine wpAny_pyIter_list pl.isList ?_
  exact⟨s1.heap.objs.size,[s1.heap.objs.size],_,_,H1,rfl,I1.kept (t':=s1.toks) fun b o e=>Heap.get?_push_of_some _ e,turn_list a _,⟨_,Heap.get?_push_size _ rfl,rfl,rfl⟩,fp,q⟩
 ·cases r1
  obtain⟨its,rv,pl,hz⟩:=I1.tuple (sqT (K:=X.K) hq)
  refine wpAny_pyIter_tuple (show s1.heap.IsTuple a its.toArray from pl) ?_
  exact⟨s1.heap.objs.size,[s1.heap.objs.size],_,_,H1,rfl,I1.kept (t':=s1.toks) fun b o e=>Heap.get?_push_of_some _ e,turn_tuple a _,⟨_,Heap.get?_push_size _ rfl,rfl,rfl⟩,fp,q⟩
 ·obtain⟨t,rfl⟩:=r1
  refine wpAny_pyIter_strU ?_
  exact⟨s1.heap.objs.size,[s1.heap.objs.size],_,_,H1,rfl,I1.kept (t':=s1.toks) fun b o e=>Heap.get?_push_of_some _ e,turn_str _ y t (strIterType y) (by unfold strIterType;split<;>simp),⟨_,Heap.get?_push_size _ rfl,rfl,rfl⟩,fp,q⟩
end
end Mir
namespace Mir
open PySem PySem.Spec PyProof.Rows L2
section
variable{X:Cx}{Γ:Fns}{bw:Bool}{tg iter elt:Expr}{ifs:List Expr}{scope:Scope}{tn cn:List Str}{cap:List Nat}{celt cc cit:Ex}{pos:Pos}{n:Nat}
theorem gname_keeps(n:Nat)(hn:0 < n):∀ v σ H Q,gName 0 v σ H Q->gName 0 v σ H fun σ' H'=>Q σ' H'/\σ'.length=σ.length/\∀ j,n<=j->σ'[j]?=σ[j]?:=fun v σ H Q h=>⟨h,by simp,fun j hj=>by
 rw[List.getElem?_set_ne]
 omega⟩
end
end Mir
namespace Mir
open PySem PySem.Spec PyProof.Rows L2
theorem PS.imp{X:Cx}{st:Stmt}{t t':TS}(h:PS X st t)(i:∀ D σ H,t' D σ H->t D σ H):PS X st t':=fun pins s σ H D I q=>h pins s σ H D I (i D σ H q)
theorem PSs.imp{X:Cx}{st:List Stmt}{t t':TS}(h:PSs X st t)(i:∀ D σ H,t' D σ H->t D σ H):PSs X st t':=fun pins s σ H D I q=>h pins s σ H D I (i D σ H q)
section
variable{X:Cx}{Γ:Fns}{e:Expr}{c:Ex}{st:Stmt}{rest:List Stmt}{a b:Stm}{pos pos':Pos}
end
end Mir
namespace Mir
open PySem PySem.Spec PyProof.Rows L2
noncomputable def mixH(Z1:Addr->Prop)(H1 H0:Hp):Hp:=fun a=>@ite _ (Z1 a) (Classical.propDecidable _) (H1 a) (H0 a)
section
variable{Z0 Z1 Z:Addr->Prop}{H0 H1 H:Hp}{ρ:MEnv}{σ:L2.St}
theorem mixH_in{a:Addr}(h:Z1 a):mixH Z1 H1 H0 a=H1 a:=by unfold mixH;rw[if_pos h]
theorem mixH_out{a:Addr}(h:¬ Z1 a):mixH Z1 H1 H0 a=H0 a:=by unfold mixH;rw[if_neg h]
theorem mixH_none(sub:∀ a,Z1 a->Z a){a:Addr}(h:¬ Z a):mixH Z1 H1 H0 a=H0 a:=mixH_out fun z=>h (sub a z)
theorem mix_new(g1:Grow Z0 H0 Z1 H1){a:Addr}(h:Z1 a\/mixH Z1 H1 H0 a=none):Z0 a\/H0 a=none:=by
 by_cases z:Z1 a
 ·exact g1.new a z
 ·rcases h with h | h
  ·exact absurd h z
  ·rw[mixH_out z]at h;exact .inr h
theorem mix_old(g1:Grow Z0 H0 Z1 H1)(s:Same (mixH Z1 H1 H0) H):Same H0 H:=fun a o e=>by
 by_cases z:Z1 a
 ·exact s a o (by rw[mixH_in z];exact g1.same a o e)
 ·exact s a o (by rw[mixH_out z];exact e)
end
section
variable{X:Cx}{Γ:Fns}{tg e:Expr}{c:Ex}{b:Stm}{tb:List Stmt}{pos pos':Pos}
noncomputable def gNames:List Nat->TGs
 | []=>gNil
 | i::is=>gCons (gName i) (gNames is)
theorem pgs_names{nms:List (Str×Pos)}(hN:X.N.Nodup):∀ (is:List Nat) (nms:List (Str×Pos)),is.length=nms.length->(∀ (j i:Nat) (x:Str×Pos),is[j]?=some i->nms[j]?=some x->X.N[i]?=some x.1/\Loc X.env.scope x.1/\(X.fn x.1=true\/X.env.scope.names.lookup x.1=some .local)) ->
  PGs X (nms.map fun x=>Expr.Name x.1 x.2) (gNames is)
 | [],[],_,_=>pgs_nil
 | [],_::_,h,_=>by cases h
 | _::_,[],h,_=>by cases h
 | i::is,(x,px)::nms,hl,h=>by
  obtain⟨h1,h2,h3⟩:=h 0 i (x,px) rfl rfl
  exact pgs_cons (pg_name hN h1 h2 h3) (pgs_names (nms:=nms) hN is nms (by simpa using hl) fun j i x e1 e2=>h (j + 1) i x (by simpa using e1) (by simpa using e2))
end
end Mir
namespace Mir
open PySem PySem.Spec PyProof.Rows L2
section
variable{X:Cx}{Γ:Fns}{e o:Expr}{c:Ex}{i j:Nat}{x y:Str}{p0 p1 p2 p3 p4 p5 pos:Pos}
end
end Mir
namespace Mir
open PySem PySem.Spec PyProof.Rows L2
theorem inv_turned2{X:Cx}{pins:List (Addr×Obj)}{σ:L2.St}{H:Hp}{s:Shared}{h':Heap}{t':Nat}{fp:List Addr}{a:Addr}{o:HO}(I:Inv X pins σ H s)(hf:∀ b∈fp,FpOk X pins H b)
  (k:∀ b o,b∉fp->s.heap.get? b=some o->h'.get? b=some o) (ha:s.heap.objs.size<=a) (new:ObjOk X.prog X.w (upd H a o) h' a o):Inv X pins σ (upd H a o) { s with heap:=h',toks:=t' }:=by
 have hn:=I.hok.fresh ha
 have nfp:∀ b u,H b=some u->b∉fp:=fun b u e z=>by rw[(hf b z).1]at e;cases e
 have up:∀ b u,H b=some u->upd H a o b=some u:=fun b u e=>by rw[upd_ne (ne_of_none e hn)];exact e
 refine I.step (g':=s.gens) (d':=s.drawn) (ch:=fp) (fun b hb => ?_) (fun b o _ _ hc e _=>k b o hc e) (fun b o _ _ hc e _=>⟨o.slots,k b o hc e⟩) (fun b u _ e n => ?_)
  (fun b o hc e=>⟨o,k b o hc e⟩) (fun b xs e=>up b _ e) (fun b u v e=>up b _ e) (fun b ps e=>⟨#[],by rw[up b _ e];simp⟩) (fun m hm => ?_) (fun b u e => ?_) I.bare
 ·obtain⟨f0,f1,f2,f3,f4,f5⟩:=hf b hb
  exact⟨f3,f1,f4,f5⟩
 ·have:b≠a:=fun z=>absurd (Heap.lt_size e) (by rw[z];exact Nat.not_lt.mpr ha)
  rw[upd_ne this];exact n
 ·obtain⟨o,es,ep,ho,r⟩:=hm
  exact⟨o,es,ep,k _ o (fun z=>(hf _ z).2.1 rfl) ho,r⟩
 ·by_cases hb:b=a
  ·subst hb
   rw[upd_same]at e;cases e
   exact new
  ·rw[upd_ne hb]at e
   refine(I.hok b u e).stay (fun c v hc q=>k c v ?_ q) (fun c q=>up c _ q) fun c _ q=>up c _ q
   rcases hc with z | z
   ·rw[z];exact nfp b u e
   ·exact nfp c _ z
noncomputable def Ite(K:PySem.W.Frag)(a:Addr):It:=
 ⟨fun i H=>∃ xs x,SqL K H a xs/\xs[i]?=some x,fun i H x H'=>∃ p,x=.ref p/\H p=none/\∀ xs,SqL K H a xs->∃ v,xs[i]?=some v/\H'=upd H p (.tup [.int i,v]),fun i H=>∃ xs,SqL K H a xs/\xs.length<=i⟩
theorem turn_enum{P:Program}{w:World}{K:PySem.W.Frag}{elts:List Expr}{x1:Nat}{tpos:Pos}(a e it:Addr)(hne:e≠it) :
  Turn P w K (.Tuple elts x1 tpos) (Ite K a) [e,it] e (fun i h=>(∃ old,IsEnum h e it i old)/\h.IsListIter it a i) where
 mem:=by simp
 obj:=fun i h st b hb=>by
  obtain⟨⟨old,st1⟩,o,e2,c,d⟩:=st
  rcases List.mem_cons.mp hb with z | z
  ·subst z
   exact⟨_,st1,fun v z=>by
    have z':Data.fields _=Data.cell v:=z
    cases z'⟩
  ·have z:b=it:=by simpa using z
   subst z
   exact⟨o,e2,fun v z=>by rw[d]at z;cases z⟩
 keep:=fun i h h' st k=>by
  obtain⟨⟨old,st1⟩,st2⟩:=st
  exact⟨⟨old,k e (by simp) _ st1⟩,st2.at fun o q=>k it (by simp) o q⟩
 item:=by
  intro X hP hw hK hc i pins s σ H E I hf st hg
  subst hP hw hK
  obtain⟨xs,x,hq,hx⟩:=hg
  obtain⟨⟨old,st1⟩,st2⟩:=st
  obtain⟨its,rv,p,hz⟩:=I.list hq
  obtain⟨u,hu,ru⟩:=rv.get hx
  refine wpAny_pyNext_enum_item st1 st2 p.isList (x:=u) (by simpa using hu) hne fun h' so si tu sz kp => ?_
  refine⟨_,rfl,wpAny_letOwnedTupleGo_enum (s:={ s with heap:=h',toks:=s.toks + 1 }) so fun h2 se sb => ?_⟩
  have kp2:∀ b o,b∉[e,it]->s.heap.get? b=some o->h2.get? b=some o:=fun b o hb q=>by
   have h1:b≠e:=fun z=>hb (by simp[z])
   have h3:b≠it:=fun z=>hb (by simp[z])
   exact sb.extBut b o h1 (kp b o h1 h3 q)
  have hel:e < s.heap.objs.size:=Heap.lt_size st1
  have tu2:h2.get? s.heap.objs.size=some { cls:=.type "tuple",data:=.seq #[.int i s.toks,u] }:=sb.extBut _ _ (Nat.ne_of_gt hel) tu
  have se':∃ old,IsEnum h2 e it ((i + 1:Nat):Int) old:=⟨u,by rw[show((i + 1:Nat):Int)=(i:Int) + 1 by omega];exact se⟩
  refine⟨.ref s.heap.objs.size,upd H s.heap.objs.size (.tup [.int i,x]),?_,rfl,⟨_,rfl,I.hok.fresh (Nat.le_refl _),fun ys hy=>⟨x,by rw[I.list_inj hy hq];exact hx,rfl⟩⟩,⟨se',?_⟩,fun b hb => ?_⟩
  ·have tup:IsTup h2 s.heap.objs.size [Value.int i s.toks,u].toArray:=⟨_,tu2,rfl,_,rfl⟩
   have new:ObjOk X.prog X.w (upd H s.heap.objs.size (.tup [.int i,x])) h2 s.heap.objs.size (.tup [.int i,x]):=⟨by rw[sizeLine_eq];simp,[.int i s.toks,u],.cons ⟨_,rfl⟩ (.cons ru .nil),tup⟩
   have:=inv_turned2 (s:=s) (h':=h2) (t':=s.toks + 1) I hf kp2 (Nat.le_refl _) new
   exact this
  ·exact si.extBut sb.extBut (Ne.symm hne)
  ·have hlt:b < s.heap.objs.size:=by
    rcases List.mem_cons.mp hb with z | z
    ·subst z;exact hel
    ·have z:b=it:=by simpa using z
     subst z
     obtain⟨o,q,_⟩:=st2
     exact Heap.lt_size q
   rw[upd_ne (Nat.ne_of_lt hlt)]
   exact(hf b hb).1
 done:=by
  intro X hP hw hK hc i pins s σ H E I hf st hg
  subst hP hw hK
  obtain⟨xs,hq,hx⟩:=hg
  obtain⟨⟨old,st1⟩,st2⟩:=st
  obtain⟨its,rv,p,hz⟩:=I.list hq
  obtain⟨f0,f1,f2,f3,f4,f5⟩:=hf it (by simp)
  have hl:=rv.length
  exact wpAny_pyNext_enum_end (I.ok.hd hc) st1 st2 p.isList (by simp;omega) fun h' eb=>⟨rfl,I.turned (t':=s.toks) (fun b o hb e=>eb b o hb e) f0 f1 f3 f4 f5⟩
 self:=fun _ _ _ _ _ st h=>by
  obtain⟨⟨old,st1⟩,_⟩:=st
  exact wpAny_pyIter_enum st1 h
theorem enm_len:∀ (ds:List D) (k:Nat),(enmFrom k ds).length=ds.length
 | [],_=>rfl
 | d::ds,k=>by rw[enmFrom,List.length_cons,List.length_cons,enm_len ds]
theorem enm_get:∀ (ds:List D) (k i:Nat) (d:D),(enmFrom k ds)[i]?=some d->∃ x,ds[i]?=some x/\d=.tup [.int (k + i:Nat),x]
 | [],_,_,_,h=>by simp[enmFrom]at h
 | d::ds,k,0,d',h=>by simp[enmFrom]at h;exact⟨d,rfl,h.symm⟩
 | d::ds,k,i + 1,d',h=>by
  simp only[enmFrom,List.getElem?_cons_succ]at h
  obtain⟨x,h1,h2⟩:=enm_get ds (k + 1) i d' h
  exact⟨x,by simpa using h1,by rw[h2,show k + 1 + i=k + (i + 1) by omega]⟩
theorem strs_of:∀ {ds:List D} {xs:List Str} {Z:Addr->Prop} {H:Hp} {vs:List V} {us:List Value},strsD ds=some xs->Reps Z H ds vs->Vals vs us->StrsAre us xs
 | [],xs,Z,H,vs,us,h,r,q=>by
  cases h
  rw[r.nil_inv]at q
  cases q
  exact .nil
 | d::ds,xs,Z,H,vs,us,h,r,q=>by
  obtain⟨v,rs,rfl,r1,r2⟩:=r.cons_inv
  cases d with
  | str x=>
   simp only[strsD]at h
   obtain⟨ys,h1,rfl⟩:=Option.map_eq_some_iff.mp h
   simp only[Rep]at r1
   subst r1
   cases q with
   | cons qa qb=>
    obtain⟨t,rfl⟩:=qa
    exact .cons x t (strs_of h1 r2 qb)
  | _=>cases h
noncomputable def rJoin:V->List V->Hp->VK->Prop:=fun x vs H Q=>∃ z Z ds xs y,x=.str z/\vs=[y]/\Now Z H (.lst ds) y/\strsD ds=some xs/\z.length<=16/\(xs.map (·.length)).sum + xs.length<=1048576/\Q (.str (Txt.join z xs)) H
theorem mt_join{X:Cx}:MtR X "str.join" rJoin:=by
 intro pins s σ H x vs v us Q I rx rv h
 obtain⟨z,Z,ds,xs,y,rfl,rfl,n,hs,h1,h2,q⟩:=h
 obtain⟨t,rfl⟩:=rx
 obtain⟨l,ws,rfl,q1,q2⟩:=now_lst n
 obtain⟨u,rfl,ru⟩:=rv.one
 cases ru
 obtain⟨its,rv',pl,hz⟩:=I.list (sqL (K:=X.K) q1)
 exact join_listW pl.isList (by simpa using strs_of hs q2 rv') h1 h2 fun t' k=>⟨.str _,H,I.tok _,⟨t',rfl⟩,q⟩
theorem rel_inj{v v':V}{u:Value}(h:L2.RelV v u)(h':L2.RelV v' u):v=v':=by
 cases v<;>cases v'<;>simp only[L2.RelV]at h h'<;>first
  | (obtain⟨t,rfl⟩:=h;obtain⟨t',e⟩:=h';cases e;done)
  | (obtain⟨t,rfl⟩:=h;obtain⟨t',e⟩:=h';cases e;rfl)
  | (obtain⟨t,rfl⟩:=h;cases h';done)
  | (subst h;obtain⟨t',e⟩:=h';cases e;done)
  | (subst h;cases h';done)
  | (subst h;cases h';rfl)
  | rfl
theorem rdA_lst{H:Hp}{a:Addr}{u:HO}{vs:List V}(h:Rd H a (.lst vs))(h':Rd H a u)(hu:∀ o w,u≠.frz o w):u=.lst vs:=by
 rcases h with h | ⟨o,h⟩<;>rcases h' with h' | ⟨o',h'⟩<;>rw[h]at h'<;>cases h'<;>first | rfl | exact absurd rfl (hu _ _)
theorem rdA_tup{H:Hp}{a:Addr}{u:HO}{vs:List V}(h:Rd H a (.tup vs))(h':Rd H a u)(hu:∀ o w,u≠.frz o w):u=.tup vs:=by
 rcases h with h | ⟨o,h⟩<;>rcases h' with h' | ⟨o',h'⟩<;>rw[h]at h'<;>cases h'<;>first | rfl | exact absurd rfl (hu _ _)
mutual
theorem rep_inj{Z:Addr->Prop}{H:Hp}:∀ {n:Nat} {d d':D} {v:V},okEq n d=true->okEq n d'=true->Rep Z H d v->Rep Z H d' v->d=d'
 | n,.non,d',v,_,o',h,h'=>by
  simp only[Rep]at h;subst h
  cases d'<;>simp only[Rep]at h'<;>first | rfl | (cases h';done) | (obtain⟨_,_,e,_⟩:=h';cases e)
 | n,.bl b,d',v,_,o',h,h'=>by
  simp only[Rep]at h;subst h
  cases d'<;>simp only[Rep]at h'<;>first | (cases h';rfl) | (cases h';done) | (obtain⟨_,_,e,_⟩:=h';cases e)
 | n,.int b,d',v,_,o',h,h'=>by
  simp only[Rep]at h;subst h
  cases d'<;>simp only[Rep]at h'<;>first | (cases h';rfl) | (cases h';done) | (obtain⟨_,_,e,_⟩:=h';cases e)
 | n,.str b,d',v,_,o',h,h'=>by
  simp only[Rep]at h;subst h
  cases d'<;>simp only[Rep]at h'<;>first | (cases h';rfl) | (cases h';done) | (obtain⟨_,_,e,_⟩:=h';cases e)
 | 0,.lst ds,_,_,o,_,_,_=>by simp[okEq]at o
 | 0,.tup ds,_,_,o,_,_,_=>by simp[okEq]at o
 | n + 1,.lst ds,d',v,o,o',h,h'=>by
  simp only[Rep]at h
  obtain⟨a,vs,rfl,_,h1,h2⟩:=h
  cases d' with
  | lst ds'=>
   simp only[Rep]at h'
   obtain⟨a',vs',e,_,h1',h2'⟩:=h'
   cases e
   have:=rdA_lst h1 h1' (fun _ _ z=>by cases z)
   cases this
   simp only[okEq]at o o'
   rw[reps_inj o o' h2 h2']
  | tup ds'=>
   simp only[Rep]at h'
   obtain⟨a',vs',e,_,h1',h2'⟩:=h'
   cases e
   have:=rdA_lst h1 h1' (fun _ _ z=>by cases z)
   cases this
  | dct _ _=>simp[okEq]at o'
  | ref _=>simp[okEq]at o'
  | _=>simp only[Rep]at h';cases h'
 | n + 1,.tup ds,d',v,o,o',h,h'=>by
  simp only[Rep]at h
  obtain⟨a,vs,rfl,_,h1,h2⟩:=h
  cases d' with
  | lst ds'=>
   simp only[Rep]at h'
   obtain⟨a',vs',e,_,h1',h2'⟩:=h'
   cases e
   have:=rdA_tup h1 h1' (fun _ _ z=>by cases z)
   cases this
  | tup ds'=>
   simp only[Rep]at h'
   obtain⟨a',vs',e,_,h1',h2'⟩:=h'
   cases e
   have:=rdA_tup h1 h1' (fun _ _ z=>by cases z)
   cases this
   simp only[okEq]at o o'
   rw[reps_inj o o' h2 h2']
  | dct _ _=>simp[okEq]at o'
  | ref _=>simp[okEq]at o'
  | _=>simp only[Rep]at h';cases h'
 | n,.dct _ _,_,_,o,_,_,_=>by cases n<;>simp[okEq]at o
 | n,.ref _,_,_,o,_,_,_=>by cases n<;>simp[okEq]at o
theorem reps_inj{Z:Addr->Prop}{H:Hp}:∀ {n:Nat} {ds ds':List D} {vs:List V},ds.all (okEq n)=true->ds'.all (okEq n)=true->Reps Z H ds vs->Reps Z H ds' vs->ds=ds'
 | n,[],ds',vs,_,_,h,h'=>by
  rw[h.nil_inv]at h'
  cases ds' with
  | nil=>rfl
  | cons d r=>obtain⟨_,_,e,_⟩:=h'.cons_inv;cases e
 | n,d::ds,ds',vs,o,o',h,h'=>by
  obtain⟨v,r,rfl,h1,h2⟩:=h.cons_inv
  cases ds' with
  | nil=>exact absurd h'.nil_inv (by simp)
  | cons d' ds'=>
   obtain⟨v',r',e,h1',h2'⟩:=h'.cons_inv
   cases e
   simp only[List.all_cons,Bool.and_eq_true]at o o'
   rw[rep_inj o.1 o'.1 h1 h1',reps_inj o.2 o'.2 h2 h2']
end
noncomputable def rIndex:V->List V->Hp->VK->Prop:=fun x vs H Q=>∃ Z ds d y j,vs=[y]/\Now Z H (.lst ds) x/\Now Z H d y/\okEq 8 d=true/\ds.all (okEq 8)=true/\ds.findIdx? (fun e=>eqD e d)=some j/\Q (.int j) H
theorem reps_vals{Z:Addr->Prop}{H:Hp}{ds:List D}{vs:List V}{its:List Value}{m:Nat}(r:Reps Z H ds vs)(q:Vals vs its)(hm:m < its.length)(hd:m < ds.length):∃ v,Rep Z H ds[m] v/\L2.RelV v its[m]:=by
 obtain⟨v,h1,h2⟩:=r.get (i:=m) (d:=ds[m]) (by simp[hd])
 obtain⟨u,h3,h4⟩:=q.get h1
 rw[List.getElem?_eq_getElem hm]at h3
 cases h3
 exact⟨v,h2,h4⟩
theorem mt_index{X:Cx}(hu:X.A.units + 64 < cLine):MtR X "list.index" rIndex:=by
 intro pins s σ H x vs v us Q I rx rv h
 obtain⟨Z,ds,d,y,j,rfl,nx,ny,o1,o2,hj,q⟩:=h
 obtain⟨l,ws,rfl,q1,q2⟩:=now_lst nx
 cases rx
 obtain⟨u,rfl,ru⟩:=rv.one
 obtain⟨its,rv',pl,hz⟩:=I.list (sqL (K:=X.K) q1)
 obtain⟨hjl,he,hno⟩:=List.findIdx?_eq_some_iff_getElem.mp hj
 have hl:=rv'.length
 have hl2:=q2.length
 obtain⟨o,n,ho,hc,hd,hdt⟩:=pl
 have hdm:∀ m (hm:m < ds.length),okEq 8 ds[m]=true:=fun m hm=>List.all_eq_true.mp o2 _ (List.getElem_mem hm)
 have hj2:j < its.length:=by omega
 classical
 let e:Value->Bool:=fun w=>decide (∃ m,∃ (hm:m < its.length) (hd:m < ds.length),its[m]=w/\eqD ds[m] d=true)
 have he':∀ m (hm:m < its.length) (hd:m < ds.length),e its[m]=eqD ds[m] d:=fun m hm hd=>by
  cases hq:eqD ds[m] d with
  | true=>exact decide_eq_true ⟨m,hm,hd,rfl,hq⟩
  | false=>
   refine decide_eq_false ?_
   rintro⟨m',hm',hd',e1,e2⟩
   obtain⟨v1,r1,p1⟩:=reps_vals q2 rv' hm hd
   obtain⟨v2,r2,p2⟩:=reps_vals q2 rv' hm' hd'
   rw[e1]at p2
   have:=rel_inj p1 p2
   subst this
   rw[rep_inj (hdm m hd) (hdm m' hd') r1 r2]at hq
   rw[hq]at e2;cases e2
 refine call_meets F.slot_list_index ⟨_,ho,hc⟩ F.entry_list_index (F.args_list_index_2 _ _)
  (SeqAt.list_indexAt l its.toArray n none o.slots u e j (by rw[List.size_toArray];exact hj2) (by rw[sizeLine_eq]at hz;omega) ?_ ?_) ⟨?_,fun w hw => ?_,?_⟩
 ·show e its[j]=true
  rw[he' j hj2 hjl];exact he
 ·intro m hm hmj
  have hm':m < its.length:=by simpa using hm
  show e its[m]=false
  rw[he' m hm' (by omega)]
  simpa using hno m hmj
 ·rw[ho]
  obtain⟨c',d',dt,sl⟩:=o
  cases hc;cases hd;cases hdt;rfl
 ·obtain⟨m,hm,rfl⟩:=List.mem_iff_getElem.mp (show w∈its by simpa using hw)
  have hd':m < ds.length:=by omega
  rw[he' m hm hd']
  obtain⟨v1,r1,p1⟩:=reps_vals q2 rv' hm hd'
  exact eq_of_vw I 8 _ _ _ _ _ (by simp[Around.in1];omega) (hdm m hd') o1 (vw_of I r1.now p1 (hdm m hd')) (vw_of I ny ru o1)
 ·exact⟨.int j,H,I.tok _,⟨_,rfl⟩,q⟩
end Mir
namespace Mir
open PySem PySem.Spec PyProof.Rows L2
section
variable{prog:Program}{w:World}{A:Around}{E:Value->Shared->Prop}{s:Shared}
theorem nextT_item{it t:Addr}{i:Nat}{items:Array Value}{x:Value}{Q:Value->Shared->Prop}(hit:s.heap.IsTupleIter it t i)(ht:s.heap.IsTuple t items)(hx:items[i]?=some x)
  (hQ:∀ h',h'.IsTupleIter it t (i + 1)->Heap.SameBut it s.heap h'->Q x { s with heap:=h' }):wpAny (model prog w) A (Builtin.SmallTypes.nextOf (.ref it)) Q E s:=by
 obtain⟨o,ho,hc,hd⟩:=id hit
 obtain⟨ol,hol,_,nl,hdl⟩:=ht
 unfold Builtin.SmallTypes.nextOf
 refine wpAny_bind (wpAny_callSpecial?_slot (name:=Str.ofString "__next__") hit.typeIs F.slot_tuple_iterator_next
  (wpAny_call_entry F.slot_tuple_iterator_next hit.typeIs F.entry_tuple_iterator_next ?_ (F.args_tuple_iterator_next_1 _)))
 show wpAny _ _ (field (.ref it) 0 >>= _) _ _ s
 refine wpAny_bind (wpAny_field ho hd (x:=.ref t) rfl ?_)
 show wpAny _ _ (if (Value.ref t == Value.none)=true then _ else _) _ _ s
 rw[if_neg (show ¬ ((Value.ref t == Value.none)=true) from Bool.false_ne_true)]
 show wpAny _ _ (field (.ref it) 1 >>= _) _ _ s
 refine wpAny_bind (wpAny_field ho hd (x:=.int i 0) rfl ?_)
 show wpAny _ _ (seqItems? (.ref t) >>= _) _ _ s
 refine wpAny_bind (wpAny_seqItems hol hdl ?_)
 simp only[Int.toNat_natCast,hx]
 refine wpAny_bind (wpAny_setField ho hd (by simp) (wpAny_pure ⟨x,rfl,wpAny_pure (hQ _ ?_ (Heap.SameBut.update ..))⟩))
 exact⟨_,Heap.get?_update_self _ ho (Obj.isFreed_of_fields (Obj.data_mapFields hd _)),(Obj.cls_mapFields ..).trans hc,by
  rw[Obj.data_mapFields hd];simp[rawInt]⟩
theorem nextT_end{it t:Addr}{i:Nat}{items:Array Value}{Q:Value->Shared->Prop}(hh:A.handled=none)(hit:s.heap.IsTupleIter it t i)(ht:s.heap.IsTuple t items)(hx:items[i]?=none)
  (hE:∀ h' e,Heap.ExtBut it s.heap h'->(∃ o,h'.get? e=some o/\o.cls=.type "StopIteration")->E (.ref e) { s with heap:=h' }):wpAny (model prog w) A (Builtin.SmallTypes.nextOf (.ref it)) Q E s:=by
 obtain⟨o,ho,hc,hd⟩:=id hit
 obtain⟨ol,hol,_,nl,hdl⟩:=ht
 unfold Builtin.SmallTypes.nextOf
 refine wpAny_bind (wpAny_callSpecial?_slot (name:=Str.ofString "__next__") hit.typeIs F.slot_tuple_iterator_next
  (wpAny_call_entry F.slot_tuple_iterator_next hit.typeIs F.entry_tuple_iterator_next ?_ (F.args_tuple_iterator_next_1 _)))
 show wpAny _ _ (field (.ref it) 0 >>= _) _ _ s
 refine wpAny_bind (wpAny_field ho hd (x:=.ref t) rfl ?_)
 show wpAny _ _ (if (Value.ref t == Value.none)=true then _ else _) _ _ s
 rw[if_neg (show ¬ ((Value.ref t == Value.none)=true) from Bool.false_ne_true)]
 show wpAny _ _ (field (.ref it) 1 >>= _) _ _ s
 refine wpAny_bind (wpAny_field ho hd (x:=.int i 0) rfl ?_)
 show wpAny _ _ (seqItems? (.ref t) >>= _) _ _ s
 refine wpAny_bind (wpAny_seqItems hol hdl ?_)
 simp only[Int.toNat_natCast,hx]
 refine wpAny_bind (wpAny_rule (wpAny_bind (wpAny_setField ho hd (by simp) ?_)))
 show wpAny _ _ (newExc (.type "StopIteration") [] >>= _) _ _ _
 refine wpAny_bind ?_
 simp only[newExc,newTuple]
 refine wpAny_bind (wpAny_newObj_type ?_ (by size_fits))
 refine wpAny_bind (m:=firstArgMember _ _) (wpAny_of_eq (a:=Value.none) (by first | rfl | (simp only[firstArgMember];rfl)) ?_)
 refine wpAny_newObj_type ?_ (by size_fits)
 simp only[raiseNew]
 refine wpAny_bind (wpAny_handled ?_)
 first | rw[show A.in1.handled=none from hh] | rw[hh]
 refine wpAny_bind (wpAny_pure (wpAny_throw ?_))
 exact hE _ _ (((Heap.SameBut.update ..).extBut.push _).push _) ⟨_,Heap.get?_push_size _ rfl,rfl⟩
end
theorem drawsT{prog:Program}{w:World}{A:Around}(hh:A.handled=none)(it l:Addr)(hne:l≠it)(items:Array Value) :
  Draws prog w A it [it,l] items.size (fun i v=>items[i]?=some v) (fun i h=>h.IsTupleIter it l i/\h.IsTuple l items) where
 live:=fun _ _ st=>let ⟨o,ho,_⟩:=st.1;⟨o,ho⟩
 frame:=fun _ _ _ st hk=>⟨let ⟨o,ho,r⟩:=st.1;⟨o,hk it (by simp) o ho,r⟩,let ⟨o,ho,r⟩:=st.2;⟨o,hk l (by simp) o ho,r⟩⟩
 item:=fun i s Q E hi st hQ=>by
  refine nextT_item st.1 st.2 (x:=items[i]) (by simp[hi]) fun h' hit' hs' => ?_
  exact hQ _ h' s.toks (by simp[hi]) ⟨hit',st.2.extBut hs'.extBut hne⟩ hs'
 done:=fun s Q E st hE=>nextT_end hh st.1 st.2 (by simp) hE
open AutoSeq1 (wpAny_loadPart') in
theorem meets_enumT(l:Addr)(items:Array Value)(n:Nat)(dct:Option Addr)(sl:Array (Option Value)) :
  Meets (Builtin.«enumerate.__new__» ⟨[.type "enumerate",.ref l],[]⟩) (fun _ R s=>s.heap.get? l=some { cls:=.type "tuple",dict:=dct,data:=.seq items n,slots:=sl } /\
   R (.ok (.ret (.ref (s.heap.push { cls:=.type "tuple_iterator",data:=.fields #[.ref l,.int 0 0] }).objs.size)))
    { s with heap:=(s.heap.push { cls:=.type "tuple_iterator",data:=.fields #[.ref l,.int 0 0] }).push { cls:=.type "enumerate",data:=.fields #[.none,.bool false,.ref s.heap.objs.size,rawInt 0,.none,.none] } }):=
 .of_wp fun prog w A R s h=>by
  obtain⟨hp,g,d,tk,os⟩:=s;obtain⟨hl,h⟩:=h
  have hsub:=sub_enumerate
  have hL:Heap.IsTuple (Shared.heap ⟨hp,g,d,tk,os⟩) l items:=⟨_,hl,rfl,n,rfl⟩
  wp_walk using wpAny_loadPart' hl
  refine wpAny_stack_any fun st=>wpAny_pure ?_
  split
  ·rename_i c _ _ _ _ _
   cases (c == Value.type "enumerate")
   ·wp_walk using wpAny_loadPart' hl,wpAny_pyIter_tuple hL
    exact⟨_,rfl,h⟩
   ·wp_walk using wpAny_loadPart' hl,wpAny_pyIter_tuple hL
    exact⟨_,rfl,h⟩
  ·wp_walk using wpAny_loadPart' hl,wpAny_pyIter_tuple hL
   exact⟨_,rfl,h⟩
theorem call_enumT{prog:Program}{w:World}{A:Around}{E:Value->Shared->Prop}{s:Shared}{l:Addr}{items:Array Value}{Q:Value->Shared->Prop}(hL:s.heap.IsTuple l items)
  (h:∀ h',IsEnum h' (s.heap.objs.size + 1) s.heap.objs.size 0 .none->h'.IsTupleIter s.heap.objs.size l 0->h'.objs.size=s.heap.objs.size + 2 ->
   (∀ b o,s.heap.get? b=some o->h'.get? b=some o)->Q (.ref (s.heap.objs.size + 1)) { s with heap:=h' }) :
  wpAny (model prog w) A (call (.type "enumerate") [.ref l]) Q E s:=by
 obtain⟨⟨c,dct,dt,sl⟩,hl,hc,n,hd⟩:=hL
 replace hc:c=.type "tuple":=hc
 replace hd:dt=.seq items n:=hd
 subst hc hd
 refine callType_new F.called_enumerate (by decide) (F.typeCall_enumerate_1 _) (F.newCall_enumerate_1 _) (fun obj=>F.args_object_init_2 obj _) F.entry_enumerate_new
  (meets_enumT l items n dct sl) ⟨hl,?_⟩
 have hz:(s.heap.push { cls:=.type "tuple_iterator",data:=.fields #[.ref l,.int 0 0] }).objs.size=s.heap.objs.size + 1:=Heap.size_push ..
 show _/\_
 rw[hz]
 have he:IsEnum ((s.heap.push { cls:=.type "tuple_iterator",data:=.fields #[.ref l,.int 0 0] }).push
   { cls:=.type "enumerate",data:=.fields #[.none,.bool false,.ref s.heap.objs.size,rawInt 0,.none,.none] }) (s.heap.objs.size + 1) s.heap.objs.size 0 .none:=by
  have:=Heap.get?_push_size (s.heap.push { cls:=.type "tuple_iterator",data:=.fields #[.ref l,.int 0 0] })
   (o:={ cls:=.type "enumerate",data:=.fields #[.none,.bool false,.ref s.heap.objs.size,rawInt 0,.none,.none] }) rfl
  rw[hz]at this;exact this
 refine⟨⟨_,he,rfl⟩,h _ he ⟨_,Heap.get?_push_of_some _ (Heap.get?_push_size _ rfl),rfl,rfl⟩ (by rw[Heap.size_push,hz]) fun b o x=>Heap.get?_push_of_some _ (Heap.get?_push_of_some _ x)⟩
theorem enumT_end{prog:Program}{w:World}{A:Around}{E:Value->Shared->Prop}{s:Shared}{e it l:Addr}{i:Nat}{items:Array Value}{old:Value}{Q:Option Value->Shared->Prop}(hh:A.handled=none)
  (he:IsEnum s.heap e it i old) (hit:s.heap.IsTupleIter it l i) (hl:s.heap.IsTuple l items) (hx:items[i]?=none)
  (hQ:∀ h',Heap.ExtBut it s.heap h'->Q none { s with heap:=h' }):wpAny (model prog w) A (pyNext (.ref e)) Q E s:=by
 have hT:s.TypeIs (.ref e) "enumerate":=⟨_,he,rfl⟩
 unfold pyNext
 refine wpAny_bind (wpAny_attempt (wpAny_callSpecial?_slot (name:=Str.ofString "__next__") hT F.slot_enumerate_next
  (wpAny_call_entry F.slot_enumerate_next hT F.entry_enumerate_next ?_ (F.args_enumerate_next_1 _))))
 show wpAny _ _ (field (.ref e) 2 >>= _) _ _ _
 refine wpAny_bind (wpAny_field he rfl (x:=.ref it) rfl ?_)
 refine wpAny_bind (nextT_end hh hit hl hx fun h' x he' hx' => ?_)
 obtain⟨o,ho,hc⟩:=hx'
 refine wpAny_bind (wpAny_isInstance (T:="StopIteration") (b:=true) ⟨o,ho,hc⟩ isSubtype_stop ?_)
 exact wpAny_pure (hQ _ he')
noncomputable def IteT(K:PySem.W.Frag)(a:Addr):It:=
 ⟨fun i H=>∃ xs x,SqT K H a xs/\xs[i]?=some x,fun i H x H'=>∃ p,x=.ref p/\H p=none/\∀ xs,SqT K H a xs->∃ v,xs[i]?=some v/\H'=upd H p (.tup [.int i,v]),fun i H=>∃ xs,SqT K H a xs/\xs.length<=i⟩
theorem turn_enumT{P:Program}{w:World}{K:PySem.W.Frag}{elts:List Expr}{x1:Nat}{tpos:Pos}(a e it:Addr)(hne:e≠it) :
  Turn P w K (.Tuple elts x1 tpos) (IteT K a) [e,it] e (fun i h=>(∃ old,IsEnum h e it i old)/\h.IsTupleIter it a i) where
 mem:=by simp
 obj:=fun i h st b hb=>by
  obtain⟨⟨old,st1⟩,o,e2,c,d⟩:=st
  rcases List.mem_cons.mp hb with z | z
  ·subst z
   exact⟨_,st1,fun v z=>by
    have z':Data.fields _=Data.cell v:=z
    cases z'⟩
  ·have z:b=it:=by simpa using z
   subst z
   exact⟨o,e2,fun v z=>by rw[d]at z;cases z⟩
 keep:=fun i h h' st k=>by
  obtain⟨⟨old,st1⟩,o,e2,r⟩:=st
  exact⟨⟨old,k e (by simp) _ st1⟩,o,k it (by simp) o e2,r⟩
 item:=by
  intro X hP hw hK hc i pins s σ H E I hf st hg
  subst hP hw hK
  obtain⟨xs,x,hq,hx⟩:=hg
  obtain⟨⟨old,st1⟩,st2⟩:=st
  obtain⟨its,rv,p,hz⟩:=I.tuple hq
  obtain⟨u,hu,ru⟩:=rv.get hx
  have hit':a≠it:=fun z=>by
   obtain⟨o,h1,h2,_⟩:=p
   obtain⟨o',h3,h4,_⟩:=st2
   rw[z,h3]at h1;cases h1
   rw[h2]at h4;exact absurd h4 (by decide)
  have hea:e≠a:=fun z=>by
   obtain⟨o,h1,h2,_⟩:=p
   have st1':s.heap.get? e=some _:=st1
   rw[z,h1]at st1'
   have h2':=congrArg (fun x:Option Obj=>x.map (·.cls)) st1'
   simp only[Option.map_some,h2,Option.some.injEq]at h2'
   exact absurd h2' (by decide)
  have hlt:i < its.toArray.size:=by
   have:=(List.getElem?_eq_some_iff.mp hu).1
   simpa using this
  refine wpAny_pyNext_enum_itemD (drawsT (A:=X.A.in1) (I.ok.hd hc) it a hit' its.toArray) st1 ⟨st2,p⟩ hlt hne (by simp[hne,hea]) fun u' h' tk hpu so si tu sz kp => ?_
  have hpu':u'=u:=by
   have e1:its.toArray[i]?=some u':=hpu
   have e2:its[i]?=some u':=by simpa using e1
   rw[hu]at e2;cases e2;rfl
  subst hpu'
  refine⟨_,rfl,wpAny_letOwnedTupleGo_enum (s:={ s with heap:=h',toks:=tk + 1 }) so fun h2 se sb => ?_⟩
  have kp2:∀ b o,b∉[e,it]->s.heap.get? b=some o->h2.get? b=some o:=fun b o hb q=>by
   have h1:b≠e:=fun z=>hb (by simp[z])
   have h3:b≠it:=fun z=>hb (by simp[z])
   exact sb.extBut b o h1 (kp b o h1 h3 q)
  have hel:e < s.heap.objs.size:=Heap.lt_size st1
  have tu2:h2.get? s.heap.objs.size=some { cls:=.type "tuple",data:=.seq #[.int i tk,u'] }:=sb.extBut _ _ (Nat.ne_of_gt hel) tu
  have se':∃ old,IsEnum h2 e it ((i + 1:Nat):Int) old:=⟨u',by rw[show((i + 1:Nat):Int)=(i:Int) + 1 by omega];exact se⟩
  refine⟨.ref s.heap.objs.size,upd H s.heap.objs.size (.tup [.int i,x]),?_,rfl,⟨_,rfl,I.hok.fresh (Nat.le_refl _),fun ys hy=>⟨x,by rw[I.tuple_inj hy hq];exact hx,rfl⟩⟩,⟨se',?_⟩,fun b hb => ?_⟩
  ·have tup:IsTup h2 s.heap.objs.size [Value.int i tk,u'].toArray:=⟨_,tu2,rfl,_,rfl⟩
   have new:ObjOk X.prog X.w (upd H s.heap.objs.size (.tup [.int i,x])) h2 s.heap.objs.size (.tup [.int i,x]):=⟨by rw[sizeLine_eq];simp,[.int i tk,u'],.cons ⟨_,rfl⟩ (.cons ru .nil),tup⟩
   have:=inv_turned2 (s:=s) (h':=h2) (t':=tk + 1) I hf kp2 (Nat.le_refl _) new
   exact this
  ·exact si.1.extBut sb.extBut (Ne.symm hne)
  ·have hlt:b < s.heap.objs.size:=by
    rcases List.mem_cons.mp hb with z | z
    ·subst z;exact hel
    ·have z:b=it:=by simpa using z
     subst z
     obtain⟨o,q,_⟩:=st2
     exact Heap.lt_size q
   rw[upd_ne (Nat.ne_of_lt hlt)]
   exact(hf b hb).1
 done:=by
  intro X hP hw hK hc i pins s σ H E I hf st hg
  subst hP hw hK
  obtain⟨xs,hq,hx⟩:=hg
  obtain⟨⟨old,st1⟩,st2⟩:=st
  obtain⟨its,rv,p,hz⟩:=I.tuple hq
  obtain⟨f0,f1,f2,f3,f4,f5⟩:=hf it (by simp)
  have hl:=rv.length
  exact enumT_end (I.ok.hd hc) st1 st2 p (by simp;omega) fun h' eb=>⟨rfl,I.turned (t':=s.toks) (fun b o hb e=>eb b o hb e) f0 f1 f3 f4 f5⟩
 self:=fun _ _ _ _ _ st h=>by
  obtain⟨⟨old,st1⟩,_⟩:=st
  exact wpAny_pyIter_enum st1 h
noncomputable def iEnmB(K:PySem.W.Frag)(ta:TA):TI:=fun σ H R=>ta σ H fun vs H1=>∃ a,vs=[.ref a]/\(((∃ xs,SqL K H1 a xs)/\R (Ite K a) H1)\/((∃ xs,SqT K H1 a xs)/\R (IteT K a) H1))
theorem pi_enumB{X:Cx}{es:List Expr}{x1:Nat}{tpos p pos:Pos}{a:Expr}{ta:TA}(hg:Gl X "enumerate")(hm:X.mg "enumerate"=none)(ha:PA X [a] ta)(hs:starEach [a] X.env=[(false,eval a X.env)]) :
  PI X (.Tuple es x1 tpos) (.Call (.Name "enumerate" p) [a] [] pos) (iEnmB X.K ta):=by
 intro pins s σ H R I h
 refine Call_ (ld_blt I hg hm boot_enumerate (PyProof.Rows.callWith_type1 (thn (ha pos pins s σ H _ I h) fun us s1 ⟨vs,H1,I1,r1,q1⟩ => ?_) hs rfl))
 obtain⟨l,rfl,hq⟩:=q1
 cases r1 with
 | cons r rr=>
  cases rr
  cases r
  have fp:∀ b∈[s1.heap.objs.size + 1,s1.heap.objs.size],s1.heap.objs.size<=b:=fun b hb=>by
   rcases List.mem_cons.mp hb with z | z
   ·rw[z];exact Nat.le_succ _
   ·have z:b=s1.heap.objs.size:=by simpa using z
    rw[z];exact Nat.le_refl _
  rcases hq with ⟨⟨xs,hq⟩,q⟩ | ⟨⟨xs,hq⟩,q⟩
  ·obtain⟨its,rv,pl,hz⟩:=I1.list hq
   refine call_enumerate_list pl.isList fun h' en li sz kp=>wpAny_pyIter_enum (s:={ s1 with heap:=h' }) en ?_
   have I2:L2.Inv X pins σ H1 { s1 with heap:=h' }:=I1.kept (t':=s1.toks) kp
   exact⟨s1.heap.objs.size + 1,[s1.heap.objs.size + 1,s1.heap.objs.size],_,_,H1,rfl,I2,turn_enum l _ _ (Nat.succ_ne_self _),⟨⟨_,en⟩,li⟩,fun b hb=>I1.fpOk (fp b hb) (I1.hok.fresh (fp b hb)),q⟩
  ·obtain⟨its,rv,pl,hz⟩:=I1.tuple hq
   refine call_enumT (items:=its.toArray) pl fun h' en li sz kp=>wpAny_pyIter_enum (s:={ s1 with heap:=h' }) en ?_
   have I2:L2.Inv X pins σ H1 { s1 with heap:=h' }:=I1.kept (t':=s1.toks) kp
   exact⟨s1.heap.objs.size + 1,[s1.heap.objs.size + 1,s1.heap.objs.size],_,_,H1,rfl,I2,turn_enumT l _ _ (Nat.succ_ne_self _),⟨⟨_,en⟩,li⟩,fun b hb=>I1.fpOk (fp b hb) (I1.hok.fresh (fp b hb)),q⟩
end Mir
namespace Mir
open PySem PySem.Spec PyProof.Rows L2
end Mir
namespace Mir
open PySem PySem.Spec PyProof.Rows L2
section
variable{X:Cx}{Γ:Fns}{bw:Bool}{a b:Expr}{rest:List Expr}{ca cb:Ex}{pos:Pos}
theorem pe_andG{ta tb:TE}(ha:PE X a ta)(hb:PE X (.BoolOp .And (b::rest) pos) tb):PE X (.BoolOp .And (a::b::rest) pos) (fun σ H Q=>ta σ H fun x H1=>∃ c,TruV X.K x H1 c/\if c=true then tb σ H1 Q else Q x H1):=by
 intro pins s σ H Q I h
 refine BoolOp_and (thn (ha pins s σ H _ I h) fun v s1 ⟨x,H1,I1,r1,c,t1,q1⟩ => ?_)
 refine thn (tru_ok pins s1 σ H1 x v (fun d H2=>d=c/\H2=H1) I1 r1 ⟨c,t1,rfl,rfl⟩) fun d s2 ⟨H2,I2,e1,e2⟩ => ?_
 subst e1 e2
 cases d with
 | true=>exact hb pins s2 σ H2 Q I2 q1
 | false=>exact⟨x,H2,I2,r1,q1⟩
theorem pe_orG{ta tb:TE}(ha:PE X a ta)(hb:PE X (.BoolOp .Or (b::rest) pos) tb):PE X (.BoolOp .Or (a::b::rest) pos) (fun σ H Q=>ta σ H fun x H1=>∃ c,TruV X.K x H1 c/\if c=true then Q x H1 else tb σ H1 Q):=by
 intro pins s σ H Q I h
 refine BoolOp_or (thn (ha pins s σ H _ I h) fun v s1 ⟨x,H1,I1,r1,c,t1,q1⟩ => ?_)
 refine thn (tru_ok pins s1 σ H1 x v (fun d H2=>d=c/\H2=H1) I1 r1 ⟨c,t1,rfl,rfl⟩) fun d s2 ⟨H2,I2,e1,e2⟩ => ?_
 subst e1 e2
 cases d with
 | false=>exact hb pins s2 σ H2 Q I2 q1
 | true=>exact⟨x,H2,I2,r1,q1⟩
theorem pe_notG{ta:TE}(ha:PE X a ta):PE X (.UnaryOp .Not a pos) (fun σ H Q=>ta σ H fun x H1=>∃ c,TruV X.K x H1 c/\Q (.bl (!c)) H1):=by
 intro pins s σ H Q I h
 refine UnaryOp_ (thn (ha pins s σ H _ I h) fun v s1 ⟨x,H1,I1,r1,c,t1,q1⟩ => ?_)
 refine not_of (thn (tru_ok pins s1 σ H1 x v (fun d H2=>d=c/\H2=H1) I1 r1 ⟨c,t1,rfl,rfl⟩) fun d s2 ⟨H2,I2,e1,e2⟩ => ?_)
 subst e1 e2
 exact⟨.bl (!d),H2,I2,rfl,q1⟩
theorem Res1.nw{own:Bool}{Z:Addr->Prop}{Hb H:Hp}{d:D}{v:V}(h:Res1 bw own Z Hb H d v):Now Z H d v:=by
 cases bw with
 | true=>exact h.now
 | false=>exact(h.weak (bw:=true)).now
end
noncomputable def visB(sc:Scope)(x:Str):Bool:=match sc.names.lookup x with
 | some .local | some .cell | some .free=>true
 | _=>false
noncomputable def locB(sc:Scope)(x:Str):Bool:=match sc.names.lookup x with
 | some .local | some .cell=>true
 | _=>false
noncomputable def glB(sc:Scope)(x:Str):Bool:=sc.names.lookup x == some .globalImplicit
noncomputable def okN(x:Str):Bool := !(x == ("__debug__":Str)) && !(x == ("__classdict__":Str)) && !(x == ("__name__":Str))
noncomputable def idxN(N:List Str)(x:Str):Option Nat:=N.findIdx? (· == x)
noncomputable def slotN(sc:Scope)(N:List Str)(x:Str):Option Nat:=if visB sc x && okN x then idxN N x else none
noncomputable def tyOfN(x:Str):Option Ty:=[Ty.int,.str,.bool,.list,.tuple,.dict].find? (fun t=>t.nm == x)
noncomputable def isStar:Expr->Bool
 | .Starred _ _=>true
 | _=>false
noncomputable def isSlice:Expr->Bool
 | .Slice _ _ _ _=>true
 | _=>false
noncomputable def isSet:Expr->Bool
 | .Set _ _ _=>true
 | _=>false
noncomputable def relS(scope sc:Scope):Scope:={ scope with names:=scope.names.map fun (n,k)=>if (k == .free && sc.kind == .function && sc.names.lookup n == some .cell) then (n,.cell) else (n,k) }
noncomputable def freeN(scope:Scope):List Str:=(scope.names.filter fun y=>y.2 == .free).map (·.1)
noncomputable def capN(sc:Scope)(N:List Str):List Str->Option (List Nat)
 | []=>some []
 | x::xs=>do let i ← slotN sc N x;let is ← capN sc N xs;some (i::is)
noncomputable def blkB(scope:Scope)(sc:Scope)(x:Str):Bool:=
 scope.kind == .function && scope.names.all (fun y => !(y.2 == .cell)) && scope.names.all (fun y => !(y.2 == .local) || scope.names.lookup y.1 == some .local) &&
 scope.names.all (fun y => !(y.2 == .free) || (sc.names.lookup y.1 == some .cell || sc.names.lookup y.1 == some .free) && scope.names.lookup y.1 == some .free) &&
 scope.names.lookup x == some .local && decide ((x::freeN scope).Nodup)
noncomputable def genOf:List Comprehension->Option (Str×Pos×Expr×List Expr)
 | [⟨.Name x p,iter,ifs,0⟩]=>some (x,p,iter,ifs)
 | _=>none
theorem genOf_inv{gs:List Comprehension}{x:Str}{p:Pos}{iter:Expr}{ifs:List Expr}(h:genOf gs=some (x,p,iter,ifs)):gs=[⟨.Name x p,iter,ifs,0⟩]:=by
 unfold genOf at h
 split at h
 ·cases h;rfl
 ·cases h
end Mir
namespace Mir
open PySem PySem.Spec PyProof.Rows L2
theorem idx_at{N:List Str}{x:Str}{i:Nat}(h:idxN N x=some i):N[i]?=some x:=by
 unfold idxN at h
 obtain⟨hi,he,_⟩:=List.findIdx?_eq_some_iff_getElem.mp h
 rw[List.getElem?_eq_getElem hi,eq_of_beq he]
theorem slot_ok{sc:Scope}{N:List Str}{x:Str}{i:Nat}(h:slotN sc N x=some i):N[i]?=some x/\Vis sc x/\(x == ("__debug__":Str))=false/\(x == ("__classdict__":Str))=false:=by
 unfold slotN at h
 split at h
 ·rename_i hc
  simp only[Bool.and_eq_true,okN,Bool.not_eq_true']at hc
  refine⟨idx_at h,?_,hc.2.1.1,hc.2.1.2⟩
  have hv:=hc.1
  unfold visB at hv
  unfold Vis
  split at hv
  ·rename_i q;exact .inl q
  ·rename_i q;exact .inr (.inl q)
  ·rename_i q;exact .inr (.inr q)
  ·cases hv
 ·cases h
theorem okN_inv{x:Str}(h:okN x=true):(x == ("__debug__":Str))=false/\(x == ("__classdict__":Str))=false/\x≠"__name__":=by
 simp only[okN,Bool.and_eq_true,Bool.not_eq_true']at h
 refine⟨h.1.1,h.1.2,fun e => ?_⟩
 rw[e]at h
 simp at h
noncomputable def bltNames:List Str:=["len","all","any","list","tuple","int","min","max","bool","isinstance","str","dict","range","sorted","enumerate","reversed","set"]
theorem star_one{e:Expr}{es:List Expr}{env:Env}(h:isStar e=false):starEach (e::es) env=(false,eval e env)::starEach es env:=by
 cases e<;>first | rfl | (simp[isStar]at h)
theorem plain_star{env:Env}{pos:Pos}:∀ {es:List Expr},(∀ e∈es,isStar e=false)->(backTo pos (starEach es env)).any (·.1)=false
 | [],_=>rfl
 | e::es,h=>by
  rw[star_one (h e (by simp))]
  show(false || (backTo pos (starEach es env)).any (·.1))=false
  rw[plain_star fun z hz=>h z (by simp[hz])]
  rfl
section
variable{X:Cx}{Γ:Fns}{T:Tab}{k:Nat}{sc:Scope}{N:List Str}
theorem ty_of{x:Str}{t:Ty}(h:tyOfN x=some t):x=t.nm/\t.nm∈bltNames:=by
 unfold tyOfN at h
 have h1:=List.find?_some h
 exact⟨(eq_of_beq h1).symm,by cases t<;>decide⟩
end
end Mir
namespace Mir
open PySem PySem.Spec PyProof.Rows L2
section
variable{X:Cx}{Γ:Fns}{T:Tab}{k:Nat}{sc:Scope}{N:List Str}
theorem cap_ok{sc:Scope}{N:List Str}:∀ {xs:List Str} {is:List Nat},capN sc N xs=some is->xs.length=is.length/\∀ (j i:Nat) (x:Str),xs[j]?=some x->is[j]?=some i->N[i]?=some x
 | [],is,h=>by cases h;exact⟨rfl,fun j i x e=>by simp at e⟩
 | x::xs,is,h=>by
  simp only[capN,Option.bind_eq_bind]at h
  obtain⟨i,h1,h⟩:=Option.bind_eq_some_iff.mp h
  obtain⟨is',h2,h⟩:=Option.bind_eq_some_iff.mp h
  cases h
  obtain⟨q1,q2⟩:=cap_ok h2
  refine⟨by rw[List.length_cons,List.length_cons,q1],fun j i' y e1 e2 => ?_⟩
  cases j with
  | zero=>simp at e1 e2;subst e1 e2;exact(slot_ok h1).1
  | succ j=>exact q2 j i' y (by simpa using e1) (by simpa using e2)
theorem set_free{iter:Expr}{env:Env}(h:isSet iter=false):∀ x,foldedSetIterable iter env x=pure x:=by
 intro x
 cases iter<;>first | rfl | (simp[isSet]at h)
theorem marks_ok{op:CmpOp}{b:Expr}(h:isSet b=false):behindInMarks op b=false:=by
 cases b<;>first | rfl | (simp[isSet]at h)
end
end Mir
namespace Mir
open PySem PySem.Spec PyProof.Rows L2
noncomputable def slotL(sc:Scope)(N:List Str)(x:Str):Option Nat:=if locB sc x && okN x then idxN N x else none
noncomputable def isComp:Expr->Bool
 | .ListComp .. | .SetComp .. | .DictComp ..=>true
 | _=>false
noncomputable def swapB(sc:Scope)(x:Str)(px:Pos)(e:Expr):Bool:=match e with
 | .ListComp _ _ s _=>sc.names.lookup x == some .local && px.line == e.pos.line && !(s.names.any fun (n,k)=>n == x && (k == .local || k == .cell))
 | _=>false
noncomputable def tupNames:List Expr->Option (List (Str×Pos))
 | []=>some []
 | .Name x p::r=>(tupNames r).map ((x,p) :: ·)
 | _=>none
noncomputable def slotsL(sc:Scope)(N:List Str):List (Str×Pos)->Option (List Nat)
 | []=>some []
 | x::xs=>do let i ← slotL sc N x.1;let is ← slotsL sc N xs;some (i::is)
noncomputable def plainV:Expr->Bool
 | .Call .. | .Name .. | .Subscript ..=>true
 | _=>false
section
variable{X:Cx}{Γ:Fns}{T:Tab}{k:Nat}{sc:Scope}{N:List Str}
theorem tupNames_ok:∀ {es:List Expr} {nms:List (Str×Pos)},tupNames es=some nms->es=nms.map fun x=>Expr.Name x.1 x.2
 | [],_,h=>by cases h;rfl
 | e::es,nms,h=>by
  unfold tupNames at h
  split at h
  ·rename_i e;cases e
  ·rename_i x p r q
   cases q
   obtain⟨ns,h1,h⟩:=Option.map_eq_some_iff.mp h
   subst h
   rw[tupNames_ok h1];rfl
  ·cases h
theorem names_tar(env:Env):∀ (nms:List (Str×Pos)),(assignEach (nms.map fun x=>Expr.Name x.1 x.2) env).length=nms.length/\(assignEach (nms.map fun x=>Expr.Name x.1 x.2) env).findIdx? (·.1)=none
 | []=>⟨rfl,rfl⟩
 | x::r=>by
  obtain⟨h1,h2⟩:=names_tar env r
  refine⟨?_,?_⟩
  ·show(assignEach (r.map fun x=>Expr.Name x.1 x.2) env).length + 1=_
   rw[h1];rfl
  ·show List.findIdx? (·.1) ((false,_)::assignEach (r.map fun x=>Expr.Name x.1 x.2) env)=none
   rw[List.findIdx?_cons,h2];rfl
end
end Mir
namespace Mir
open PySem PySem.Spec PyProof.Rows L2
noncomputable def fnScB(N ps:List Str)(sc:Scope):Bool:=
 sc.kind == .function && !sc.isCoroutine && !sc.isGenerator && decide N.Nodup && decide (N.take ps.length=ps) && ps.all (locB sc) && sc.names.all fun y => !(y.2 == .free)
theorem fnSc_ok{N ps:List Str}{sc:Scope}(h:fnScB N ps sc=true):FnScope N ps sc:=by
 simp only[fnScB,Bool.and_eq_true,Bool.not_eq_true',decide_eq_true_eq,List.all_eq_true,beq_iff_eq]at h
 obtain⟨⟨⟨⟨⟨⟨h1,h2⟩,h3⟩,h4⟩,h5⟩,h6⟩,h7⟩:=h
 refine⟨h1,h2,h3,h4,h5,fun x hx => ?_,fun y hy e => ?_⟩
 ·have hv:=h6 x hx
  unfold locB at hv
  split at hv
  ·rename_i q;exact .inl q
  ·rename_i q;exact .inr q
  ·cases hv
 ·have:=h7 y hy
  rw[e]at this;exact absurd this (by decide)
section
variable{P:Program}{w:World}{K:PySem.W.Frag}{mg:Str->Option Value}{base:Heap}{Γ:Fns}{T:Tab}{k:Nat}
end
noncomputable def isListC:Value->Bool
 | .type x=>x == "list"
 | _=>false
noncomputable def noListIn(K:PySem.W.Frag):Bool:=K.all fun p => !isListC p.2.cls
theorem mem_frag:∀ {K:PySem.W.Frag} {a:Addr} {o:Obj},K.lookup a=some o->(a,o)∈K
 | [],_,_,h=>by cases h
 | (b,p)::K,a,o,h=>by
  rw[List.lookup_cons]at h
  split at h
  ·rename_i e
   cases h
   rw[eq_of_beq e];simp
  ·exact List.mem_cons_of_mem _ (mem_frag h)
noncomputable def noneIn(K:PySem.W.Frag)(x:Str):Bool:=match PySem.W.nsIn K mainGlobals x with
 | some none=>true
 | _=>false
noncomputable def noneAll(K:PySem.W.Frag):Bool:=bltNames.all (noneIn K)
theorem none_all{K:PySem.W.Frag}{h:Heap}{mg:Str->Option Value}(X:K.In h)(G:h.Ns mainGlobals mg)(nb:noneAll K=true):∀ x∈bltNames,mg x=none:=fun x hx=>by
 have:=List.all_eq_true.mp nb x hx
 unfold noneIn at this
 split at this
 ·rename_i q;exact PySem.W.mg_none_of X G q
 ·cases this
end Mir
namespace Mir
open PySem
@[simp] theorem truD_non:truD .non=some false:=rfl
@[simp] theorem truD_bl{b:Bool}:truD (.bl b)=some b:=rfl
@[simp] theorem truD_int{i:Int}:truD (.int i)=some (i != 0):=rfl
@[simp] theorem truD_lst{xs:List D}:truD (.lst xs)=some (!xs.isEmpty):=rfl
@[simp] theorem truD_tup{xs:List D}:truD (.tup xs)=some (!xs.isEmpty):=rfl
section
variable{Γ:Fns}{ρ:MEnv}{a b:Stm}{e:Ex}{i j:Nat}{bw:Bool}
end
section
variable{bw:Bool}{i:Nat}{a b c es:Ex}
end
section
variable{Γ:Fns}{ρ:MEnv}{bw:Bool}{i:Nat}{a b c es:Ex}
noncomputable def lstR(o:Bool)(f:List D->D):D->Out Rs
 | .tup ds=>if small ds.length=true then .ok (o,f ds) else .bad
 | _=>.bad
@[simp] theorem lstR_tup{o:Bool}{f:List D->D}{ds:List D}:lstR o f (.tup ds)=if small ds.length=true then .ok (o,f ds) else .bad:=rfl
end
@[simp] theorem bin_add{i j:Int}:binD .Add (.int i) (.int j)=.ok (false,.int (i + j)):=rfl
@[simp] theorem bin_sub{i j:Int}:binD .Sub (.int i) (.int j)=.ok (false,.int (i - j)):=rfl
@[simp] theorem bin_mul{i j:Int}:binD .Mult (.int i) (.int j)=if (in64 i || in64 j)=true then .ok (false,.int (i * j)) else .bad:=rfl
@[simp] theorem bin_div{i j:Int}:binD .FloorDiv (.int i) (.int j)=if (decide (0 < j) && decide (j < 1073741824))=true then .ok (false,.int (i / j)) else .bad:=rfl
@[simp] theorem bin_mod{i j:Int}:binD .Mod (.int i) (.int j)=if decide (0 < j)=true then .ok (false,.int (i % j)) else .bad:=rfl
@[simp] theorem bin_pow{i j:Int}:binD .Pow (.int i) (.int j)=if (decide (0<=j) && decide (j<=1000) && decide (i.natAbs < 2 ^ 64))=true then .ok (false,.int (i ^ j.toNat)) else .bad:=rfl
@[simp] theorem bin_adds{i j:Str}:binD .Add (.str i) (.str j)=if small (i.length + j.length)=true then .ok (false,.str (i++j)) else .bad:=rfl
@[simp] theorem bin_addl{i j:List D}:binD .Add (.lst i) (.lst j)=if small (i.length + j.length)=true then .ok (true,.lst (i++j)) else .bad:=rfl
@[simp] theorem cmp_eq{x y:D}:cmpD .Eq x y=if (okEq 8 x && okEq 8 y)=true then .ok (eqD x y) else .bad:=rfl
@[simp] theorem cmp_ne{x y:D}:cmpD .NotEq x y=if (okEq 8 x && okEq 8 y)=true then .ok (!eqD x y) else .bad:=rfl
@[simp] theorem cmp_lt{i j:Int}:cmpD .Lt (.int i) (.int j)=.ok (decide (i < j)):=rfl
@[simp] theorem cmp_le{i j:Int}:cmpD .LtE (.int i) (.int j)=.ok (decide (i<=j)):=rfl
@[simp] theorem cmp_gt{i j:Int}:cmpD .Gt (.int i) (.int j)=.ok (decide (j < i)):=rfl
@[simp] theorem cmp_ge{i j:Int}:cmpD .GtE (.int i) (.int j)=.ok (decide (j<=i)):=rfl
@[simp] theorem cmp_in{x y:D}:cmpD .In x y=inD x y:=rfl
@[simp] theorem cmp_nin{x y:D}:cmpD .NotIn x y=inD x y >>= fun b=>.ok (!b):=rfl
@[simp] theorem cmp_is{x y:D}:cmpD .Is x y=isD x y:=rfl
@[simp] theorem cmp_isn{x y:D}:cmpD .IsNot x y=isD x y >>= fun b=>.ok (!b):=rfl
@[simp] theorem ok_non{n:Nat}:okEq n .non=true:=by cases n<;>rfl
@[simp] theorem ok_bl{n:Nat}{b:Bool}:okEq n (.bl b)=true:=by cases n<;>rfl
@[simp] theorem ok_int{n:Nat}{i:Int}:okEq n (.int i)=true:=by cases n<;>rfl
@[simp] theorem ok_str{n:Nat}{x:Str}:okEq n (.str x)=true:=by cases n<;>rfl
@[simp] theorem ok_lst{n:Nat}{xs:List D}:okEq (n + 1) (.lst xs)=xs.all (okEq n):=rfl
@[simp] theorem ok_tup{n:Nat}{xs:List D}:okEq (n + 1) (.tup xs)=xs.all (okEq n):=rfl
@[simp] theorem eq_int{i j:Int}:eqD (.int i) (.int j)=(i == j):=rfl
@[simp] theorem eq_bl{i j:Bool}:eqD (.bl i) (.bl j)=(i == j):=rfl
@[simp] theorem eq_str{i j:Str}:eqD (.str i) (.str j)=(i == j):=rfl
@[simp] theorem eq_lst{i j:List D}:eqD (.lst i) (.lst j)=eqDs i j:=rfl
@[simp] theorem eq_tup{i j:List D}:eqD (.tup i) (.tup j)=eqDs i j:=rfl
@[simp] theorem eqs_nil:eqDs [] []=true:=rfl
@[simp] theorem eqs_cons{x y:D}{xs ys:List D}:eqDs (x::xs) (y::ys)=(eqD x y && eqDs xs ys):=rfl
@[simp] theorem eqs_nc{y:D}{ys:List D}:eqDs [] (y::ys)=false:=rfl
@[simp] theorem eqs_cn{y:D}{ys:List D}:eqDs (y::ys) []=false:=rfl
theorem idx_str{z:Str}{i:Int}{c:Nat}(h:small z.length=true)(e:L2.atI z.cps.toList i=some c):idxD (.str z) (.int i)=.ok (false,.str (oneS c)):=by
 simp only[idxD,h,if_pos,e]
@[simp] theorem slc_lst{xs:List D}{l h:Option Int}:slcD (.lst xs) l h=.ok (true,.lst (cutL xs l h)):=rfl
@[simp] theorem slc_str{z:Str}{l h:Option Int}:slcD (.str z) l h=if small z.length=true then .ok (false,.str ⟨(cutL z.cps.toList l h).toArray⟩) else .bad:=rfl
@[simp] theorem len_lst{xs:List D}:bltD .len (.tup [.lst xs])=.ok (false,.int xs.length):=rfl
@[simp] theorem len_tup{xs:List D}:bltD .len (.tup [.tup xs])=.ok (false,.int xs.length):=rfl
@[simp] theorem len_str{z:Str}:bltD .len (.tup [.str z])=if small z.length=true then .ok (false,.int z.length) else .bad:=rfl
noncomputable def blsR(f:List Bool->Bool):Option (List Bool)->Out Rs
 | some bs=>.ok (false,.bl (f bs))
 | none=>.bad
@[simp] theorem blsR_some{f:List Bool->Bool}{bs:List Bool}:blsR f (some bs)=.ok (false,.bl (f bs)):=rfl
@[simp] theorem all_lst{xs:List D}:bltD .all (.tup [.lst xs])=blsR (fun bs=>bs.all id) (blsD xs):=rfl
@[simp] theorem any_lst{xs:List D}:bltD .any (.tup [.lst xs])=blsR (fun bs=>bs.any id) (blsD xs):=rfl
@[simp] theorem list_lst{xs:List D}:bltD .list (.tup [.lst xs])=.ok (true,.lst xs):=rfl
@[simp] theorem list_tup{xs:List D}:bltD .list (.tup [.tup xs])=.ok (true,.lst xs):=rfl
@[simp] theorem tuple_lst{xs:List D}:bltD .tuple (.tup [.lst xs])=.ok (false,.tup xs):=rfl
@[simp] theorem tuple_tup{xs:List D}:bltD .tuple (.tup [.tup xs])=.ok (false,.tup xs):=rfl
@[simp] theorem int_int{i:Int}:bltD .int (.tup [.int i])=.ok (false,.int i):=rfl
@[simp] theorem int_bl{k:Bool}:bltD .int (.tup [.bl k])=.ok (false,.int (if k then 1 else 0)):=rfl
@[simp] theorem min_int{i j:Int}:bltD .min (.tup [.int i,.int j])=.ok (false,.int (if j < i then j else i)):=rfl
@[simp] theorem max_int{i j:Int}:bltD .max (.tup [.int i,.int j])=.ok (false,.int (if j > i then j else i)):=rfl
@[simp] theorem ty_non{t:Ty}:tyD .non t=some false:=rfl
@[simp] theorem ty_bl{t:Ty}{b:Bool}:tyD (.bl b) t=some (t == .bool || t == .int):=rfl
@[simp] theorem ty_int{t:Ty}{i:Int}:tyD (.int i) t=some (t == .int):=rfl
@[simp] theorem ty_str{t:Ty}{x:Str}:tyD (.str x) t=some (t == .str):=rfl
@[simp] theorem ty_lst{t:Ty}{xs:List D}:tyD (.lst xs) t=some (t == .list):=rfl
@[simp] theorem ty_tup{t:Ty}{xs:List D}:tyD (.tup xs) t=some (t == .tuple):=rfl
@[simp] theorem ty_dct{t:Ty}{ks:List L2.Key}{xs:List D}:tyD (.dct ks xs) t=some (t == .dict):=rfl
theorem small_of{n:Nat}(h:n<=100000):small n=true:=by
 unfold small
 rw[decide_eq_true_eq,sizeLine_eq]
 omega
theorem in64_of{i:Int}(h1 : -(2 ^ 64) < i)(h2:i < 2 ^ 64):in64 i=true:=decide_eq_true (by omega)
theorem in62_of{i:Int}(h1 : -(2 ^ 62) < i)(h2:i < 2 ^ 62):in62 i=true:=decide_eq_true (by omega)
theorem atI_in{α:Type}{xs:List α}{i:Int}(h0:0<=i)(h1:i < xs.length):∃ x,x∈xs/\L2.atI xs i=some x:=by
 have hl:i.toNat < xs.length:=by omega
 refine⟨xs[i.toNat],List.getElem_mem hl,?_⟩
 have h:=L2.atI_nat (List.getElem?_eq_getElem hl)
 rw[show(i.toNat:Int)=i by omega]at h
 exact h
end Mir
namespace Mir
open PySem
theorem bls_map{α:Type}{p:α->Bool}:∀ {xs:List α},blsD (xs.map fun x=>.bl (p x))=some (xs.map p)
 | []=>rfl
 | x::xs=>by simp only[List.map_cons,blsD,truD_bl,bls_map]
@[simp] theorem in_str{x y:Str}:inD (.str x) (.str y)=.ok (inStr x y):=rfl
theorem rng_len(n:Nat):∀ lo:Int,(intsFrom lo n).length=n:=by
 induction n with
 | zero=>intro lo;rfl
 | succ n ih=>intro lo;simp[intsFrom,ih]
theorem rng_get{n:Nat}:∀ {lo:Int} {i:Nat} {d:D},(intsFrom lo n)[i]?=some d->d=.int (lo + i)/\i < n:=by
 induction n with
 | zero=>intro lo i d h;simp[intsFrom]at h
 | succ n ih=>
  intro lo i d h
  cases i with
  | zero=>simp[intsFrom]at h;subst h;exact⟨by simp,by omega⟩
  | succ i=>
   simp[intsFrom]at h
   obtain⟨h1,h2⟩:=ih h
   exact⟨by rw[h1];congr 1;omega,by omega⟩
end Mir
namespace Mir
open PySem
noncomputable def L1(xs:List Str):D:=.lst (xs.map .str)
theorem cut_lo{α:Type}(xs:List α)(k:Nat):cutL xs (some (k:Int)) none=xs.drop k:=by
 unfold cutL
 rw[HT.sIx_none,HT.sIx_nat]
 rcases Nat.le_total k xs.length with h | h
 ·rw[Nat.min_eq_left h]
  exact List.take_of_length_le (by simp)
 ·rw[Nat.min_eq_right h,List.drop_eq_nil_of_le (Nat.le_refl _),List.drop_eq_nil_of_le h];simp
theorem cut_hi{α:Type}(xs:List α)(k:Nat):cutL xs none (some (k:Int))=xs.take k:=by
 unfold cutL
 rw[HT.sIx_none,HT.sIx_nat,List.drop_zero,Nat.sub_zero]
 rcases Nat.le_total k xs.length with h | h
 ·rw[Nat.min_eq_left h]
 ·rw[Nat.min_eq_right h,List.take_of_length_le (Nat.le_refl _),List.take_of_length_le h]
@[simp] theorem cut_1{α:Type}(xs:List α):cutL xs (some 1) none=xs.tail:=by rw[show(1:Int)=((1:Nat):Int) from rfl,cut_lo];simp
theorem strs_ok(n:Nat)(xs:List Str):(xs.map D.str).all (okEq n)=true:=by
 rw[List.all_eq_true]
 intro d hd
 obtain⟨x,_,rfl⟩:=List.mem_map.mp hd
 simp
theorem any_str(xs:List Str)(n:Str):((xs.map D.str).any fun y=>eqD y (.str n))=decide (n∈xs):=by
 induction xs with
 | nil=>rfl
 | cons x xs ih=>
  simp only[List.map_cons,List.any_cons,ih,eq_str,List.mem_cons]
  by_cases h:n=x
  ·subst h;simp
  ·have:(x == n)=false:=by simp;exact fun e=>h e.symm
   simp[this,h]
theorem in_strs(xs:List Str)(n:Str):inD (.str n) (.lst (xs.map .str))=.ok (decide (n∈xs)):=by
 have:inD (.str n) (.lst (xs.map .str))=if okEq 8 (.str n) && (xs.map D.str).all (okEq 8) then .ok ((xs.map D.str).any fun y=>eqD y (.str n)) else .bad:=rfl
 rw[this,strs_ok,any_str]
 simp
theorem eqs_str(xs ys:List Str):eqDs (xs.map .str) (ys.map .str)=decide (xs=ys):=by
 induction xs generalizing ys with
 | nil=>cases ys<;>simp
 | cons x xs ih=>
  cases ys with
  | nil=>simp
  | cons y ys=>
   simp only[List.map_cons,eqs_cons,eq_str,ih,List.cons.injEq]
   by_cases h:x=y
   ·subst h;simp
   ·simp[h]
theorem ok_L1(n:Nat)(xs:List Str):okEq (n + 1) (L1 xs)=true:=strs_ok n xs
noncomputable def freeOf(rs:List (List Str)):List Str->Option Str
 | []=>none
 | n::_=>if ∃ t∈rs,n∈t.tail then none else some n
noncomputable def free(rs:List (List Str)):Option Str:=rs.findSome? (freeOf rs)
@[simp] theorem is_non{x:Str}:isD (.str x) .non=.ok false:=rfl
@[simp] theorem is_non':isD .non .non=.ok true:=rfl
@[simp] theorem is_int{x:Int}:isD (.int x) .non=.ok false:=rfl
@[simp] theorem is_lst{x:List D}:isD (.lst x) .non=.ok false:=rfl
end Mir
namespace Mir
open PySem
noncomputable abbrev Fn:=List D->Out Rs
noncomputable def SC(ns:List Int):D:=.lst (ns.map .int)
theorem ints_map(lo:Int)(n:Nat):intsFrom lo n=(List.range n).map fun (i:Nat)=>D.int (lo + i):=by
 apply List.ext_getElem?
 intro i
 by_cases h:i < n
 ·have hl:i < (intsFrom lo n).length:=by rw[rng_len];exact h
  have e:=(rng_get (List.getElem?_eq_getElem hl)).1
  rw[List.getElem?_eq_getElem hl,e]
  simp[h]
 ·rw[List.getElem?_eq_none (by rw[rng_len];omega),List.getElem?_eq_none (by simp;omega)]
end Mir
namespace Mir
open PySem
noncomputable def abc:Str:="abcdefghijklmnopqrstuvwxyz"
theorem abc_at:∀ q:Nat,q < 26->abc.cps.toList[q]?=some (97 + q):=by decide
theorem abc_idx{q:Int}(h0:0<=q)(h1:q < 26):idxD (.str abc) (.int q)=.ok (false,.str (oneS (97 + q.toNat))):=by
 refine idx_str (small_of (by decide)) ?_
 have:=L2.atI_nat (abc_at q.toNat (by omega))
 rwa[show((q.toNat:Nat):Int)=q by omega]at this
noncomputable def bs(μ:Int->Int->Int->Int)(c:Int):List D:=(List.range 8).map fun (i:Nat)=>.int (μ c i 26)
section
variable{Γ:Fns}{M:Fn}{μ:Int->Int->Int->Int}{c:Int}{m:Nat}
end
end Mir
namespace Mir
open PySem
end Mir
namespace Mir
open PySem
section
variable{Γ:Fns}
noncomputable def behind(rs:List (List Str)):List Str:=rs.flatMap List.tail
end
end Mir
namespace Mir
open PySem
@[simp] theorem list_L1{xs:List Str}:bltD .list (.tup [L1 xs])=.ok (true,L1 xs):=rfl
@[simp] theorem in_L1{xs:List Str}{n:Str}:inD (.str n) (L1 xs)=.ok (decide (n∈xs)):=in_strs xs n
@[simp] theorem ty_L1{xs:List Str}{t:Ty}:tyD (L1 xs) t=some (t == .list):=rfl
@[simp] theorem is_bl{a b:Bool}:isD (.bl a) (.bl b)=.ok (a == b):=rfl
end Mir
namespace Mir
open PySem L2
structure CloD where
 name:Str
 qual:Str
 params:Arguments
 body:List Stmt
 scope:Scope
 ps:List Str
 cn:List Str
class CloTab where
 tab:Nat->CloD
 ta:Nat->Addr
inductive Cell where
 | lst (ds:List D)
 | dK (kvs:List (Key×D))
 | dT (kvs:List (List Key×D))
 | ins (C:Str) (fs:List (Str×D))
 | fn (j:Nat) (caps:List D)
 | tb (j:Nat) (p:Pos) (b:Bool)
noncomputable abbrev Sto:=List Cell
inductive OutO (α:Type) where
 | ok (a:α) (Ω:Sto)
 | exc (x:D) (Ω:Sto)
 | bad
noncomputable def OutO.bind{α β:Type}:OutO α->(α->Sto->OutO β)->OutO β
 | .ok a Ω,f=>f a Ω
 | .exc x Ω,_=>.exc x Ω
 | .bad,_=>.bad
noncomputable abbrev OEnv:=List (Option D)
inductive All2 {α β:Type} (R:α->β->Prop):List α->List β->Prop where
 | nil:All2 R [] []
 | cons {a b as bs}:R a b->All2 R as bs->All2 R (a::as) (b::bs)
namespace All2
variable{α β:Type}{R S:α->β->Prop}
theorem length:∀ {as:List α} {bs:List β},All2 R as bs->bs.length=as.length
 | _,_,.nil=>rfl
 | _,_,.cons _ t=>by rw[List.length_cons,List.length_cons,length t]
theorem imp(h:∀ a b,R a b->S a b):∀ {as:List α} {bs:List β},All2 R as bs->All2 S as bs
 | _,_,.nil=>.nil
 | _,_,.cons r t=>.cons (h _ _ r) (imp h t)
theorem get:∀ {as:List α} {bs:List β} {i:Nat} {a:α},All2 R as bs->as[i]?=some a->∃ b,bs[i]?=some b/\R a b
 | _,_,_,_,.nil,e=>by simp at e
 | _,_,0,_,.cons r _,e=>by simp at e;subst e;exact⟨_,rfl,r⟩
 | _,_,i + 1,a,.cons _ t,e=>by
  obtain⟨u,h1,h2⟩:=get (i:=i) (a:=a) t (by simpa using e)
  exact⟨u,by simpa using h1,h2⟩
theorem getR:∀ {as:List α} {bs:List β} {i:Nat} {b:β},All2 R as bs->bs[i]?=some b->∃ a,as[i]?=some a/\R a b
 | _,_,_,_,.nil,e=>by simp at e
 | _,_,0,_,.cons r _,e=>by simp at e;subst e;exact⟨_,rfl,r⟩
 | _,_,i + 1,a,.cons _ t,e=>by
  obtain⟨u,h1,h2⟩:=getR (i:=i) (b:=a) t (by simpa using e)
  exact⟨u,by simpa using h1,h2⟩
theorem append:∀ {as cs:List α} {bs ds:List β},All2 R as bs->All2 R cs ds->All2 R (as++cs) (bs++ds)
 | _,_,_,_,.nil,h=>h
 | _,_,_,_,.cons r t,h=>.cons r (append t h)
theorem one{a:α}{b:β}(h:R a b):All2 R [a] [b]:=.cons h .nil
theorem take:∀ {as:List α} {bs:List β} (n:Nat),All2 R as bs->All2 R (as.take n) (bs.take n)
 | _,_,0,_=>by simp;exact .nil
 | _,_,n + 1,.nil=>by simp;exact .nil
 | _,_,n + 1,.cons r t=>.cons r (take n t)
theorem drop:∀ {as:List α} {bs:List β} (n:Nat),All2 R as bs->All2 R (as.drop n) (bs.drop n)
 | _,_,0,h=>h
 | _,_,n + 1,.nil=>by simp;exact .nil
 | _,_,n + 1,.cons r t=>drop n t
theorem reverse:∀ {as:List α} {bs:List β},All2 R as bs->All2 R as.reverse bs.reverse
 | _,_,.nil=>.nil
 | _,_,.cons r t=>by rw[List.reverse_cons,List.reverse_cons];exact(reverse t).append (one r)
theorem eraseIdx:∀ {as:List α} {bs:List β} (n:Nat),All2 R as bs->All2 R (as.eraseIdx n) (bs.eraseIdx n)
 | _,_,n,.nil=>by simp;exact .nil
 | _,_,0,.cons _ t=>t
 | _,_,n + 1,.cons r t=>.cons r (eraseIdx n t)
theorem set{a:α}{b:β}(r:R a b):∀ {as:List α} {bs:List β} (n:Nat),All2 R as bs->All2 R (as.set n a) (bs.set n b)
 | _,_,_,.nil=>.nil
 | _,_,0,.cons _ t=>.cons r t
 | _,_,n + 1,.cons q t=>.cons q (set r n t)
theorem nil_inv{bs:List β}(h:All2 R [] bs):bs=[]:=by cases h;rfl
theorem cons_inv{a:α}{as:List α}{bs:List β}(h:All2 R (a::as) bs):∃ b r,bs=b::r/\R a b/\All2 R as r:=by
 cases h with
 | cons r t=>exact⟨_,_,rfl,r,t⟩
end All2
mutual
noncomputable def RepO(α:List Addr)(Z:Addr->Prop)(H:Hp):D->V->Prop
 | .non,v=>v=.non
 | .bl b,v=>v=.bl b
 | .int i,v=>v=.int i
 | .str x,v=>v=.str x
 | .lst ds,v=>∃ a vs,v=.ref a/\Z a/\Rd H a (.lst vs)/\RepOs α Z H ds vs
 | .tup ds,v=>∃ a vs,v=.ref a/\Z a/\H a=some (.tup vs)/\RepOs α Z H ds vs
 | .dct _ _,_=>False
 | .ref n,v=>∃ a,α[n]?=some a/\v=.ref a
noncomputable def RepOs(α:List Addr)(Z:Addr->Prop)(H:Hp):List D->List V->Prop
 | [],vs=>vs=[]
 | d::ds,vs=>∃ v r,vs=v::r/\RepO α Z H d v/\RepOs α Z H ds r
end
theorem repOs_iff{α:List Addr}{Z:Addr->Prop}{H:Hp}:∀ {ds:List D} {vs:List V},RepOs α Z H ds vs↔All2 (RepO α Z H) ds vs
 | [],vs=>by
  simp only[RepOs]
  exact⟨fun h=>by subst h;exact .nil,fun h=>h.nil_inv⟩
 | d::ds,vs=>by
  simp only[RepOs]
  constructor
  ·rintro⟨v,r,rfl,h1,h2⟩
   exact .cons h1 (repOs_iff.mp h2)
  ·intro h
   obtain⟨v,r,rfl,h1,h2⟩:=h.cons_inv
   exact⟨v,r,rfl,h1,repOs_iff.mpr h2⟩
section
variable{α α':List Addr}{Z Z':Addr->Prop}{H H':Hp}
mutual
theorem RepO.mono(p:∀ (n:Nat) (a:Addr),α[n]?=some a->α'[n]?=some a)(k:∀ a o,Z a->H a=some o->H' a=some o)(z:∀ a,Z a->Z' a):∀ {d:D} {v:V},RepO α Z H d v->RepO α' Z' H' d v
 | .non,_,h=>by simpa only [RepO] using h
 | .bl _,_,h=>by simpa only [RepO] using h
 | .int _,_,h=>by simpa only [RepO] using h
 | .str _,_,h=>by simpa only [RepO] using h
 | .lst ds,v,h=>by
  simp only[RepO]at h ⊢
  obtain⟨a,vs,e,hz,hr,hs⟩:=h
  exact⟨a,vs,e,z a hz,rd_keep (fun o=>k a o hz) hr,RepOs.mono p k z hs⟩
 | .tup ds,v,h=>by
  simp only[RepO]at h ⊢
  obtain⟨a,vs,e,hz,hr,hs⟩:=h
  exact⟨a,vs,e,z a hz,k a _ hz hr,RepOs.mono p k z hs⟩
 | .dct ks ds,v,h=>by simp only[RepO]at h
 | .ref n,v,h=>by
  simp only[RepO]at h ⊢
  obtain⟨a,e,h⟩:=h
  exact⟨a,p n a e,h⟩
theorem RepOs.mono(p:∀ (n:Nat) (a:Addr),α[n]?=some a->α'[n]?=some a)(k:∀ a o,Z a->H a=some o->H' a=some o)(z:∀ a,Z a->Z' a):∀ {ds:List D} {vs:List V},RepOs α Z H ds vs->RepOs α' Z' H' ds vs
 | [],_,h=>by simpa only [RepOs] using h
 | d::ds,vs,h=>by
  simp only[RepOs]at h ⊢
  obtain⟨v,r,e,h1,h2⟩:=h
  exact⟨v,r,e,RepO.mono p k z h1,RepOs.mono p k z h2⟩
end
end
noncomputable def KVO{K:Type}(R:D->V->Prop)(kvs:List (K×D))(kvs':List (K×V)):Prop:=All2 (fun p q=>p.1=q.1/\R p.2 q.2) kvs kvs'
variable [CloTab]
noncomputable def TbR(H:Hp)(a:Addr)(j:Nat)(p:Pos):Bool->Prop
 | false=>H a=some (.tbl #[])
 | true=>∃ c' oc u vs t,H a=some (.tbl #[rawInt p.line,rawInt p.col,.ref c'])/\H c'=some (.frz oc u)/\oc.data=.fields vs/\vs[1]?=some (.str (CloTab.tab j).qual t)
theorem TbR.imp{H H':Hp}{a:Addr}{j:Nat}{p:Pos}{b:Bool}(e:∀ o,H a=some o->H' a=some o)(z:∀ b o u,H b=some (.frz o u)->H' b=some (.frz o u))(k:TbR H a j p b):TbR H' a j p b:=by
 cases b with
 | false=>exact e _ k
 | true=>obtain⟨c',oc,u,vs,t,h1,h2,h3⟩:=k;exact⟨c',oc,u,vs,t,e _ h1,z _ _ _ h2,h3⟩
theorem TbR.is{H:Hp}{a:Addr}{j:Nat}{p:Pos}{b:Bool}(k:TbR H a j p b):∃ ps,H a=some (.tbl ps):=by
 cases b with
 | false=>exact⟨_,k⟩
 | true=>obtain⟨c',oc,u,vs,t,h1,h2,h3⟩:=k;exact⟨_,h1⟩
noncomputable def CelR(κ:Str->Addr->Prop)(R:D->V->Prop)(H:Hp)(a:Addr):Cell->Prop
 | .lst ds=>∃ vs,H a=some (.lst vs)/\All2 R ds vs
 | .dK kvs=>∃ kvs',H a=some (.dK kvs')/\KVO R kvs kvs'
 | .dT kvs=>∃ kvs',H a=some (.dT kvs')/\KVO R kvs kvs'
 | .ins C fs=>∃ Ca dx fs',κ C Ca/\H a=some (.ins Ca dx fs')/\KVO R fs fs'
 | .fn j caps=>∃ c' cl cv,CloAt H a c' (CloTab.tab j).name (CloTab.tab j).qual (CloTab.tab j).params (CloTab.tab j).body (CloTab.tab j).scope cl/\CapOk H cl (CloTab.tab j).cn cv/\All2 R caps cv
 | .tb j p b=>a=CloTab.ta j/\TbR H a j p b
theorem KVO.imp{K:Type}{R S:D->V->Prop}(h:∀ d v,R d v->S d v){kvs:List (K×D)}{kvs':List (K×V)}(k:KVO R kvs kvs'):KVO S kvs kvs':=All2.imp (fun a b q=>⟨q.1,h _ _ q.2⟩) k
theorem CelR.imp{κ:Str->Addr->Prop}{R S:D->V->Prop}{H H':Hp}{a:Addr}{c:Cell}(h:∀ d v,R d v->S d v)(e:∀ o,H a=some o->H' a=some o)(z:∀ b o u,H b=some (.frz o u)->H' b=some (.frz o u))(k:CelR κ R H a c):CelR κ S H' a c:=by
 cases c with
 | lst ds=>obtain⟨vs,h1,h2⟩:=k;exact⟨vs,e _ h1,h2.imp h⟩
 | dK kvs=>obtain⟨vs,h1,h2⟩:=k;exact⟨vs,e _ h1,h2.imp h⟩
 | dT kvs=>obtain⟨vs,h1,h2⟩:=k;exact⟨vs,e _ h1,h2.imp h⟩
 | ins C fs=>obtain⟨Ca,dx,vs,h0,h1,h2⟩:=k;exact⟨Ca,dx,vs,h0,e _ h1,h2.imp h⟩
 | fn j caps=>
  obtain⟨c',cl,cv,⟨⟨doc,pm,ctv,u,h1⟩,oc,u',vs,t,h2,h3,h4⟩,O,h5⟩:=k
  refine⟨c',cl,cv,⟨⟨doc,pm,ctv,u,z _ _ _ h1⟩,oc,u',vs,t,z _ _ _ h2,h3,h4⟩,⟨O.len,fun j x v e1 e2 => ?_,O.only,O.inj⟩,h5.imp h⟩
  obtain⟨c,o,u2,val,q1,q2,q3,q4⟩:=O.get j x v e1 e2
  exact⟨c,o,u2,val,q1,z _ _ _ q2,q3,q4⟩
 | tb j p b=>exact⟨k.1,k.2.imp e z⟩
theorem CelR.some{κ:Str->Addr->Prop}{R:D->V->Prop}{H:Hp}{a:Addr}{c:Cell}(k:CelR κ R H a c):H a≠none:=by
 cases c with
 | lst ds=>obtain⟨vs,h1,h2⟩:=k;rw[h1];simp
 | dK kvs=>obtain⟨vs,h1,h2⟩:=k;rw[h1];simp
 | dT kvs=>obtain⟨vs,h1,h2⟩:=k;rw[h1];simp
 | ins C fs=>obtain⟨Ca,dx,vs,h0,h1,h2⟩:=k;rw[h1];simp
 | fn j caps=>obtain⟨c',cl,cv,⟨⟨doc,pm,ctv,u,h1⟩,_⟩,_⟩:=k;rw[h1];simp
 | tb j p b=>obtain⟨ps,h1⟩:=k.2.is;rw[h1];simp
structure StO(κ:Str->Addr->Prop)(α:List Addr)(Z:Addr->Prop)(Ω:Sto)(H:Hp):Prop where
 nod:α.Nodup
 cel:All2 (fun c a=>CelR κ (RepO α Z H) H a c) Ω α
 sep:∀ a∈α,¬ Z a
 dom:∀ a,Z a->H a≠none
structure GrO(α:List Addr)(Z:Addr->Prop)(H:Hp)(α':List Addr)(Z':Addr->Prop)(H':Hp):Prop where
 pre:∀ (n:Nat) (a:Addr),α[n]?=some a->α'[n]?=some a
 sub:∀ a,Z a->Z' a
 new:∀ a,Z' a->Z a\/H a=none
 fre:∀ a∈α',a∈α\/H a=none
 frm:∀ a o,H a=some o->a∉α->H' a=some o
 has:∀ a∈α,H' a≠none
section
variable{κ:Str->Addr->Prop}{α α' α'':List Addr}{Z Z' Z'':Addr->Prop}{Ω Ω':Sto}{H H' H'':Hp}
theorem GrO.refl(h:∀ a∈α,H a≠none):GrO α Z H α Z H:=⟨fun _ _ e=>e,fun _ h=>h,fun _ h=>.inl h,fun _ h=>.inl h,fun _ _ e _=>e,h⟩
theorem StO.has(S:StO κ α Z Ω H):∀ a∈α,H a≠none:=fun a ha=>by
 obtain⟨n,hn⟩:=List.mem_iff_getElem?.mp ha
 obtain⟨c,_,h⟩:=S.cel.getR hn
 exact h.some
theorem GrO.none(g:GrO α Z H α' Z' H'){a:Addr}(h:H' a=none):H a=none:=by
 cases q:H a with
 | none=>rfl
 | some o=>
  by_cases ha:a∈α
  ·exact absurd h (g.has a ha)
  ·rw[g.frm a o q ha]at h;cases h
theorem GrO.trans(g:GrO α Z H α' Z' H')(g':GrO α' Z' H' α'' Z'' H''):GrO α Z H α'' Z'' H'' where
 pre:=fun n a e=>g'.pre n a (g.pre n a e)
 sub:=fun a h=>g'.sub a (g.sub a h)
 new:=fun a h=>by
  rcases g'.new a h with h | h
  ·exact g.new a h
  ·exact .inr (g.none h)
 fre:=fun a h=>by
  rcases g'.fre a h with h | h
  ·exact g.fre a h
  ·exact .inr (g.none h)
 frm:=fun a o e ha=>g'.frm a o (g.frm a o e ha) fun h=>by
  rcases g.fre a h with h | h
  ·exact ha h
  ·rw[e]at h;cases h
 has:=fun a ha=>by
  obtain⟨n,hn⟩:=List.mem_iff_getElem?.mp ha
  exact g'.has a (List.mem_of_getElem? (g.pre n a hn))
theorem StO.repG(S:StO κ α Z Ω H)(g:GrO α Z H α' Z' H'){d:D}{v:V}(h:RepO α Z H d v):RepO α' Z' H' d v:=
 h.mono g.pre (fun a o z e=>g.frm a o e fun ha=>S.sep a ha z) g.sub
theorem StO.repsG(S:StO κ α Z Ω H)(g:GrO α Z H α' Z' H'){ds:List D}{vs:List V}(h:All2 (RepO α Z H) ds vs):All2 (RepO α' Z' H') ds vs:=h.imp fun _ _ q=>S.repG g q
theorem StO.cell(S:StO κ α Z Ω H){n:Nat}{c:Cell}(e:Ω[n]?=some c):∃ a,α[n]?=some a/\CelR κ (RepO α Z H) H a c:=S.cel.get e
theorem StO.len(S:StO κ α Z Ω H):α.length=Ω.length:=S.cel.length
theorem StO.laidZ(S:StO κ α Z Ω H){p:Addr}{o:HO}(h:H p=none)(z:Prop)[Decidable z]:StO κ α (if z then Zp Z p else Z) Ω (upd H p o)/\GrO α Z H α (if z then Zp Z p else Z) (upd H p o):=by
 have hne:∀ a∈α,a≠p:=fun a ha e=>S.has a ha (e▸h)
 have hzn:∀ a,Z a->a≠p:=fun a hz e=>S.dom a hz (e▸h)
 have sub:∀ a,Z a->(if z then Zp Z p else Z) a:=fun a ha=>by
  split
  ·exact .inl ha
  ·exact ha
 have g:GrO α Z H α (if z then Zp Z p else Z) (upd H p o):=⟨fun _ _ e=>e,sub,fun a ha=>by
   split at ha
   ·rcases ha with ha | rfl
    ·exact .inl ha
    ·exact .inr h
   ·exact .inl ha,fun _ ha=>.inl ha,fun a u e _=>by rw[upd_ne (ne_of_none e h)];exact e,fun a ha=>by rw[upd_ne (hne a ha)];exact S.has a ha⟩
 refine⟨⟨S.nod,?_,fun a ha hz => ?_,fun a ha => ?_⟩,g⟩
 ·refine S.cel.imp fun c a hc => ?_
  refine hc.imp (fun d v r=>S.repG g r) (fun u e => ?_) fun b o' u' e => ?_
  ·rw[upd_ne (ne_of_none e h)];exact e
  ·rw[upd_ne (ne_of_none e h)];exact e
 ·split at hz
  ·rcases hz with hz | rfl
   ·exact S.sep a ha hz
   ·exact hne _ ha rfl
  ·exact S.sep a ha hz
 ·split at ha
  ·rcases ha with ha | rfl
   ·rw[upd_ne (hzn a ha)];exact S.dom a ha
   ·rw[upd_same];simp
  ·rw[upd_ne (hzn a ha)];exact S.dom a ha
theorem StO.laid(S:StO κ α Z Ω H){p:Addr}{o:HO}{c:Cell}(h:H p=none)(hc:∀ R:D->V->Prop,(∀ d v,RepO α Z H d v->R d v)->CelR κ R (upd H p o) p c):StO κ (α++[p]) Z (Ω++[c]) (upd H p o)/\GrO α Z H (α++[p]) Z (upd H p o):=by
 have hne:∀ a∈α,a≠p:=fun a ha e=>S.has a ha (e▸h)
 have hzn:∀ a,Z a->a≠p:=fun a hz e=>S.dom a hz (e▸h)
 have g:GrO α Z H (α++[p]) Z (upd H p o):=⟨fun n a e=>by rw[List.getElem?_append_left (List.getElem?_eq_some_iff.mp e).1];exact e,fun _ h=>h,fun _ h=>.inl h,fun a ha=>by
   rcases List.mem_append.mp ha with ha | ha
   ·exact .inl ha
   ·rw[List.mem_singleton.mp ha];exact .inr h,fun a u e _=>by rw[upd_ne (ne_of_none e h)];exact e,fun a ha=>by rw[upd_ne (hne a ha)];exact S.has a ha⟩
 refine⟨⟨?_,?_,fun a ha hz => ?_,fun a ha=>by rw[upd_ne (hzn a ha)];exact S.dom a ha⟩,g⟩
 ·refine List.nodup_append.mpr ⟨S.nod,by simp,fun a ha b hb => ?_⟩
  rw[List.mem_singleton.mp hb];exact hne a ha
 ·refine All2.append (S.cel.imp fun c a hc => ?_) (.one (hc _ fun d v r=>S.repG g r))
  refine hc.imp (fun d v r=>S.repG g r) (fun u e => ?_) fun b o' u' e => ?_
  ·rw[upd_ne (ne_of_none e h)];exact e
  ·rw[upd_ne (ne_of_none e h)];exact e
 ·rcases List.mem_append.mp ha with ha | ha
  ·exact S.sep a ha hz
  ·rw[List.mem_singleton.mp ha]at hz;exact hzn _ hz rfl
theorem StO.put(S:StO κ α Z Ω H){n:Nat}{p:Addr}{o:HO}{c:Cell}(hn:α[n]?=some p)(hm:∀ o u,H p≠some (.frz o u))(hc:∀ R:D->V->Prop,(∀ d v,RepO α Z H d v->R d v)->CelR κ R (upd H p o) p c):StO κ α Z (Ω.set n c) (upd H p o)/\GrO α Z H α Z (upd H p o):=by
 have hpm:p∈α:=List.mem_of_getElem? hn
 have g:GrO α Z H α Z (upd H p o):=⟨fun n a e=>e,fun _ h=>h,fun _ h=>.inl h,fun a ha=>.inl ha,fun a u e ha=>by rw[upd_ne (fun (q:a=p)=>ha (by rw[q];exact hpm))];exact e,fun a ha=>by
   by_cases q:a=p
   ·subst q;rw[upd_same];simp
   ·rw[upd_ne q];exact S.has a ha⟩
 refine⟨⟨S.nod,?_,S.sep,fun a ha => ?_⟩,g⟩
 ·have key:∀ {cs:List Cell} {as:List Addr} {n:Nat},as.Nodup->All2 (fun c a=>CelR κ (RepO α Z H) H a c) cs as->as[n]?=some p->All2 (fun c a=>CelR κ (RepO α Z (upd H p o)) (upd H p o) a c) (cs.set n c) as:=by
   intro cs as n hnd hA
   induction hA generalizing n with
   | nil=>intro e;simp at e
   | @cons c' a' cs as r t ih=>
    intro e
    have hnd':=List.nodup_cons.mp hnd
    cases n with
    | zero=>
     simp at e
     subst e
     refine .cons (hc _ fun d v r=>S.repG g r) (All2.imp (fun _ _ q=>q) ?_)
     have:∀ {cs:List Cell} {as:List Addr},a'∉as->All2 (fun c a=>CelR κ (RepO α Z H) H a c) cs as->All2 (fun c a=>CelR κ (RepO α Z (upd H a' o)) (upd H a' o) a c) cs as:=by
      intro cs as hna hA
      induction hA with
      | nil=>exact .nil
      | @cons c1 a1 cs as r t ih=>
       refine .cons (r.imp (fun d v q=>S.repG g q) (fun u e => ?_) fun b o' u' e => ?_) (ih fun q=>hna (List.mem_cons_of_mem _ q))
       ·rw[upd_ne (fun q=>hna (by rw[q];simp))];exact e
       ·rw[upd_ne (fun q=>hm o' u' (by rw[← q];exact e))];exact e
     exact this hnd'.1 t
    | succ n=>
     have e':as[n]?=some p:=by simpa using e
     refine .cons (r.imp (fun d v q=>S.repG g q) (fun u eu => ?_) fun b o' u' eb => ?_) (ih hnd'.2 e')
     ·rw[upd_ne (fun q=>hnd'.1 (by rw[q];exact List.mem_of_getElem? e'))];exact eu
     ·rw[upd_ne (fun q=>hm o' u' (by rw[← q];exact eb))];exact eb
  exact key S.nod S.cel hn
 ·by_cases q:a=p
  ·subst q;rw[upd_same];simp
  ·rw[upd_ne q];exact S.dom a ha
end
end Mir
namespace Mir
open PySem PySem.Spec PyProof.Rows L2
variable [CloTab]
noncomputable abbrev Phi:=D->Sto->List Addr->(Addr->Prop)->Hp->Prop
noncomputable def GoO(κ:Str->Addr->Prop)(Φ:Phi)(α:List Addr)(Z:Addr->Prop)(H:Hp)(r:OutO D)(Q:VK):Prop:=match r with
 | .ok d Ω'=>∀ v H' α' Z',GrO α Z H α' Z' H'->StO κ α' Z' Ω' H'->RepO α' Z' H' d v->Q v H'
 | .exc x Ω'=>∀ H' α' Z',GrO α Z H α' Z' H'->StO κ α' Z' Ω' H'->Φ x Ω' α' Z' H'
 | .bad=>False
structure SimO(κ:Str->Addr->Prop)(α0:List Addr)(Z0:Addr->Prop)(H0:Hp)(α:List Addr)(Z:Addr->Prop)(Ω:Sto)(ρ:OEnv)(σ:L2.St)(H:Hp):Prop where
 st:StO κ α Z Ω H
 gr:GrO α0 Z0 H0 α Z H
 len:σ.length=ρ.length
 val:∀ (i:Nat) (d:D),ρ[i]?=some (some d)->∃ v,σ[i]?=some (some v)/\RepO α Z H d v
noncomputable abbrev EM:=OEnv->Sto->OutO D
noncomputable def tO(κ:Str->Addr->Prop)(Φ:Phi)(α0:List Addr)(Z0:Addr->Prop)(H0:Hp)(m:EM)(ρ:OEnv)(Ω:Sto):TE:=fun σ H Q=>
 ∃ α Z,SimO κ α0 Z0 H0 α Z Ω ρ σ H/\GoO κ Φ α Z H (m ρ Ω) Q
noncomputable def PEo(X:Cx)(κ:Str->Addr->Prop)(Φ:Phi)(e:Expr)(m:EM):Prop:=∀ α0 Z0 H0 ρ Ω,PE X e (tO κ Φ α0 Z0 H0 m ρ Ω)
section
variable{κ:Str->Addr->Prop}{Φ:Phi}{α α' α0 α1:List Addr}{Z Z' Z0 Z1:Addr->Prop}{Ω Ω':Sto}{H H' H0 H1:Hp}{ρ:OEnv}{σ:L2.St}{Q Q':VK}{r:OutO D}
theorem GoO.from(g:GrO α Z H α1 Z1 H1)(h:GoO κ Φ α Z H r Q):GoO κ Φ α1 Z1 H1 r Q:=by
 cases r with
 | ok d Ω'=>exact fun v H' α' Z' g'=>h v H' α' Z' (g.trans g')
 | exc x Ω'=>exact fun H' α' Z' g'=>h H' α' Z' (g.trans g')
 | bad=>exact h
theorem GoO.use{f:D->Sto->OutO D}(h:GoO κ Φ α Z H (r.bind f) Q)(k:∀ d Ω1,r=.ok d Ω1->∀ v H1 α1 Z1,GrO α Z H α1 Z1 H1->StO κ α1 Z1 Ω1 H1->RepO α1 Z1 H1 d v->GoO κ Φ α1 Z1 H1 (f d Ω1) Q->Q' v H1):GoO κ Φ α Z H r Q':=by
 cases r with
 | ok d Ω1=>exact fun v H1 α1 Z1 g s q=>k d Ω1 rfl v H1 α1 Z1 g s q (GoO.from g h)
 | exc x Ω1=>exact h
 | bad=>exact h
theorem GoO.ret{d:D}{v:V}(S:StO κ α Z Ω H)(q:RepO α Z H d v)(h:GoO κ Φ α Z H (.ok d Ω) Q):Q v H:=h v H α Z (GrO.refl S.has) S q
theorem SimO.grow(S:SimO κ α0 Z0 H0 α Z Ω ρ σ H)(g:GrO α Z H α' Z' H')(s:StO κ α' Z' Ω' H'):SimO κ α0 Z0 H0 α' Z' Ω' ρ σ H':=
 ⟨s,S.gr.trans g,S.len,fun i d e=>let ⟨v,h1,h2⟩:=S.val i d e;⟨v,h1,S.st.repG g h2⟩⟩
theorem repO_flat{d:D}{v:V}(h:flatD d=some v):RepO α Z H d v:=by
 cases d<;>simp only[flatD]at h<;>first | cases h;simp only[RepO] | cases h
theorem flatB_v{d:D}(h:flatB d=true):∃ v,flatD d=some v:=by
 cases d<;>first | exact⟨_,rfl⟩ | cases h
theorem rep_flat_inv{d:D}{v w:V}(h:flatD d=some w)(r:Rep Z H d v):v=w:=by
 cases d<;>simp only[flatD]at h<;>first | (cases h;simpa only [Rep] using r) | cases h
noncomputable def optAll{α β:Type}(f:α->Option β):List α->Option (List β)
 | []=>some []
 | x::xs=>match f x,optAll f xs with
  | some y,some ys=>some (y::ys)
  | _,_=>none
noncomputable def rei(Ω:Sto):Nat->D->Option D
 | _,.non=>some .non
 | _,.bl b=>some (.bl b)
 | _,.int i=>some (.int i)
 | _,.str x=>some (.str x)
 | 0,_=>none
 | n + 1,.lst ds=>(optAll (rei Ω n) ds).map .lst
 | n + 1,.tup ds=>(optAll (rei Ω n) ds).map .tup
 | n + 1,.ref k=>match Ω[k]? with
  | some (.lst ds)=>(optAll (rei Ω n) ds).map .lst
  | _=>none
 | _ + 1,.dct _ _=>none
noncomputable def Zal(α:List Addr)(Z:Addr->Prop):Addr->Prop:=fun a=>Z a\/a∈α
theorem optAll_rep{f:D->Option D}{R:D->V->Prop}{S:D->V->Prop}(hf:∀ d d' v,f d=some d'->R d v->S d' v):∀ {ds es:List D} {vs:List V},optAll f ds=some es->All2 R ds vs->All2 S es vs
 | [],es,vs,h,r=>by cases h;rw[r.nil_inv];exact .nil
 | d::ds,es,vs,h,r=>by
  simp only[optAll]at h
  split at h
  ·rename_i y ys h1 h2
   cases h
   obtain⟨v,vs',rfl,r1,r2⟩:=r.cons_inv
   exact .cons (hf d y v h1 r1) (optAll_rep hf h2 r2)
  ·cases h
theorem reps_all:∀ {ds:List D} {vs:List V},All2 (Rep Z H) ds vs->Reps Z H ds vs
 | _,_,.nil=>.nil
 | _,_,.cons r t=>.cons r (reps_all t)
theorem rei_rep(S:StO κ α Z Ω H):∀ (n:Nat) {d d':D} {v:V},rei Ω n d=some d'->RepO α Z H d v->Rep (Zal α Z) H d' v:=by
 intro n
 induction n with
 | zero=>
  intro d d' v h r
  cases d<;>simp only[rei]at h<;>first | (cases h;simpa only [Rep,RepO] using r) | cases h
 | succ n ih=>
  intro d d' v h r
  cases d with
  | lst ds=>
   simp only[rei]at h
   obtain⟨es,h1,rfl⟩:=Option.map_eq_some_iff.mp h
   simp only[RepO]at r
   obtain⟨a,vs,rfl,hz,hr,hs⟩:=r
   simp only[Rep]
   exact⟨a,vs,rfl,.inl hz,hr,reps_all (optAll_rep (S:=Rep (Zal α Z) H) (fun d d' v q r=>ih q r) h1 (repOs_iff.mp hs))⟩
  | tup ds=>
   simp only[rei]at h
   obtain⟨es,h1,rfl⟩:=Option.map_eq_some_iff.mp h
   simp only[RepO]at r
   obtain⟨a,vs,rfl,hz,hr,hs⟩:=r
   simp only[Rep]
   exact⟨a,vs,rfl,.inl hz,.inl hr,reps_all (optAll_rep (S:=Rep (Zal α Z) H) (fun d d' v q r=>ih q r) h1 (repOs_iff.mp hs))⟩
  | ref k=>
   simp only[rei]at h
   split at h
   ·rename_i ds hk
    obtain⟨es,h1,rfl⟩:=Option.map_eq_some_iff.mp h
    obtain⟨a,ha,vs,hv,hs⟩:=S.cell hk
    simp only[RepO]at r
    obtain⟨a',ha',rfl⟩:=r
    rw[ha]at ha'
    cases ha'
    simp only[Rep]
    exact⟨a,vs,rfl,.inr (List.mem_of_getElem? ha),.inl hv,reps_all (optAll_rep (S:=Rep (Zal α Z) H) (fun d d' v q r=>ih q r) h1 hs)⟩
   ·cases h
  | dct _ _=>cases h
  | _=>simp only[rei]at h;cases h;simpa only [Rep,RepO] using r
theorem zal_dom(S:StO κ α Z Ω H):∀ a,Zal α Z a->H a≠none:=fun a h=>h.elim (S.dom a) (S.has a)
theorem StO.same(S:StO κ α Z Ω H)(h:Same H H'):StO κ α Z Ω H'/\GrO α Z H α Z H':=by
 have g:GrO α Z H α Z H':=⟨fun _ _ e=>e,fun _ z=>z,fun _ z=>.inl z,fun _ z=>.inl z,fun a o e _=>h a o e,fun a ha=>by
  cases q:H a with
  | none=>exact absurd q (S.has a ha)
  | some o=>rw[h a o q];simp⟩
 refine⟨⟨S.nod,S.cel.imp fun c a hc=>hc.imp (fun d v r=>S.repG g r) (fun o e=>h a o e) fun b o u e=>h b _ e,S.sep,fun a z => ?_⟩,g⟩
 cases q:H a with
 | none=>exact absurd q (S.dom a z)
 | some o=>rw[h a o q];simp
theorem StO.adopt(S:StO κ α Z Ω H)(h:Same H H'){p:Addr}(hp:H p=none){c:Cell}(hc:∀ R:D->V->Prop,(∀ d v,RepO α Z H' d v->R d v)->CelR κ R H' p c):StO κ (α++[p]) Z (Ω++[c]) H'/\GrO α Z H (α++[p]) Z H':=by
 obtain⟨S1,g1⟩:=S.same h
 have hne:∀ a∈α,a≠p:=fun a ha e=>S.has a ha (e▸hp)
 have hzn:∀ a,Z a->a≠p:=fun a hz e=>S.dom a hz (e▸hp)
 have pre:∀ (n:Nat) (a:Addr),α[n]?=some a->(α++[p])[n]?=some a:=fun n a e=>by rw[List.getElem?_append_left (List.getElem?_eq_some_iff.mp e).1];exact e
 have mono:∀ d v,RepO α Z H' d v->RepO (α++[p]) Z H' d v:=fun d v r=>r.mono pre (fun _ _ _ e=>e) fun _ z=>z
 refine⟨⟨?_,?_,fun a ha hz => ?_,S1.dom⟩,⟨pre,fun _ z=>z,fun _ z=>.inl z,fun a ha => ?_,g1.frm,g1.has⟩⟩
 ·refine List.nodup_append.mpr ⟨S.nod,by simp,fun a ha b hb => ?_⟩
  rw[List.mem_singleton.mp hb];exact hne a ha
 ·exact All2.append (S1.cel.imp fun c a hc=>hc.imp mono (fun _ e=>e) fun _ _ _ e=>e) (.one (hc _ mono))
 ·rcases List.mem_append.mp ha with ha | ha
  ·exact S.sep a ha hz
  ·rw[List.mem_singleton.mp ha]at hz;exact hzn _ hz rfl
 ·rcases List.mem_append.mp ha with ha | ha
  ·exact .inl ha
  ·rw[List.mem_singleton.mp ha];exact .inr hp
noncomputable def newC(Ω:Sto)(c:Cell):OutO D:=.ok (.ref Ω.length) (Ω++[c])
noncomputable def outO(Ω:Sto):Out Rs->OutO D
 | .ok (own,d)=>if flatB d then .ok d Ω else match own,d with
  | true,.lst ds=>if ds.all flatB then newC Ω (.lst ds) else .bad
  | _,_=>.bad
 | _=>.bad
theorem newC_rep(S:StO κ α Z Ω H)(p:Addr):RepO (α++[p]) Z H' (.ref Ω.length) (.ref p):=by
 simp only[RepO]
 exact⟨p,by rw[← S.len];simp,rfl⟩
theorem flats_rep:∀ {ds:List D} {vs:List V},ds.all flatB=true->Reps Z1 H1 ds vs->All2 (RepO α Z H) ds vs
 | [],vs,_,r=>by rw[r.nil_inv];exact .nil
 | d::ds,vs,h,r=>by
  obtain⟨v,vs',rfl,r1,r2⟩:=r.cons_inv
  simp only[List.all_cons,Bool.and_eq_true]at h
  obtain⟨w,hw⟩:=flatB_v h.1
  obtain rfl:=rep_flat_inv hw r1
  exact .cons (repO_flat hw) (flats_rep h.2 r2)
theorem outO_use{bw:Bool}{r:Out Rs}(S:StO κ α Z Ω H)(h:GoO κ Φ α Z H (outO Ω r) Q):∃ own d,r=.ok (own,d)/\∀ v H' Z1 Z',Grow Z1 H Z' H'->Res1 bw own Z' H H' d v->Q v H':=by
 cases r with
 | ok q=>
  obtain⟨own,d⟩:=q
  refine⟨own,d,rfl,fun v H' Z1 Z' g q => ?_⟩
  simp only[outO]at h
  split at h
  ·rename_i hf
   obtain⟨w,hw⟩:=flatB_v hf
   have hv:v=w:=by
    have n:=q.nw
    cases d with
    | non=>exact rep_flat_inv (Z:=Z') (H:=H') hw n
    | bl _=>exact rep_flat_inv (Z:=Z') (H:=H') hw n
    | int _=>exact rep_flat_inv (Z:=Z') (H:=H') hw n
    | str _=>exact rep_flat_inv (Z:=Z') (H:=H') hw n
    | _=>cases hf
   subst hv
   obtain⟨S1,g1⟩:=S.same g.same
   exact h v H' α Z g1 S1 (repO_flat hw)
  ·split at h
   ·rename_i ds hnf
    split at h
    ·rename_i hf2
     unfold Res1 at q
     rw[if_pos rfl]at q
     obtain⟨a,vs,ds',e1,rfl,h1,h2,h3,h4⟩:=q
     cases e1
     obtain⟨S1,g1⟩:=S.adopt (c:=.lst ds) g.same h1 (fun R hR=>⟨vs,h3,(flats_rep hf2 h4).imp hR⟩)
     exact h _ H' _ Z g1 S1 (newC_rep S a)
    ·exact h.elim
   ·exact h.elim
 | exc c fs=>exact h.elim
 | bad=>exact h.elim
end
end Mir
namespace Mir
open PySem PySem.Spec PyProof.Rows L2
variable [CloTab]
noncomputable def m1(f:D->Sto->OutO D)(ma:EM):EM:=fun ρ Ω=>(ma ρ Ω).bind f
noncomputable def m2(f:D->D->Sto->OutO D)(ma mb:EM):EM:=fun ρ Ω=>(ma ρ Ω).bind fun x Ω1=>(mb ρ Ω1).bind fun y Ω2=>f x y Ω2
noncomputable def orO(a b:OutO D):OutO D:=match a with
 | .bad=>b
 | r=>r
noncomputable def alt1(f g:D->Sto->OutO D):D->Sto->OutO D:=fun x Ω=>orO (f x Ω) (g x Ω)
noncomputable def alt2(f g:D->D->Sto->OutO D):D->D->Sto->OutO D:=fun x y Ω=>orO (f x y Ω) (g x y Ω)
noncomputable def altM(f g:EM):EM:=fun ρ Ω=>orO (f ρ Ω) (g ρ Ω)
noncomputable def via1(f:D->Out Rs):D->Sto->OutO D:=fun x Ω=>match rei Ω 8 x with
 | some dx=>outO Ω (f dx)
 | none=>.bad
noncomputable def via2(f:D->D->Out Rs):D->D->Sto->OutO D:=fun x y Ω=>match rei Ω 8 x,rei Ω 8 y with
 | some dx,some dy=>outO Ω (f dx dy)
 | _,_=>.bad
noncomputable def truO(Ω:Sto):D->Option Bool
 | .ref k=>match Ω[k]? with
  | some (.lst ds)=>some (!ds.isEmpty)
  | some (.dK kvs)=>some (!kvs.isEmpty)
  | _=>none
 | d=>truD d
noncomputable def tstO:OutO D->OutO Bool
 | .ok d Ω=>match truO Ω d with
  | some b=>.ok b Ω
  | none=>.bad
 | .exc x Ω=>.exc x Ω
 | .bad=>.bad
noncomputable def GoB(κ:Str->Addr->Prop)(Φ:Phi)(α:List Addr)(Z:Addr->Prop)(H:Hp)(r:OutO Bool)(Q:Bool->Hp->Prop):Prop:=match r with
 | .ok b Ω'=>∀ H' α' Z',GrO α Z H α' Z' H'->StO κ α' Z' Ω' H'->Q b H'
 | .exc x Ω'=>∀ H' α' Z',GrO α Z H α' Z' H'->StO κ α' Z' Ω' H'->Φ x Ω' α' Z' H'
 | .bad=>False
noncomputable def tTO(κ:Str->Addr->Prop)(Φ:Phi)(α0:List Addr)(Z0:Addr->Prop)(H0:Hp)(m:EM)(ρ:OEnv)(Ω:Sto):TT:=fun σ H Q=>∃ α Z,SimO κ α0 Z0 H0 α Z Ω ρ σ H/\GoB κ Φ α Z H (tstO (m ρ Ω)) Q
noncomputable def PTo(X:Cx)(κ:Str->Addr->Prop)(Φ:Phi)(e:Expr)(m:EM):Prop:=∀ α0 Z0 H0 ρ Ω,PT X e (tTO κ Φ α0 Z0 H0 m ρ Ω)
noncomputable abbrev AM:=OEnv->Sto->OutO (List D)
noncomputable def GoA(κ:Str->Addr->Prop)(Φ:Phi)(α:List Addr)(Z:Addr->Prop)(H:Hp)(r:OutO (List D))(Q:List V->Hp->Prop):Prop:=match r with
 | .ok ds Ω'=>∀ vs H' α' Z',GrO α Z H α' Z' H'->StO κ α' Z' Ω' H'->All2 (RepO α' Z' H') ds vs->Q vs H'
 | .exc x Ω'=>∀ H' α' Z',GrO α Z H α' Z' H'->StO κ α' Z' Ω' H'->Φ x Ω' α' Z' H'
 | .bad=>False
noncomputable def tAO(κ:Str->Addr->Prop)(Φ:Phi)(α0:List Addr)(Z0:Addr->Prop)(H0:Hp)(m:AM)(ρ:OEnv)(Ω:Sto):TA:=fun σ H Q=>∃ α Z,SimO κ α0 Z0 H0 α Z Ω ρ σ H/\GoA κ Φ α Z H (m ρ Ω) Q
noncomputable def PAo(X:Cx)(κ:Str->Addr->Prop)(Φ:Phi)(es:List Expr)(m:AM):Prop:=∀ α0 Z0 H0 ρ Ω,PA X es (tAO κ Φ α0 Z0 H0 m ρ Ω)
noncomputable def mNil:AM:=fun _ Ω=>.ok [] Ω
noncomputable def mCons(a:EM)(as:AM):AM:=fun ρ Ω=>(a ρ Ω).bind fun x Ω1=>(as ρ Ω1).bind fun xs Ω2=>.ok (x::xs) Ω2
noncomputable def mN(f:List D->Sto->OutO D)(as:AM):EM:=fun ρ Ω=>(as ρ Ω).bind f
section
variable{X:Cx}{κ:Str->Addr->Prop}{Φ:Phi}{α α' α0 α1:List Addr}{Z Z' Z0 Z1:Addr->Prop}{Ω Ω':Sto}{H H' H0 H1:Hp}{ρ:OEnv}{σ:L2.St}{Q Q':VK}{r:OutO D}{a b e:Expr}{es:List Expr}{ma mb mc m:EM}{as:AM}{pos:Pos}
theorem GoA.from{r:OutO (List D)}{Q:List V->Hp->Prop}(g:GrO α Z H α1 Z1 H1)(h:GoA κ Φ α Z H r Q):GoA κ Φ α1 Z1 H1 r Q:=by
 cases r with
 | ok d Ω'=>exact fun v H' α' Z' g'=>h v H' α' Z' (g.trans g')
 | exc x Ω'=>exact fun H' α' Z' g'=>h H' α' Z' (g.trans g')
 | bad=>exact h
theorem GoB.from{r:OutO Bool}{Q:Bool->Hp->Prop}(g:GrO α Z H α1 Z1 H1)(h:GoB κ Φ α Z H r Q):GoB κ Φ α1 Z1 H1 r Q:=by
 cases r with
 | ok d Ω'=>exact fun H' α' Z' g'=>h H' α' Z' (g.trans g')
 | exc x Ω'=>exact fun H' α' Z' g'=>h H' α' Z' (g.trans g')
 | bad=>exact h
theorem GoA.use{r:OutO (List D)}{f:List D->Sto->OutO D}{Q':List V->Hp->Prop}(h:GoO κ Φ α Z H (r.bind f) Q)(k:∀ ds Ω1,r=.ok ds Ω1->∀ vs H1 α1 Z1,GrO α Z H α1 Z1 H1->StO κ α1 Z1 Ω1 H1->All2 (RepO α1 Z1 H1) ds vs->GoO κ Φ α1 Z1 H1 (f ds Ω1) Q->Q' vs H1):GoA κ Φ α Z H r Q':=by
 cases r with
 | ok d Ω1=>exact fun v H1 α1 Z1 g s q=>k d Ω1 rfl v H1 α1 Z1 g s q (GoO.from g h)
 | exc x Ω1=>exact h
 | bad=>exact h
theorem PE.or{t u:TE}(h:PE X e t)(h':PE X e u):PE X e (fun σ H Q=>t σ H Q\/u σ H Q):=fun pins s σ H Q I q=>q.elim (h pins s σ H Q I) (h' pins s σ H Q I)
theorem PT.or{t u:TT}(h:PT X e t)(h':PT X e u):PT X e (fun σ H Q=>t σ H Q\/u σ H Q):=fun pins s σ H Q I q=>q.elim (h pins s σ H Q I) (h' pins s σ H Q I)
theorem orO_cases{a b:OutO D}:orO a b=a\/(a=.bad/\orO a b=b):=by cases a<;>simp[orO]
theorem PEo.alt(h:PEo X κ Φ e ma)(h':PEo X κ Φ e mb):PEo X κ Φ e (altM ma mb):=by
 intro α0 Z0 H0 ρ Ω
 refine PE.imp (PE.or (h α0 Z0 H0 ρ Ω) (h' α0 Z0 H0 ρ Ω)) ?_
 rintro σ H Q ⟨α,Z,S,g⟩
 rcases orO_cases (a:=ma ρ Ω) (b:=mb ρ Ω) with q | ⟨_,q⟩
 ·exact .inl ⟨α,Z,S,by rw[← q];exact g⟩
 ·exact .inr ⟨α,Z,S,by rw[← q];exact g⟩
theorem PTo.alt(h:PTo X κ Φ e ma)(h':PTo X κ Φ e mb):PTo X κ Φ e (altM ma mb):=by
 intro α0 Z0 H0 ρ Ω
 refine PT.imp (PT.or (h α0 Z0 H0 ρ Ω) (h' α0 Z0 H0 ρ Ω)) ?_
 rintro σ H Q ⟨α,Z,S,g⟩
 rcases orO_cases (a:=ma ρ Ω) (b:=mb ρ Ω) with q | ⟨_,q⟩
 ·exact .inl ⟨α,Z,S,by rw[← q];exact g⟩
 ·exact .inr ⟨α,Z,S,by rw[← q];exact g⟩
theorem m2_alt{f g:D->D->Sto->OutO D}:m2 (alt2 f g) ma mb=altM (m2 f ma mb) (m2 g ma mb):=by
 funext ρ Ω
 simp only[m2,altM]
 cases ma ρ Ω with
 | ok x Ω1=>
  simp only[OutO.bind]
  cases mb ρ Ω1 with
  | ok y Ω2=>rfl
  | exc x Ω=>rfl
  | bad=>rfl
 | exc x Ω=>rfl
 | bad=>rfl
theorem m1_alt{f g:D->Sto->OutO D}:m1 (alt1 f g) ma=altM (m1 f ma) (m1 g ma):=by
 funext ρ Ω
 simp only[m1,altM]
 cases ma ρ Ω with
 | ok x Ω1=>rfl
 | exc x Ω=>rfl
 | bad=>rfl
theorem peo_one{f:D->Sto->OutO D}{r:V->Hp->VK->Prop}(h:∀ ta,PE X a ta->PE X e fun σ H Q=>ta σ H fun x H1=>r x H1 Q)(ha:PEo X κ Φ a ma)
  (hr:∀ dx x α Z Ω H Q,StO κ α Z Ω H->RepO α Z H dx x->GoO κ Φ α Z H (f dx Ω) Q->r x H Q):PEo X κ Φ e (m1 f ma):=by
 intro α0 Z0 H0 ρ Ω
 refine PE.imp (h _ (ha α0 Z0 H0 ρ Ω)) ?_
 rintro σ H Q ⟨α,Z,S,g⟩
 refine⟨α,Z,S,g.use fun d Ω1 _ v H1 α1 Z1 g1 s1 r1 k1 => ?_⟩
 exact hr d v α1 Z1 Ω1 H1 Q s1 r1 k1
theorem peo_two{f:D->D->Sto->OutO D}{r:R2}(h:∀ ta tb,PE X a ta->PE X b tb->PE X e (tOp r ta tb))(ha:PEo X κ Φ a ma)(hb:PEo X κ Φ b mb)
  (hr:∀ dx dy x y α Z Ω H Q,StO κ α Z Ω H->RepO α Z H dx x->RepO α Z H dy y->GoO κ Φ α Z H (f dx dy Ω) Q->r x y H Q):PEo X κ Φ e (m2 f ma mb):=by
 intro α0 Z0 H0 ρ Ω
 rcases q:ma ρ Ω with ⟨d,Ω1⟩ | ⟨x,Ω1⟩ | _
 ·refine PE.imp (h _ _ (ha α0 Z0 H0 ρ Ω) (hb α0 Z0 H0 ρ Ω1)) ?_
  rintro σ H Q ⟨α,Z,S,g⟩
  refine⟨α,Z,S,GoO.use g fun d' Ω1' e1 v H1 α1 Z1 g1 s1 r1 k1 => ?_⟩
  rw[q]at e1
  cases e1
  refine⟨α1,Z1,S.grow g1 s1,k1.use fun d2 Ω2 _ w H2 α2 Z2 g2 s2 r2 k2 => ?_⟩
  exact hr d d2 v w α2 Z2 Ω2 H2 Q s2 (s1.repG g2 r1) r2 k2
 ·refine PE.imp (h _ _ (ha α0 Z0 H0 ρ Ω) (hb α0 Z0 H0 ρ Ω)) ?_
  rintro σ H Q ⟨α,Z,S,g⟩
  refine⟨α,Z,S,?_⟩
  simp only[m2,q,OutO.bind]at g ⊢
  exact g
 ·refine PE.imp (h _ _ (ha α0 Z0 H0 ρ Ω) (hb α0 Z0 H0 ρ Ω)) ?_
  rintro σ H Q ⟨α,Z,S,g⟩
  simp only[m2,q,OutO.bind]at g
  exact g.elim
theorem via1_use{bw:Bool}{f:D->Out Rs}{dx:D}{x:V}(S:StO κ α Z Ω H)(hx:RepO α Z H dx x)(h:GoO κ Φ α Z H (via1 f dx Ω) Q) :
  ∃ d own d',Now (Zal α Z) H d x/\f d=.ok (own,d')/\∀ v H' Z',Grow (Zal α Z) H Z' H'->Res1 bw own Z' H H' d' v->Q v H':=by
 unfold via1 at h
 split at h
 ·rename_i d hd
  obtain⟨own,d',e,k⟩:=outO_use (bw:=bw) S h
  exact⟨d,own,d',(rei_rep S 8 hd hx).now,e,fun v H' Z' g q=>k v H' _ Z' g q⟩
 ·exact h.elim
theorem via2_use{bw:Bool}{f:D->D->Out Rs}{dx dy:D}{x y:V}(S:StO κ α Z Ω H)(hx:RepO α Z H dx x)(hy:RepO α Z H dy y)(h:GoO κ Φ α Z H (via2 f dx dy Ω) Q) :
  ∃ d e own d',Now (Zal α Z) H d x/\Now (Zal α Z) H e y/\f d e=.ok (own,d')/\∀ v H' Z',Grow (Zal α Z) H Z' H'->Res1 bw own Z' H H' d' v->Q v H':=by
 unfold via2 at h
 split at h
 ·rename_i d e hd he
  obtain⟨own,d',e1,k⟩:=outO_use (bw:=bw) S h
  exact⟨d,e,own,d',(rei_rep S 8 hd hx).now,(rei_rep S 8 he hy).now,e1,fun v H' Z' g q=>k v H' _ Z' g q⟩
 ·exact h.elim
theorem peo_var{i:Nat}{x:Str}(hN:X.N[i]?=some x)(hv:Vis X.env.scope x)(hd:(x == ("__debug__":Str))=false)(hcd:(x == ("__classdict__":Str))=false):PEo X κ Φ (.Name x pos) (fun ρ Ω=>match ρ[i]? with | some (some d)=>.ok d Ω | _=>.bad):=by
 intro α0 Z0 H0 ρ Ω
 refine PE.imp (pe_var hN hv hd hcd) ?_
 rintro σ H Q ⟨α,Z,S,g⟩
 dsimp only at g
 split at g
 ·rename_i d hd
  obtain⟨v,h1,h2⟩:=S.val i d hd
  exact⟨v,h1,GoO.ret S.st h2 g⟩
 ·exact g.elim
theorem peo_cst{d:D}{v:V}(h:PE X e (tC v))(hf:flatD d=some v):PEo X κ Φ e (fun _ Ω=>.ok d Ω):=by
 intro α0 Z0 H0 ρ Ω
 refine PE.imp h ?_
 rintro σ H Q ⟨α,Z,S,g⟩
 exact GoO.ret S.st (repO_flat hf) g
noncomputable def lstO(Ω:Sto):D->Option (List D)
 | .ref k=>match Ω[k]? with
  | some (.lst ds)=>some ds
  | _=>none
 | .lst ds=>some ds
 | _=>none
theorem lstO_use{x:D}{v:V}{ds:List D}(S:StO κ α Z Ω H)(r:RepO α Z H x v)(h:lstO Ω x=some ds):∃ a vs,v=.ref a/\Rd H a (.lst vs)/\All2 (RepO α Z H) ds vs:=by
 cases x with
 | ref k=>
  simp only[lstO]at h
  split at h
  ·rename_i ds' hk
   cases h
   simp only[RepO]at r
   obtain⟨a,ha,rfl⟩:=r
   obtain⟨a',ha',vs,h1,h2⟩:=S.cell hk
   rw[ha]at ha'
   cases ha'
   exact⟨a,vs,rfl,.inl h1,h2⟩
  ·cases h
 | lst es=>
  cases h
  simp only[RepO]at r
  obtain⟨a,vs,rfl,_,h1,h2⟩:=r
  exact⟨a,vs,rfl,h1,repOs_iff.mp h2⟩
 | _=>cases h
theorem tup_use{x:V}{ds:List D}(r:RepO α Z H (.tup ds) x):∃ a vs,x=.ref a/\Z a/\H a=some (.tup vs)/\All2 (RepO α Z H) ds vs:=by
 simp only[RepO]at r
 obtain⟨a,vs,e,h0,h1,h2⟩:=r
 exact⟨a,vs,e,h0,h1,repOs_iff.mp h2⟩
theorem new_lstO{ds:List D}{vs:List V}(S:StO κ α Z Ω H)(r:All2 (RepO α Z H) ds vs)(k:GoO κ Φ α Z H (newC Ω (.lst ds)) Q):∀ p,H p=none->Q (.ref p) (upd H p (.lst vs)):=fun p hp=>by
 obtain⟨S1,g1⟩:=S.laid (p:=p) (o:=.lst vs) (c:=.lst ds) hp fun R hR=>⟨vs,upd_same,r.imp hR⟩
 exact k _ _ _ Z g1 S1 (newC_rep S p)
theorem new_tupO{ds:List D}{vs:List V}(S:StO κ α Z Ω H)(r:All2 (RepO α Z H) ds vs)(k:GoO κ Φ α Z H (.ok (.tup ds) Ω) Q):∀ p,H p=none->Q (.ref p) (upd H p (.tup vs)):=fun p hp=>by
 obtain⟨S1,g1⟩:=S.laidZ (p:=p) (o:=.tup vs) hp True
 simp only[if_true]at S1 g1
 refine k _ _ _ _ g1 S1 ?_
 simp only[RepO]
 exact⟨p,vs,rfl,.inr rfl,upd_same,repOs_iff.mpr (S.repsG g1 r)⟩
theorem pao_nil:PAo X κ Φ [] mNil:=by
 intro α0 Z0 H0 ρ Ω
 refine PA.imp pa_nil ?_
 rintro σ H Q ⟨α,Z,S,g⟩
 exact g [] H α Z (GrO.refl S.st.has) S.st .nil
theorem pao_cons(ha:PEo X κ Φ e ma)(hr:PAo X κ Φ es as)(hs:starEach (e::es) X.env=(false,eval e X.env)::starEach es X.env):PAo X κ Φ (e::es) (mCons ma as):=by
 intro α0 Z0 H0 ρ Ω
 rcases q:ma ρ Ω with ⟨d,Ω1⟩ | ⟨x,Ω1⟩ | _
 ·refine PA.imp (pa_cons (ha α0 Z0 H0 ρ Ω) (hr α0 Z0 H0 ρ Ω1) hs) ?_
  rintro σ H Q ⟨α,Z,S,g⟩
  refine⟨α,Z,S,?_⟩
  simp only[mCons,q,OutO.bind]at g ⊢
  intro v H1 α1 Z1 g1 s1 r1
  refine⟨α1,Z1,S.grow g1 s1,?_⟩
  have g:=GoA.from g1 g
  rcases q2:as ρ Ω1 with ⟨ds,Ω2⟩ | ⟨x,Ω2⟩ | _
  ·rw[q2]at g
   intro vs H2 α2 Z2 g2 s2 r2
   exact g _ _ _ _ g2 s2 (.cons (s1.repG g2 r1) r2)
  ·rw[q2]at g;exact g
  ·rw[q2]at g;exact g
 ·refine PA.imp (pa_cons (ha α0 Z0 H0 ρ Ω) (hr α0 Z0 H0 ρ Ω) hs) ?_
  rintro σ H Q ⟨α,Z,S,g⟩
  refine⟨α,Z,S,?_⟩
  simp only[mCons,q,OutO.bind]at g ⊢
  exact g
 ·refine PA.imp (pa_cons (ha α0 Z0 H0 ρ Ω) (hr α0 Z0 H0 ρ Ω) hs) ?_
  rintro σ H Q ⟨α,Z,S,g⟩
  simp only[mCons,q,OutO.bind]at g
  exact g.elim
noncomputable def lstN(ds:List D)(Ω:Sto):OutO D:=if small ds.length then newC Ω (.lst ds) else .bad
noncomputable def tupN(ds:List D)(Ω:Sto):OutO D:=if small ds.length then .ok (.tup ds) Ω else .bad
theorem peo_lst(h:PAo X κ Φ es as):PEo X κ Φ (.List es pos) (mN lstN as):=by
 intro α0 Z0 H0 ρ Ω
 refine PE.imp (pe_lst (h α0 Z0 H0 ρ Ω)) ?_
 rintro σ H Q ⟨α,Z,S,g⟩
 refine⟨α,Z,S,GoA.use g fun ds Ω1 _ vs H1 α1 Z1 g1 s1 r1 k1 => ?_⟩
 unfold lstN at k1
 split at k1
 ·rename_i hs
  exact⟨by rw[r1.length];exact small_iff hs,new_lstO s1 r1 k1⟩
 ·exact k1.elim
theorem peo_tup{x1}(h:PAo X κ Φ es as):PEo X κ Φ (.Tuple es x1 pos) (mN tupN as):=by
 intro α0 Z0 H0 ρ Ω
 refine PE.imp (pe_tup (h α0 Z0 H0 ρ Ω)) ?_
 rintro σ H Q ⟨α,Z,S,g⟩
 refine⟨α,Z,S,GoA.use g fun ds Ω1 _ vs H1 α1 Z1 g1 s1 r1 k1 => ?_⟩
 unfold tupN at k1
 split at k1
 ·rename_i hs
  exact⟨by rw[r1.length];exact small_iff hs,new_tupO s1 r1 k1⟩
 ·exact k1.elim
noncomputable def catO(x y:D)(Ω:Sto):OutO D:=match lstO Ω x,lstO Ω y with
 | some xs,some ys=>if small (xs.length + ys.length) then newC Ω (.lst (xs++ys)) else .bad
 | _,_=>.bad
noncomputable def catT(x y:D)(Ω:Sto):OutO D:=match x,y with
 | .tup xs,.tup ys=>if small (xs.length + ys.length) then .ok (.tup (xs++ys)) Ω else .bad
 | _,_=>.bad
noncomputable def binO(op:Operator):D->D->Sto->OutO D:=match op with
 | .Add=>alt2 catO (alt2 catT (via2 (binD .Add)))
 | op=>via2 (binD op)
theorem peo_bin{op:Operator}(ha:PEo X κ Φ a ma)(hb:PEo X κ Φ b mb):PEo X κ Φ (.BinOp a op b pos) (m2 (binO op) ma mb):=by
 have E:PEo X κ Φ (.BinOp a op b pos) (m2 (via2 (binD op)) ma mb):=peo_two (r:=rBin op) (fun ta tb pa pb=>pe_op (op_bin op) pa pb) ha hb fun dx dy x y α Z Ω H Q S rx ry g=>by
  obtain⟨d,e,own,d',n1,n2,e1,k⟩:=via2_use (bw:=false) S rx ry g
  exact bin_ok (bw:=false) n1 n2 (zal_dom S) e1 k
 have C:op=.Add->PEo X κ Φ (.BinOp a op b pos) (m2 catO ma mb):=fun e=>by
  subst e
  refine peo_two (r:=rBin .Add) (fun ta tb pa pb=>pe_op (op_bin .Add) pa pb) ha hb fun dx dy x y α Z Ω H Q S rx ry g => ?_
  unfold catO at g
  split at g
  ·rename_i xs ys h1 h2
   obtain⟨l,vs,rfl,p1,p2⟩:=lstO_use S rx h1
   obtain⟨n,ws,rfl,p3,p4⟩:=lstO_use S ry h2
   split at g
   ·rename_i hs
    exact .inr (.inr ⟨l,n,vs,ws,rfl,rfl,p1,p3,by rw[p2.length,p4.length];exact small_iff hs,new_lstO S (p2.append p4) g⟩)
   ·exact g.elim
  ·exact g.elim
 have C2:op=.Add->PEo X κ Φ (.BinOp a op b pos) (m2 catT ma mb):=fun e=>by
  subst e
  refine peo_two (r:=fun x y H Q=>rCatT X.K x y H Q\/rCat0 X.K x y H Q) (fun ta tb pa pb=>pe_op (op_catT.or op_cat0) pa pb) ha hb fun dx dy x y α Z Ω H Q S rx ry g => ?_
  unfold catT at g
  split at g
  ·rename_i xs ys
   simp only[RepO]at rx ry
   obtain⟨a1,vs,rfl,z1,p1,q1⟩:=rx
   obtain⟨b1,ws,rfl,z2,p2,q2⟩:=ry
   have q1:=repOs_iff.mp q1
   have q2:=repOs_iff.mp q2
   split at g
   ·rename_i hs
    by_cases hx:vs=[]
    ·subst hx
     have e1:xs=[]:=by have:=q1.length;simp at this;exact List.length_eq_zero_iff.mp this.symm
     subst e1
     refine .inr ⟨a1,b1,ws,rfl,rfl,SqT.of p1,SqT.of p2,GoO.ret S ?_ g⟩
     simp only[RepO,List.nil_append]
     exact⟨b1,ws,rfl,z2,p2,repOs_iff.mpr q2⟩
    ·refine .inl ⟨a1,b1,vs,ws,rfl,rfl,SqT.of p1,SqT.of p2,hx,by rw[q1.length,q2.length];exact small_iff hs,fun hy => ?_,fun _=>new_tupO S (q1.append q2) g⟩
     subst hy
     have e1:ys=[]:=by have:=q2.length;simp at this;exact List.length_eq_zero_iff.mp this.symm
     subst e1
     refine GoO.ret S ?_ g
     simp only[RepO,List.append_nil]
     exact⟨a1,vs,rfl,z1,p1,repOs_iff.mpr q1⟩
   ·exact g.elim
  ·exact g.elim
 cases op with
 | Add=>show PEo X κ Φ _ (m2 (alt2 catO (alt2 catT (via2 (binD .Add)))) ma mb);rw[m2_alt,m2_alt];exact(C rfl).alt ((C2 rfl).alt E)
 | _=>exact E
noncomputable def negO:D->Sto->OutO D:=via1 fun x=>match x with | .int i=>.ok (false,.int (-i)) | _=>.bad
theorem peo_neg(ha:PEo X κ Φ a ma):PEo X κ Φ (.UnaryOp .USub a pos) (m1 negO ma):=
 peo_one (r:=rU fun i=>.int (-i)) (fun ta pa=>pe_un un_neg pa) ha fun dx x α Z Ω H Q S rx g=>by
  obtain⟨d,own,d',n1,e1,k⟩:=via1_use (bw:=false) S rx g
  split at e1
  ·cases now_int n1
   cases e1
   exact⟨_,rfl,k _ H _ (Grow.refl (zal_dom S)) (.rep (flat_rep rfl))⟩
  ·cases e1
end
end Mir
namespace Mir
open PySem PySem.Spec PyProof.Rows L2
variable [CloTab]
noncomputable def valG{κ β:Type}[DecidableEq κ](kvs:List (κ×β))(k:κ):Option β:=(kvs.find? fun kv=>decide (kv.1=k)).map (·.2)
noncomputable def putG{κ β:Type}[DecidableEq κ](kvs:List (κ×β))(k:κ)(v:β):List (κ×β):=
 if (kvs.any fun kv=>decide (kv.1=k))=true then kvs.map (fun kv=>if kv.1=k then (kv.1,v) else kv) else kvs++[(k,v)]
noncomputable def dropG{κ β:Type}[DecidableEq κ](kvs:List (κ×β))(k:κ):List (κ×β):=kvs.filter fun kv=>decide (kv.1≠k)
section
variable{κ:Type}[DecidableEq κ]{R:D->V->Prop}
theorem KVO.val{kvs:List (κ×D)}{kvs':List (κ×V)}(h:KVO R kvs kvs')(k:κ):(∀ d,valG kvs k=some d->∃ v,valV kvs' k=some v/\R d v)/\(valG kvs k=none->valV kvs' k=none):=by
 unfold KVO at h
 induction h with
 | nil=>exact⟨fun d e=>(by cases e),fun _=>rfl⟩
 | @cons p q ps qs r t ih=>
  obtain⟨r1,r2⟩:=r
  by_cases e:p.1=k
  ·have e':q.1=k:=r1▸e
   have h1:valG (p::ps) k=some p.2:=by simp[valG,List.find?_cons,e]
   rw[h1,valV_pos e']
   exact⟨fun d hd=>by cases hd;exact⟨_,rfl,r2⟩,fun hn=>by cases hn⟩
  ·have e':¬ q.1=k:=fun z=>e (r1.trans z)
   have h1:valG (p::ps) k=valG ps k:=by simp[valG,List.find?_cons,e]
   rw[h1,valV_neg e']
   exact ih
theorem KVO.any{kvs:List (κ×D)}{kvs':List (κ×V)}(h:KVO R kvs kvs')(k:κ):(kvs'.any fun kv=>decide (kv.1=k))=kvs.any fun kv=>decide (kv.1=k):=by
 unfold KVO at h
 induction h with
 | nil=>rfl
 | @cons p q ps qs r t ih=>rw[List.any_cons,List.any_cons,ih,r.1]
theorem KVO.put{kvs:List (κ×D)}{kvs':List (κ×V)}(h:KVO R kvs kvs')(k:κ){d:D}{v:V}(r:R d v):KVO R (putG kvs k d) (putK kvs' k v):=by
 unfold putG putK
 rw[h.any]
 split
 ·rename_i hc
  clear hc
  unfold KVO at h
  induction h with
  | nil=>exact .nil
  | @cons p q ps qs r1 t ih=>
   rw[List.map_cons,List.map_cons]
   refine .cons ?_ ih
   by_cases e:p.1=k
   ·rw[if_pos e,if_pos (r1.1▸e)];exact⟨r1.1,r⟩
   ·rw[if_neg e,if_neg (fun z=>e (r1.1.trans z))];exact r1
 ·exact All2.append h (.one ⟨rfl,r⟩)
theorem KVO.drop{kvs:List (κ×D)}{kvs':List (κ×V)}(h:KVO R kvs kvs')(k:κ):KVO R (dropG kvs k) (dropK kvs' k):=by
 unfold KVO at h
 induction h with
 | nil=>exact .nil
 | @cons p q ps qs r1 t ih=>
  unfold dropG dropK
  rw[List.filter_cons,List.filter_cons]
  by_cases e:p.1=k
  ·have:q.1=k:=r1.1▸e
   simp only[e,this,ne_eq,not_true_eq_false,decide_false]
   exact ih
  ·have:¬ q.1=k:=fun z=>e (r1.1.trans z)
   simp only[e,this,ne_eq,not_false_eq_true,decide_true,if_true]
   exact .cons r1 ih
theorem KVO.length{kvs:List (κ×D)}{kvs':List (κ×V)}(h:KVO R kvs kvs'):kvs'.length=kvs.length:=All2.length h
end
noncomputable def keyD:D->Option Key
 | .int i=>some (.inl i)
 | .str x=>some (.inr x)
 | _=>none
noncomputable def keysD:D->Option (List Key)
 | .tup ds=>optAll keyD ds
 | _=>none
section
variable{X:Cx}{κ:Str->Addr->Prop}{Φ:Phi}{α α' α0 α1:List Addr}{Z Z' Z0 Z1:Addr->Prop}{Ω Ω':Sto}{H H' H0 H1:Hp}{ρ:OEnv}{σ:L2.St}{Q Q':VK}{r:OutO D}{a b e:Expr}{es:List Expr}{ma mb mc m:EM}{as:AM}{pos:Pos}
theorem keyD_rep{d:D}{k:Key}{v:V}(h:keyD d=some k)(r:RepO α Z H d v):v=kV k:=by
 cases d with
 | int i=>cases h;simp only[RepO]at r;exact r
 | str i=>cases h;simp only[RepO]at r;exact r
 | _=>cases h
theorem keys_rep:∀ {ds:List D} {ks:List Key} {vs:List V},optAll keyD ds=some ks->All2 (RepO α Z H) ds vs->vs=ks.map kV
 | [],ks,vs,h,r=>by cases h;rw[r.nil_inv];rfl
 | d::ds,ks,vs,h,r=>by
  simp only[optAll]at h
  split at h
  ·rename_i y ys h1 h2
   cases h
   obtain⟨v,vs',rfl,r1,r2⟩:=r.cons_inv
   rw[keyD_rep h1 r1,keys_rep h2 r2];rfl
  ·cases h
theorem keysD_rep{d:D}{ks:List Key}{v:V}(h:keysD d=some ks)(r:RepO α Z H d v):∃ b,v=.ref b/\H b=some (.tup (ks.map kV)):=by
 cases d with
 | tup ds=>
  obtain⟨b,vs,rfl,_,h1,h2⟩:=tup_use r
  rw[keys_rep h h2]at h1
  exact⟨b,rfl,h1⟩
 | _=>cases h
noncomputable def getO(Ω:Sto)(x y:D):Option (Option D):=match x with
 | .ref k=>match Ω[k]? with
  | some (.dK kvs)=>(keyD y).map (valG kvs)
  | some (.dT kvs)=>(keysD y).map (valG kvs)
  | _=>none
 | _=>none
theorem getO_use{x y:D}{v w:V}{o:Option D}(S:StO κ α Z Ω H)(rx:RepO α Z H x v)(ry:RepO α Z H y w)(h:getO Ω x y=some o):∃ a o',v=.ref a/\DGet H a w o'/\(∀ d,o=some d->∃ u,o'=some u/\RepO α Z H d u)/\(o=none->o'=none):=by
 cases x with
 | ref k=>
  simp only[getO]at h
  simp only[RepO]at rx
  obtain⟨a,ha,rfl⟩:=rx
  split at h
  ·rename_i kvs hk
   obtain⟨ky,h1,rfl⟩:=Option.map_eq_some_iff.mp h
   obtain⟨a',ha',kvs',h2,h3⟩:=S.cell hk
   rw[ha]at ha';cases ha'
   obtain rfl:=keyD_rep h1 ry
   obtain⟨q1,q2⟩:=h3.val ky
   exact⟨a,_,rfl,DGet.k h2,q1,q2⟩
  ·rename_i kvs hk
   obtain⟨ky,h1,rfl⟩:=Option.map_eq_some_iff.mp h
   obtain⟨a',ha',kvs',h2,h3⟩:=S.cell hk
   rw[ha]at ha';cases ha'
   obtain⟨b,rfl,hb⟩:=keysD_rep h1 ry
   obtain⟨q1,q2⟩:=h3.val ky
   exact⟨a,_,rfl,DGet.t h2 hb,q1,q2⟩
  ·cases h
 | _=>cases h
noncomputable def cmpV(op:CmpOp):D->D->Sto->OutO D:=via2 fun x y=>do let r ← cmpD op x y;Out.ok (false,D.bl r)
noncomputable def inDO(neg:Bool)(y x:D)(Ω:Sto):OutO D:=match getO Ω x y with
 | some o=>.ok (.bl (if neg then !o.isSome else o.isSome)) Ω
 | none=>.bad
noncomputable def isNO(neg:Bool)(x y:D)(Ω:Sto):OutO D:=match x,y with
 | .ref _,.non=>.ok (.bl neg) Ω
 | _,_=>.bad
noncomputable def cmpO(op:CmpOp):D->D->Sto->OutO D:=match op with
 | .In=>alt2 (cmpV .In) (inDO false)
 | .NotIn=>alt2 (cmpV .NotIn) (inDO true)
 | .Is=>alt2 (isNO false) (cmpV .Is)
 | .IsNot=>alt2 (isNO true) (cmpV .IsNot)
 | op=>cmpV op
theorem isSome_rel{o:Option D}{o':Option V}{R:D->V->Prop}(h1:∀ d,o=some d->∃ u,o'=some u/\R d u)(h2:o=none->o'=none):o'.isSome=o.isSome:=by
 cases o with
 | none=>rw[h2 rfl];rfl
 | some d=>obtain⟨u,e,_⟩:=h1 d rfl;rw[e];rfl
theorem pto_two{f:D->D->Sto->OutO D}{r:R2}(h:∀ ta tb,PE X a ta->PE X b tb->PT X e (tTest (tOp r ta tb)))(ha:PEo X κ Φ a ma)(hb:PEo X κ Φ b mb)(hbl:∀ x y Ω d Ω',f x y Ω=.ok d Ω'->∃ t,d=.bl t)
  (hr:∀ dx dy x y α Z Ω H Q,StO κ α Z Ω H->RepO α Z H dx x->RepO α Z H dy y->GoO κ Φ α Z H (f dx dy Ω) Q->r x y H Q):PTo X κ Φ e (m2 f ma mb):=by
 intro α0 Z0 H0 ρ Ω
 rcases q:ma ρ Ω with ⟨d,Ω1⟩ | ⟨x,Ω1⟩ | _
 ·refine PT.imp (h _ _ (ha α0 Z0 H0 ρ Ω) (hb α0 Z0 H0 ρ Ω1)) ?_
  rintro σ H Q ⟨α,Z,S,g⟩
  refine⟨α,Z,S,?_⟩
  simp only[m2,q,OutO.bind]at g ⊢
  intro v H1 α1 Z1 g1 s1 r1
  refine⟨α1,Z1,S.grow g1 s1,?_⟩
  have g:=GoB.from g1 g
  rcases q2:mb ρ Ω1 with ⟨d2,Ω2⟩ | ⟨x,Ω2⟩ | _
  ·rw[q2]at g
   intro w H2 α2 Z2 g2 s2 r2
   refine hr d d2 v w α2 Z2 Ω2 H2 _ s2 (s1.repG g2 r1) r2 ?_
   have g:=GoB.from g2 g
   dsimp only[OutO.bind]at g
   rcases q3:f d d2 Ω2 with ⟨d3,Ω3⟩ | ⟨x,Ω3⟩ | _
   ·rw[q3]at g
    obtain⟨t,rfl⟩:=hbl _ _ _ _ _ q3
    intro u H3 α3 Z3 g3 s3 r3
    simp only[RepO]at r3
    exact⟨t,r3,g H3 α3 Z3 g3 s3⟩
   ·rw[q3]at g;exact g
   ·rw[q3]at g;exact g
  ·rw[q2]at g;exact g
  ·rw[q2]at g;exact g
 ·refine PT.imp (h _ _ (ha α0 Z0 H0 ρ Ω) (hb α0 Z0 H0 ρ Ω)) ?_
  rintro σ H Q ⟨α,Z,S,g⟩
  refine⟨α,Z,S,?_⟩
  simp only[m2,q,OutO.bind,tstO]at g ⊢
  exact g
 ·refine PT.imp (h _ _ (ha α0 Z0 H0 ρ Ω) (hb α0 Z0 H0 ρ Ω)) ?_
  rintro σ H Q ⟨α,Z,S,g⟩
  simp only[m2,q,OutO.bind,tstO]at g
  exact g.elim
noncomputable def rDIn(neg:Bool):R2:=fun y x H Q=>∃ a o,x=.ref a/\DGet H a y o/\Q (.bl (if neg then !o.isSome else o.isSome)) H
theorem op_din(hu:X.A.units + 1 < cLine):OpR X (compareOp .In) (rDIn false):=by
 intro pins s σ H x y u v Q I rx ry h
 obtain⟨a,o,rfl,g,q⟩:=h
 obtain rfl:v=Value.ref a:=ry
 exact d_in hu I g rx fun s3 I3=>⟨.bl o.isSome,H,I3,rfl,q⟩
theorem op_dnotin(hu:X.A.units + 1 < cLine):OpR X (compareOp .NotIn) (rDIn true):=by
 intro pins s σ H x y u v Q I rx ry h
 obtain⟨a,o,rfl,g,q⟩:=h
 obtain rfl:v=Value.ref a:=ry
 exact d_notIn hu I g rx fun s3 I3=>⟨.bl (!o.isSome),H,I3,rfl,q⟩
theorem cmpV_r{op:CmpOp}{dx dy:D}{x y:V}(S:StO κ α Z Ω H)(rx:RepO α Z H dx x)(ry:RepO α Z H dy y)(g:GoO κ Φ α Z H (cmpV op dx dy Ω) Q):rCmp op x y H Q:=by
 obtain⟨d,e,own,d',n1,n2,e1,k⟩:=via2_use (bw:=false) S rx ry g
 exact cmp_ok (bw:=false) n1 n2 (zal_dom S) e1 k
theorem inDO_r{neg:Bool}{dx dy:D}{x y:V}(S:StO κ α Z Ω H)(rx:RepO α Z H dx x)(ry:RepO α Z H dy y)(g:GoO κ Φ α Z H (inDO neg dx dy Ω) Q):rDIn neg x y H Q:=by
 unfold inDO at g
 split at g
 ·rename_i o ho
  obtain⟨a,o',rfl,h1,h2,h3⟩:=getO_use S ry rx ho
  refine⟨a,o',rfl,h1,?_⟩
  rw[isSome_rel h2 h3]
  exact GoO.ret S (repO_flat rfl) g
 ·exact g.elim
theorem isNO_r{neg:Bool}{op:CmpOp}(hop:op=if neg then .IsNot else .Is){dx dy:D}{x y:V}(S:StO κ α Z Ω H)(rx:RepO α Z H dx x)(ry:RepO α Z H dy y)(g:GoO κ Φ α Z H (isNO neg dx dy Ω) Q) :
  (if neg then (y=.non/\Q (.bl (!decide (x=.non))) H) else (y=.non/\Q (.bl (decide (x=.non))) H)):=by
 unfold isNO at g
 split at g
 ·simp only[RepO]at rx ry
  obtain⟨a,_,rfl⟩:=rx
  have:=GoO.ret S (repO_flat (d:=.bl neg) rfl) g
  cases neg
  ·exact⟨ry,this⟩
  ·exact⟨ry,this⟩
 ·exact g.elim
theorem cmpV_bl{op:CmpOp}:∀ x y Ω d Ω',cmpV op x y Ω=.ok d Ω'->∃ t,d=.bl t:=fun x y Ω d Ω' h=>by
 unfold cmpV via2 at h
 split at h
 ·rename_i dx dy _ _
  dsimp only at h
  cases q:cmpD op dx dy with
  | ok t=>
   have e:(do let r ← cmpD op dx dy;Out.ok (false,D.bl r))=Out.ok (false,D.bl t):=by rw[q];rfl
   rw[e]at h
   simp only[outO,flatB,if_true]at h
   cases h
   exact⟨_,rfl⟩
  | exc c fs=>
   have e:(do let r ← cmpD op dx dy;Out.ok (false,D.bl r))=Out.exc c fs:=by rw[q];rfl
   rw[e]at h;cases h
  | bad=>
   have e:(do let r ← cmpD op dx dy;Out.ok (false,D.bl r))=Out.bad:=by rw[q];rfl
   rw[e]at h;cases h
 ·cases h
theorem inDO_bl{neg:Bool}:∀ x y Ω d Ω',inDO neg x y Ω=.ok d Ω'->∃ t,d=.bl t:=fun x y Ω d Ω' h=>by
 unfold inDO at h
 split at h
 ·cases h;exact⟨_,rfl⟩
 ·cases h
theorem isNO_bl{neg:Bool}:∀ x y Ω d Ω',isNO neg x y Ω=.ok d Ω'->∃ t,d=.bl t:=fun x y Ω d Ω' h=>by
 unfold isNO at h
 split at h
 ·cases h;exact⟨_,rfl⟩
 ·cases h
theorem peo_cmp{op:CmpOp}(hu:X.A.units + 64 < cLine)(hm:behindInMarks op b=false)(ha:PEo X κ Φ a ma)(hb:PEo X κ Φ b mb):PEo X κ Φ (.Compare a [op] [b] pos) (m2 (cmpO op) ma mb)/\PTo X κ Φ (.Compare a [op] [b] pos) (m2 (cmpO op) ma mb):=by
 have E:PEo X κ Φ (.Compare a [op] [b] pos) (m2 (cmpV op) ma mb):=peo_two (fun ta tb pa pb=>pe_cmpR (op_cmp hu op) pa pb hm) ha hb fun dx dy x y α Z Ω H Q S rx ry g=>cmpV_r S rx ry g
 have T:PTo X κ Φ (.Compare a [op] [b] pos) (m2 (cmpV op) ma mb):=pto_two (fun ta tb pa pb=>pt_cmpR (op_cmp hu op) pa pb hm) ha hb cmpV_bl fun dx dy x y α Z Ω H Q S rx ry g=>cmpV_r S rx ry g
 have hu1:X.A.units + 1 < cLine:=by omega
 cases op with
 | In=>
  have E2:PEo X κ Φ (.Compare a [.In] [b] pos) (m2 (inDO false) ma mb):=peo_two (fun ta tb pa pb=>pe_cmpR (op_din hu1) pa pb hm) ha hb fun dx dy x y α Z Ω H Q S rx ry g=>inDO_r S rx ry g
  have T2:PTo X κ Φ (.Compare a [.In] [b] pos) (m2 (inDO false) ma mb):=pto_two (fun ta tb pa pb=>pt_cmpR (op_din hu1) pa pb hm) ha hb inDO_bl fun dx dy x y α Z Ω H Q S rx ry g=>inDO_r S rx ry g
  show PEo X κ Φ _ (m2 (alt2 (cmpV .In) (inDO false)) ma mb)/\PTo X κ Φ _ (m2 (alt2 (cmpV .In) (inDO false)) ma mb)
  rw[m2_alt];exact⟨E.alt E2,T.alt T2⟩
 | NotIn=>
  have E2:PEo X κ Φ (.Compare a [.NotIn] [b] pos) (m2 (inDO true) ma mb):=peo_two (fun ta tb pa pb=>pe_cmpR (op_dnotin hu1) pa pb hm) ha hb fun dx dy x y α Z Ω H Q S rx ry g=>inDO_r S rx ry g
  have T2:PTo X κ Φ (.Compare a [.NotIn] [b] pos) (m2 (inDO true) ma mb):=pto_two (fun ta tb pa pb=>pt_cmpR (op_dnotin hu1) pa pb hm) ha hb inDO_bl fun dx dy x y α Z Ω H Q S rx ry g=>inDO_r S rx ry g
  show PEo X κ Φ _ (m2 (alt2 (cmpV .NotIn) (inDO true)) ma mb)/\PTo X κ Φ _ (m2 (alt2 (cmpV .NotIn) (inDO true)) ma mb)
  rw[m2_alt];exact⟨E.alt E2,T.alt T2⟩
 | Is=>
  have E2:PEo X κ Φ (.Compare a [.Is] [b] pos) (m2 (isNO false) ma mb):=peo_two (fun ta tb pa pb=>pe_cmpR op_isN pa pb hm) ha hb fun dx dy x y α Z Ω H Q S rx ry g=>isNO_r (neg:=false) (op:=.Is) rfl S rx ry g
  have T2:PTo X κ Φ (.Compare a [.Is] [b] pos) (m2 (isNO false) ma mb):=pto_two (fun ta tb pa pb=>pt_cmpR op_isN pa pb hm) ha hb isNO_bl fun dx dy x y α Z Ω H Q S rx ry g=>isNO_r (neg:=false) (op:=.Is) rfl S rx ry g
  show PEo X κ Φ _ (m2 (alt2 (isNO false) (cmpV .Is)) ma mb)/\PTo X κ Φ _ (m2 (alt2 (isNO false) (cmpV .Is)) ma mb)
  rw[m2_alt];exact⟨E2.alt E,T2.alt T⟩
 | IsNot=>
  have E2:PEo X κ Φ (.Compare a [.IsNot] [b] pos) (m2 (isNO true) ma mb):=peo_two (fun ta tb pa pb=>pe_cmpR op_notN pa pb hm) ha hb fun dx dy x y α Z Ω H Q S rx ry g=>isNO_r (neg:=true) (op:=.IsNot) rfl S rx ry g
  have T2:PTo X κ Φ (.Compare a [.IsNot] [b] pos) (m2 (isNO true) ma mb):=pto_two (fun ta tb pa pb=>pt_cmpR op_notN pa pb hm) ha hb isNO_bl fun dx dy x y α Z Ω H Q S rx ry g=>isNO_r (neg:=true) (op:=.IsNot) rfl S rx ry g
  show PEo X κ Φ _ (m2 (alt2 (isNO true) (cmpV .IsNot)) ma mb)/\PTo X κ Φ _ (m2 (alt2 (isNO true) (cmpV .IsNot)) ma mb)
  rw[m2_alt];exact⟨E2.alt E,T2.alt T⟩
 | Eq=>exact⟨E,T⟩
 | NotEq=>exact⟨E,T⟩
 | Lt=>exact⟨E,T⟩
 | LtE=>exact⟨E,T⟩
 | Gt=>exact⟨E,T⟩
 | GtE=>exact⟨E,T⟩
noncomputable def seqO(Ω:Sto)(x:D):Option (List D):=match x with
 | .tup ds=>some ds
 | x=>lstO Ω x
noncomputable def idxS(x y:D)(Ω:Sto):OutO D:=match seqO Ω x,y with
 | some ds,.int i=>match L2.atI ds i with
  | some d=>.ok d Ω
  | none=>.bad
 | _,_=>.bad
noncomputable def idxK(x y:D)(Ω:Sto):OutO D:=match getO Ω x y with
 | some (some d)=>.ok d Ω
 | _=>.bad
noncomputable def idxO:D->D->Sto->OutO D:=alt2 idxS (alt2 idxK (via2 idxD))
theorem seqO_use{x:D}{v:V}{ds:List D}{K:PySem.W.Frag}(S:StO κ α Z Ω H)(r:RepO α Z H x v)(h:seqO Ω x=some ds):∃ a vs,v=.ref a/\(SqL K H a vs\/SqT K H a vs)/\All2 (RepO α Z H) ds vs:=by
 unfold seqO at h
 split at h
 ·cases h
  obtain⟨a,vs,rfl,_,h1,h2⟩:=tup_use r
  exact⟨a,vs,rfl,.inr (sqT (.inl h1)),h2⟩
 ·obtain⟨a,vs,rfl,h1,h2⟩:=lstO_use S r h
  exact⟨a,vs,rfl,.inl (sqL h1),h2⟩
theorem atI_rel{ds:List D}{vs:List V}{R:D->V->Prop}{i:Int}{d:D}(r:All2 R ds vs)(h:L2.atI ds i=some d):∃ v,L2.atI vs i=some v/\R d v:=by
 unfold L2.atI at h ⊢
 rw[r.length]
 cases q:L2.ixN ds.length i with
 | none=>rw[q]at h;cases h
 | some n=>rw[q]at h;exact r.get h
theorem peo_idx(hu:X.A.units + 1 < cLine)(hs:PlainIx b)(ha:PEo X κ Φ a ma)(hb:PEo X κ Φ b mb):PEo X κ Φ (.Subscript a b pos) (m2 idxO ma mb):=by
 unfold idxO
 rw[m2_alt,m2_alt]
 refine PEo.alt ?_ (PEo.alt ?_ ?_)
 ·refine peo_two (r:=rIx X.K) (fun ta tb pa pb=>pe_ix ix_seq pa pb hs) ha hb fun dx dy x y α Z Ω H Q S rx ry g => ?_
  unfold idxS at g
  split at g
  ·rename_i ds i h1
   obtain⟨p,vs,rfl,h2,h3⟩:=seqO_use (K:=X.K) S rx h1
   simp only[RepO]at ry
   subst ry
   split at g
   ·rename_i d hd
    obtain⟨v,h4,h5⟩:=atI_rel h3 hd
    rcases h2 with h2 | h2
    ·exact .inl ⟨p,vs,i,v,rfl,rfl,h2,h4,GoO.ret S h5 g⟩
    ·exact .inr (.inl ⟨p,vs,i,v,rfl,rfl,h2,h4,GoO.ret S h5 g⟩)
   ·exact g.elim
  ·exact g.elim
 ·refine peo_two (r:=fun x y H Q=>∃ a v,x=.ref a/\DGet H a y (some v)/\Q v H) (fun ta tb pa pb=>pe_dget hu pa pb hs) ha hb fun dx dy x y α Z Ω H Q S rx ry g => ?_
  unfold idxK at g
  split at g
  ·rename_i d hd
   obtain⟨a,o',rfl,h1,h2,_⟩:=getO_use S rx ry hd
   obtain⟨u,rfl,h3⟩:=h2 d rfl
   exact⟨a,u,rfl,h1,GoO.ret S h3 g⟩
  ·exact g.elim
 ·refine peo_two (r:=rIx X.K) (fun ta tb pa pb=>pe_ix ix_seq pa pb hs) ha hb fun dx dy x y α Z Ω H Q S rx ry g => ?_
  obtain⟨d,e,own,d',n1,n2,e1,k⟩:=via2_use (bw:=false) S rx ry g
  exact idx_ok (bw:=false) n1 n2 (zal_dom S) e1 k
noncomputable def mPart(n:Bool)(m:EM):OEnv->Sto->OutO (Option Int):=fun ρ Ω=>if n=true then .ok none Ω else (m ρ Ω).bind fun d Ω1=>match d with
 | .int i=>.ok (some i) Ω1
 | _=>.bad
noncomputable def slcO(x:D)(lo hi:Option Int)(Ω:Sto):OutO D:=match x,lstO Ω x with
 | _,some ds=>newC Ω (.lst (cutL ds lo hi))
 | .str z,none=>outO Ω (slcD (.str z) lo hi)
 | .tup ds,none=>.ok (.tup (cutL ds lo hi)) Ω
 | _,_=>.bad
noncomputable def mSlc(ma:EM)(nl:Bool)(ml:EM)(nh:Bool)(mh:EM):EM:=fun ρ Ω=>(ma ρ Ω).bind fun x Ω1=>(mPart nl ml ρ Ω1).bind fun l Ω2=>(mPart nh mh ρ Ω2).bind fun h Ω3=>slcO x l h Ω3
noncomputable def POo(X:Cx)(κ:Str->Addr->Prop)(Φ:Phi)(o:Option Expr)(n:Bool)(m:EM):Prop:=(o=none/\n=true)\/∃ e,o=some e/\n=false/\PEo X κ Φ e m
theorem partO_ok{o:Option Expr}{n:Bool}(h:POo X κ Φ o n m)(α0:List Addr)(Z0:Addr->Prop)(H0:Hp)(ρ:OEnv)(Ω:Sto):∃ t,PO X o t/\∀ σ H α Z Q,SimO κ α0 Z0 H0 α Z Ω ρ σ H ->
  (match mPart n m ρ Ω with
   | .ok l Ω1=>∀ H' α' Z',GrO α Z H α' Z' H'->StO κ α' Z' Ω1 H'->Q l H'
   | .exc x Ω1=>∀ H' α' Z',GrO α Z H α' Z' H'->StO κ α' Z' Ω1 H'->Φ x Ω1 α' Z' H'
   | .bad=>False)->t σ H Q:=by
 rcases h with ⟨rfl,rfl⟩ | ⟨e,rfl,rfl,he⟩
 ·refine⟨tNoPart,po_none,fun σ H α Z Q S k => ?_⟩
  exact k H α Z (GrO.refl S.st.has) S.st
 ·refine⟨_,po_some (he α0 Z0 H0 ρ Ω),fun σ H α Z Q S k=>⟨α,Z,S,?_⟩⟩
  simp only[mPart,Bool.false_eq_true,if_false]at k
  rcases q:m ρ Ω with ⟨d,Ω1⟩ | ⟨x,Ω1⟩ | _
  ·rw[q]at k
   intro v H1 α1 Z1 g1 s1 r1
   cases d with
   | int i=>simp only[RepO]at r1;exact⟨i,r1,k H1 α1 Z1 g1 s1⟩
   | _=>exact k.elim
  ·rw[q]at k;exact k
  ·rw[q]at k;exact k
theorem cut_rel{ds:List D}{vs:List V}{R:D->V->Prop}(h:All2 R ds vs)(lo hi:Option Int):All2 R (cutL ds lo hi) (cutV vs lo hi):=by
 unfold cutL cutV
 rw[h.length]
 exact(h.drop _).take _
theorem cut_whole{ds:List D}{n:Nat}{l h:Option Int}(hn:n=ds.length)(h1:HT.sIx n 0 l=0)(h2:HT.sIx n n h=n):cutL ds l h=ds:=by
 subst hn
 unfold cutL
 rw[h1,h2,List.drop_zero,Nat.sub_zero,List.take_length]
noncomputable def rSl3(K:PySem.W.Frag):V->Option Int->Option Int->Hp->VK->Prop:=fun x lo hi H Q=>rSl K x lo hi H Q\/(rSlT K x lo hi H Q\/rSlW K x lo hi H Q)
theorem peo_slc{lo hi:Option Expr}{nl nh:Bool}{ml mh:EM}{p2:Pos}(ha:PEo X κ Φ a ma)(hl:POo X κ Φ lo nl ml)(hh:POo X κ Φ hi nh mh):PEo X κ Φ (.Subscript a (.Slice lo hi none p2) pos) (mSlc ma nl ml nh mh):=by
 intro α0 Z0 H0 ρ Ω
 rcases q:ma ρ Ω with ⟨d,Ω1⟩ | ⟨x,Ω1⟩ | _
 ·obtain⟨tl,pl,kl⟩:=partO_ok hl α0 Z0 H0 ρ Ω1
  rcases q2:mPart nl ml ρ Ω1 with ⟨l,Ω2⟩ | ⟨x,Ω2⟩ | _
  ·obtain⟨th,ph,kh⟩:=partO_ok hh α0 Z0 H0 ρ Ω2
   refine PE.imp (pe_slice (r:=rSl3 X.K) ((sl_list.or sl_str).or (sl_tup.or sl_tupW)) (ha α0 Z0 H0 ρ Ω) pl ph) ?_
   rintro σ H Q ⟨α,Z,S,g⟩
   refine⟨α,Z,S,?_⟩
   simp only[mSlc,q,q2,OutO.bind]at g ⊢
   intro v H1 α1 Z1 g1 s1 r1
   have g:=GoO.from g1 g
   have S1:=S.grow g1 s1
   refine kl σ H1 α1 Z1 _ S1 ?_
   rw[q2]
   intro H2 α2 Z2 g2 s2
   have g:=GoO.from g2 g
   have S2:=S1.grow g2 s2
   refine kh σ H2 α2 Z2 _ S2 ?_
   rcases q3:mPart nh mh ρ Ω2 with ⟨h,Ω3⟩ | ⟨x,Ω3⟩ | _
   ·rw[q3]at g
    intro H3 α3 Z3 g3 s3
    have g:=GoO.from g3 g
    have r3:=s2.repG g3 (s1.repG g2 r1)
    dsimp only[OutO.bind]at g
    unfold slcO at g
    split at g
    ·rename_i ds hd
     obtain⟨p,vs,rfl,h1,h2⟩:=lstO_use s3 r3 hd
     exact .inl (.inl ⟨p,vs,rfl,sqL h1,new_lstO s3 (cut_rel h2 l h) g⟩)
    ·
     simp only[RepO]at r3
     subst r3
     obtain⟨own,d,e1,k⟩:=outO_use (bw:=false) s3 g
     simp only[slcD]at e1
     split at e1
     ·rename_i hs
      cases e1
      exact .inl (.inr ⟨_,rfl,small_iff hs,k _ H3 _ _ (Grow.refl s3.dom) (.rep (flat_rep rfl))⟩)
     ·cases e1
    ·simp only[RepO]at r3
     obtain⟨p,vs,rfl,z1,h1,h2⟩:=r3
     have h2:=repOs_iff.mp h2
     by_cases hw:HT.sIx vs.length 0 l=0/\HT.sIx vs.length vs.length h=vs.length
     ·refine .inr (.inr ⟨p,vs,rfl,SqT.of h1,hw.1,hw.2,GoO.ret s3 ?_ g⟩)
      rw[cut_whole h2.length hw.1 hw.2]
      simp only[RepO]
      exact⟨p,vs,rfl,z1,h1,repOs_iff.mpr h2⟩
     ·exact .inr (.inl ⟨p,vs,rfl,SqT.of h1,hw,new_tupO s3 (cut_rel h2 l h) g⟩)
    ·exact g.elim
   ·rw[q3]at g;exact g
   ·rw[q3]at g;exact g
  ·obtain⟨th,ph,kh⟩:=partO_ok hh α0 Z0 H0 ρ Ω1
   refine PE.imp (pe_slice (r:=rSl3 X.K) ((sl_list.or sl_str).or (sl_tup.or sl_tupW)) (ha α0 Z0 H0 ρ Ω) pl ph) ?_
   rintro σ H Q ⟨α,Z,S,g⟩
   refine⟨α,Z,S,?_⟩
   simp only[mSlc,q,q2,OutO.bind]at g ⊢
   intro v H1 α1 Z1 g1 s1 r1
   refine kl σ H1 α1 Z1 _ (S.grow g1 s1) ?_
   rw[q2]
   intro H2 α2 Z2 g2 s2
   exact g H2 α2 Z2 (g1.trans g2) s2
  ·obtain⟨th,ph,kh⟩:=partO_ok hh α0 Z0 H0 ρ Ω1
   refine PE.imp (pe_slice (r:=rSl3 X.K) ((sl_list.or sl_str).or (sl_tup.or sl_tupW)) (ha α0 Z0 H0 ρ Ω) pl ph) ?_
   rintro σ H Q ⟨α,Z,S,g⟩
   simp only[mSlc,q,q2,OutO.bind]at g
   exact g.elim
 ·obtain⟨tl,pl,kl⟩:=partO_ok hl α0 Z0 H0 ρ Ω
  obtain⟨th,ph,kh⟩:=partO_ok hh α0 Z0 H0 ρ Ω
  refine PE.imp (pe_slice (r:=rSl3 X.K) ((sl_list.or sl_str).or (sl_tup.or sl_tupW)) (ha α0 Z0 H0 ρ Ω) pl ph) ?_
  rintro σ H Q ⟨α,Z,S,g⟩
  refine⟨α,Z,S,?_⟩
  simp only[mSlc,q,OutO.bind]at g ⊢
  exact g
 ·obtain⟨tl,pl,kl⟩:=partO_ok hl α0 Z0 H0 ρ Ω
  obtain⟨th,ph,kh⟩:=partO_ok hh α0 Z0 H0 ρ Ω
  refine PE.imp (pe_slice (r:=rSl3 X.K) ((sl_list.or sl_str).or (sl_tup.or sl_tupW)) (ha α0 Z0 H0 ρ Ω) pl ph) ?_
  rintro σ H Q ⟨α,Z,S,g⟩
  simp only[mSlc,q,OutO.bind]at g
  exact g.elim
end
end Mir
namespace Mir
open PySem PySem.Spec PyProof.Rows L2
variable [CloTab]
theorem PE.ex{X:Cx}{e:Expr}{ι:Type}{t:ι->TE}(h:∀ i,PE X e (t i)):PE X e (fun σ H Q=>∃ i,t i σ H Q):=fun pins s σ H Q I ⟨i,q⟩=>h i pins s σ H Q I q
theorem PT.ex{X:Cx}{e:Expr}{ι:Type}{t:ι->TT}(h:∀ i,PT X e (t i)):PT X e (fun σ H Q=>∃ i,t i σ H Q):=fun pins s σ H Q I ⟨i,q⟩=>h i pins s σ H Q I q
theorem PW.ex{X:Cx}{e:Expr}{ι:Type}{t:ι->TT}(h:∀ i,PW X e (t i)):PW X e (fun σ H Q=>∃ i,t i σ H Q):=fun wh pins s σ H Q I ⟨i,q⟩=>h i wh pins s σ H Q I q
theorem PA.ex{X:Cx}{es:List Expr}{ι:Type}{t:ι->TA}(h:∀ i,PA X es (t i)):PA X es (fun σ H Q=>∃ i,t i σ H Q):=fun pos pins s σ H Q I ⟨i,q⟩=>h i pos pins s σ H Q I q
noncomputable def mAnd(ma mb:EM):EM:=fun ρ Ω=>(ma ρ Ω).bind fun x Ω1=>match truO Ω1 x with
 | some true=>mb ρ Ω1
 | some false=>.ok x Ω1
 | none=>.bad
noncomputable def mOr(ma mb:EM):EM:=fun ρ Ω=>(ma ρ Ω).bind fun x Ω1=>match truO Ω1 x with
 | some false=>mb ρ Ω1
 | some true=>.ok x Ω1
 | none=>.bad
noncomputable def mNot(ma:EM):EM:=fun ρ Ω=>(tstO (ma ρ Ω)).bind fun t Ω1=>.ok (.bl (!t)) Ω1
noncomputable def mIf(mc ma mb:EM):EM:=fun ρ Ω=>(tstO (mc ρ Ω)).bind fun t Ω1=>if t=true then ma ρ Ω1 else mb ρ Ω1
section
variable{X:Cx}{κ:Str->Addr->Prop}{Φ:Phi}{α α' α0 α1:List Addr}{Z Z' Z0 Z1:Addr->Prop}{Ω Ω':Sto}{H H' H0 H1:Hp}{ρ:OEnv}{σ:L2.St}{Q Q':VK}{r:OutO D}{a b e ce:Expr}{rest:List Expr}{es:List Expr}{ma mb mc m:EM}{as:AM}{pos p:Pos}
theorem truO_use{d:D}{v:V}{t:Bool}{K:PySem.W.Frag}(S:StO κ α Z Ω H)(r:RepO α Z H d v)(h:truO Ω d=some t):TruV K v H t:=by
 cases d with
 | non=>simp only[RepO]at r;subst r;cases h;rfl
 | bl b=>simp only[RepO]at r;subst r;cases h;rfl
 | int b=>simp only[RepO]at r;subst r;cases h;rfl
 | str b=>
  simp only[RepO]at r;subst r
  have n:Now Z H (.str b) (.str b):=by simp only[Now,Rep]
  exact tru_of n h
 | lst ds=>
  cases h
  obtain⟨a,vs,rfl,h1,h2⟩:=lstO_use (ds:=ds) S r rfl
  refine .inl ⟨vs,sqL h1,?_⟩
  have:=h2.length
  cases ds<;>cases vs<;>simp at this ⊢
 | tup ds=>
  cases h
  obtain⟨a,vs,rfl,_,h1,h2⟩:=tup_use r
  refine .inr (.inl ⟨vs,sqT (.inl h1),?_⟩)
  have:=h2.length
  cases ds<;>cases vs<;>simp at this ⊢
 | dct _ _=>cases h
 | ref k=>
  simp only[truO]at h
  split at h
  ·rename_i ds hk
   cases h
   obtain⟨a,vs,rfl,h1,h2⟩:=lstO_use (ds:=ds) S r (by simp only[lstO,hk])
   refine .inl ⟨vs,sqL h1,?_⟩
   have:=h2.length
   cases ds<;>cases vs<;>simp at this ⊢
  ·rename_i kvs hk
   cases h
   simp only[RepO]at r
   obtain⟨a,ha,rfl⟩:=r
   obtain⟨a',ha',kvs',h1,h2⟩:=S.cell hk
   rw[ha]at ha';cases ha'
   refine .inr (.inr ⟨kvs',h1,?_⟩)
   have:=h2.length
   cases kvs<;>cases kvs'<;>simp at this ⊢
  ·cases h
theorem GoB.use{r:OutO Bool}{f:Bool->Sto->OutO D}{Q':Bool->Hp->Prop}(h:GoO κ Φ α Z H (r.bind f) Q)(k:∀ t Ω1,r=.ok t Ω1->∀ H1 α1 Z1,GrO α Z H α1 Z1 H1->StO κ α1 Z1 Ω1 H1->GoO κ Φ α1 Z1 H1 (f t Ω1) Q->Q' t H1):GoB κ Φ α Z H r Q':=by
 cases r with
 | ok d Ω1=>exact fun H1 α1 Z1 g s=>k d Ω1 rfl H1 α1 Z1 g s (GoO.from g h)
 | exc x Ω1=>exact h
 | bad=>exact h
theorem GoB.tst{Q:Bool->Hp->Prop}{K:PySem.W.Frag}(h:GoB κ Φ α Z H (tstO r) Q):GoO κ Φ α Z H r (fun v H1=>∃ t,TruV K v H1 t/\Q t H1):=by
 cases r with
 | ok d Ω1=>
  intro v H1 α1 Z1 g s q
  simp only[tstO]at h
  split at h
  ·rename_i t ht
   exact⟨t,truO_use s q ht,h H1 α1 Z1 g s⟩
  ·exact h.elim
 | exc x Ω1=>exact h
 | bad=>exact h.elim
theorem pto_val(h:PEo X κ Φ e m)(he:∀ whole,isTrue e X.env whole=(do let v ← whole;standAt e.pos;holding [v] (truthy v))):PTo X κ Φ e m:=by
 intro α0 Z0 H0 ρ Ω
 refine PT.imp (pt_truth (h α0 Z0 H0 ρ Ω) he) ?_
 rintro σ H Q ⟨α,Z,S,g⟩
 exact⟨α,Z,S,g.tst⟩
theorem peo_and(ha:PEo X κ Φ a ma)(hb:PEo X κ Φ (.BoolOp .And (b::rest) pos) mb):PEo X κ Φ (.BoolOp .And (a::b::rest) pos) (mAnd ma mb):=by
 intro α0 Z0 H0 ρ Ω
 refine PE.imp (pe_andG (ha α0 Z0 H0 ρ Ω) (PE.ex fun Ω1=>hb α0 Z0 H0 ρ Ω1)) ?_
 rintro σ H Q ⟨α,Z,S,g⟩
 refine⟨α,Z,S,GoO.use g fun x Ω1 _ v H1 α1 Z1 g1 s1 r1 k1 => ?_⟩
 split at k1
 ·rename_i ht
  exact⟨true,truO_use s1 r1 ht,iteT ⟨Ω1,α1,Z1,S.grow g1 s1,k1⟩⟩
 ·rename_i ht
  exact⟨false,truO_use s1 r1 ht,iteF (GoO.ret s1 r1 k1)⟩
 ·exact k1.elim
theorem peo_or(ha:PEo X κ Φ a ma)(hb:PEo X κ Φ (.BoolOp .Or (b::rest) pos) mb):PEo X κ Φ (.BoolOp .Or (a::b::rest) pos) (mOr ma mb):=by
 intro α0 Z0 H0 ρ Ω
 refine PE.imp (pe_orG (ha α0 Z0 H0 ρ Ω) (PE.ex fun Ω1=>hb α0 Z0 H0 ρ Ω1)) ?_
 rintro σ H Q ⟨α,Z,S,g⟩
 refine⟨α,Z,S,GoO.use g fun x Ω1 _ v H1 α1 Z1 g1 s1 r1 k1 => ?_⟩
 split at k1
 ·rename_i ht
  exact⟨false,truO_use s1 r1 ht,iteF ⟨Ω1,α1,Z1,S.grow g1 s1,k1⟩⟩
 ·rename_i ht
  exact⟨true,truO_use s1 r1 ht,iteT (GoO.ret s1 r1 k1)⟩
 ·exact k1.elim
theorem peo_bool1{op:BoolOp}(ha:PEo X κ Φ a ma):PEo X κ Φ (.BoolOp op [a] pos) ma:=fun α0 Z0 H0 ρ Ω=>pe_one (ha α0 Z0 H0 ρ Ω)
theorem peo_not(ha:PEo X κ Φ a ma):PEo X κ Φ (.UnaryOp .Not a pos) (mNot ma):=by
 intro α0 Z0 H0 ρ Ω
 refine PE.imp (pe_notG (ha α0 Z0 H0 ρ Ω)) ?_
 rintro σ H Q ⟨α,Z,S,g⟩
 refine⟨α,Z,S,?_⟩
 have:=GoB.use (Q':=fun t H1=>Q (.bl (!t)) H1) g fun t Ω1 _ H1 α1 Z1 g1 s1 k1=>GoO.ret s1 (repO_flat rfl) k1
 exact this.tst
theorem pto_not(ha:PTo X κ Φ a ma):PTo X κ Φ (.UnaryOp .Not a pos) (mNot ma):=by
 intro α0 Z0 H0 ρ Ω
 refine PT.imp (pt_not (ha α0 Z0 H0 ρ Ω)) ?_
 rintro σ H Q ⟨α,Z,S,g⟩
 refine⟨α,Z,S,?_⟩
 simp only[mNot]at g
 cases q:tstO (ma ρ Ω) with
 | ok t Ω1=>rw[q]at g;exact fun H' α' Z' g' s'=>g H' α' Z' g' s'
 | exc x Ω1=>rw[q]at g;exact g
 | bad=>rw[q]at g;exact g
noncomputable def PWo(X:Cx)(κ:Str->Addr->Prop)(Φ:Phi)(e:Expr)(m:EM):Prop:=∀ α0 Z0 H0 ρ Ω,PW X e (tTO κ Φ α0 Z0 H0 m ρ Ω)
theorem PWo.pt(h:PWo X κ Φ e m):PTo X κ Φ e m:=fun α0 Z0 H0 ρ Ω=>(h α0 Z0 H0 ρ Ω).pt
theorem pwo_one{op:BoolOp}(ha:PTo X κ Φ a ma):PWo X κ Φ (.BoolOp op [a] pos) ma:=fun α0 Z0 H0 ρ Ω=>by
 cases op with
 | And=>exact pw_and1 (ha α0 Z0 H0 ρ Ω)
 | Or=>exact pw_or1 (ha α0 Z0 H0 ρ Ω)
theorem pwo_and(ha:PTo X κ Φ a ma)(hb:PWo X κ Φ (.BoolOp .And (b::rest) pos) mb):PWo X κ Φ (.BoolOp .And (a::b::rest) pos) (mAnd ma mb):=by
 intro α0 Z0 H0 ρ Ω
 refine PW.imp (pw_and (ha α0 Z0 H0 ρ Ω) (PW.ex fun Ω1=>hb α0 Z0 H0 ρ Ω1)) ?_
 rintro σ H Q ⟨α,Z,S,g⟩
 refine⟨α,Z,S,?_⟩
 simp only[mAnd]at g
 cases q:ma ρ Ω with
 | ok x Ω1=>
  rw[q]at g
  dsimp only[OutO.bind]at g
  simp only[tstO]
  split at g
  ·rename_i ht
   rw[ht]
   exact fun H1 α1 Z1 g1 s1=>iteT ⟨Ω1,α1,Z1,S.grow g1 s1,GoB.from g1 g⟩
  ·rename_i ht
   rw[ht]
   simp only[tstO,ht]at g
   exact fun H1 α1 Z1 g1 s1=>iteF (g H1 α1 Z1 g1 s1)
  ·exact g.elim
 | exc x Ω1=>rw[q]at g;exact g
 | bad=>rw[q]at g;exact g.elim
theorem pwo_or(ha:PTo X κ Φ a ma)(hb:PWo X κ Φ (.BoolOp .Or (b::rest) pos) mb):PWo X κ Φ (.BoolOp .Or (a::b::rest) pos) (mOr ma mb):=by
 intro α0 Z0 H0 ρ Ω
 refine PW.imp (pw_or (ha α0 Z0 H0 ρ Ω) (PW.ex fun Ω1=>hb α0 Z0 H0 ρ Ω1)) ?_
 rintro σ H Q ⟨α,Z,S,g⟩
 refine⟨α,Z,S,?_⟩
 simp only[mOr]at g
 cases q:ma ρ Ω with
 | ok x Ω1=>
  rw[q]at g
  dsimp only[OutO.bind]at g
  simp only[tstO]
  split at g
  ·rename_i ht
   rw[ht]
   exact fun H1 α1 Z1 g1 s1=>iteF ⟨Ω1,α1,Z1,S.grow g1 s1,GoB.from g1 g⟩
  ·rename_i ht
   rw[ht]
   simp only[tstO,ht]at g
   exact fun H1 α1 Z1 g1 s1=>iteT (g H1 α1 Z1 g1 s1)
  ·exact g.elim
 | exc x Ω1=>rw[q]at g;exact g
 | bad=>rw[q]at g;exact g.elim
theorem peo_ife(hc:PTo X κ Φ ce mc)(ha:PEo X κ Φ a ma)(hb:PEo X κ Φ b mb):PEo X κ Φ (.IfExp ce a b pos) (mIf mc ma mb):=by
 intro α0 Z0 H0 ρ Ω
 refine PE.imp (pe_ifExp (hc α0 Z0 H0 ρ Ω) (PE.ex fun Ω1=>ha α0 Z0 H0 ρ Ω1) (PE.ex fun Ω1=>hb α0 Z0 H0 ρ Ω1)) ?_
 rintro σ H Q ⟨α,Z,S,g⟩
 refine⟨α,Z,S,GoB.use g fun t Ω1 _ H1 α1 Z1 g1 s1 k1 => ?_⟩
 cases t with
 | true=>rw[if_pos rfl]at k1;exact iteT ⟨Ω1,α1,Z1,S.grow g1 s1,k1⟩
 | false=>rw[if_neg Bool.false_ne_true]at k1;exact iteF ⟨Ω1,α1,Z1,S.grow g1 s1,k1⟩
theorem pto_ife(hc:PTo X κ Φ ce mc)(ha:PTo X κ Φ a ma)(hb:PTo X κ Φ b mb):PTo X κ Φ (.IfExp ce a b pos) (mIf mc ma mb):=by
 intro α0 Z0 H0 ρ Ω pins s σ H Q I
 rintro⟨α,Z,S,g⟩
 simp only[mIf]at g
 have key:tTO κ Φ α0 Z0 H0 mc ρ Ω σ H (fun t H1=>∃ Ω1 α1 Z1,SimO κ α0 Z0 H0 α1 Z1 Ω1 ρ σ H1/\GoB κ Φ α1 Z1 H1 (tstO (if t=true then ma ρ Ω1 else mb ρ Ω1)) Q):=by
  refine⟨α,Z,S,?_⟩
  cases q:tstO (mc ρ Ω) with
  | ok t Ω1=>
   rw[q]at g
   exact fun H1 α1 Z1 g1 s1=>⟨Ω1,α1,Z1,S.grow g1 s1,GoB.from g1 g⟩
  | exc x Ω1=>rw[q]at g;exact g
  | bad=>rw[q]at g;exact g.elim
 refine isTrue_IfExp (thn (hc α0 Z0 H0 ρ Ω pins s σ H _ I key) fun v s1 ⟨H1,I1,Ω1,α1,Z1,S1,k1⟩ => ?_)
 cases v with
 | true=>rw[if_pos rfl]at k1;exact ha α0 Z0 H0 ρ Ω1 pins s1 σ H1 Q I1 ⟨α1,Z1,S1,k1⟩
 | false=>rw[if_neg Bool.false_ne_true]at k1;exact hb α0 Z0 H0 ρ Ω1 pins s1 σ H1 Q I1 ⟨α1,Z1,S1,k1⟩
noncomputable def mChn(op op':CmpOp)(ma mb mc:EM):EM:=fun ρ Ω=>(ma ρ Ω).bind fun x Ω1=>(mb ρ Ω1).bind fun y Ω2=>(tstO (cmpV op x y Ω2)).bind fun t Ω3=>if t=true then (mc ρ Ω3).bind fun z Ω4=>cmpV op' y z Ω4 else .ok (.bl false) Ω3
theorem chainO{op op':CmpOp}(S:SimO κ α0 Z0 H0 α Z Ω ρ σ H)(g:GoO κ Φ α Z H (mChn op op' ma mb mc ρ Ω) Q) :
  tChain (rCmp op) (rCmp op') (tO κ Φ α0 Z0 H0 ma ρ Ω) (fun σ H Q=>∃ Ω1,tO κ Φ α0 Z0 H0 mb ρ Ω1 σ H Q) (fun σ H Q=>∃ Ω1,tO κ Φ α0 Z0 H0 mc ρ Ω1 σ H Q) σ H Q:=by
 refine⟨α,Z,S,GoO.use g fun x Ω1 _ v H1 α1 Z1 g1 s1 r1 k1 => ?_⟩
 refine⟨Ω1,α1,Z1,S.grow g1 s1,GoO.use k1 fun y Ω2 _ w H2 α2 Z2 g2 s2 r2 k2 => ?_⟩
 have S2:=(S.grow g1 s1).grow g2 s2
 refine cmpV_r (op:=op) (κ:=κ) (Φ:=Φ) s2 (s1.repG g2 r1) r2 ?_
 cases q:cmpV op x y Ω2 with
 | ok d Ω3=>
  obtain⟨t,rfl⟩:=cmpV_bl _ _ _ _ _ q
  intro u H3 α3 Z3 g3 s3 r3
  simp only[RepO]at r3
  refine⟨t,r3,?_⟩
  rw[q]at k2
  have k3:GoO κ Φ α2 Z2 H2 (if t=true then (mc ρ Ω3).bind fun z Ω4=>cmpV op' y z Ω4 else .ok (.bl false) Ω3) Q:=k2
  have k3:=GoO.from g3 k3
  cases t with
  | true=>
   rw[if_pos rfl]at k3 ⊢
   refine⟨Ω3,α3,Z3,S2.grow g3 s3,GoO.use k3 fun z Ω4 _ w' H4 α4 Z4 g4 s4 r4 k4 => ?_⟩
   exact cmpV_r s4 (s3.repG g4 (s2.repG g3 r2)) r4 k4
  | false=>
   rw[if_neg Bool.false_ne_true]at k3 ⊢
   exact GoO.ret s3 (repO_flat rfl) k3
 | exc x Ω3=>rw[q]at k2;exact k2
 | bad=>rw[q]at k2;exact k2
theorem peo_chn{op op':CmpOp}(hu:X.A.units + 64 < cLine)(hm:lastMarks [op,op'] [b,ce]=false)(ha:PEo X κ Φ a ma)(hb:PEo X κ Φ b mb)(hc:PEo X κ Φ ce mc):PEo X κ Φ (.Compare a [op,op'] [b,ce] pos) (mChn op op' ma mb mc):=by
 intro α0 Z0 H0 ρ Ω
 refine PE.imp (pe_chain (op_cmp hu op) (op_cmp hu op') (ha α0 Z0 H0 ρ Ω) (PE.ex fun Ω1=>hb α0 Z0 H0 ρ Ω1) (PE.ex fun Ω1=>hc α0 Z0 H0 ρ Ω1) hm) ?_
 rintro σ H Q ⟨α,Z,S,g⟩
 exact chainO S g
theorem chn_bl{op op':CmpOp}{d:D}{Ω':Sto}(h:mChn op op' ma mb mc ρ Ω=.ok d Ω'):∃ t,d=.bl t:=by
 simp only[mChn]at h
 cases q1:ma ρ Ω with
 | ok x Ω1=>
  rw[q1]at h;dsimp only[OutO.bind]at h
  cases q2:mb ρ Ω1 with
  | ok y Ω2=>
   rw[q2]at h;dsimp only[OutO.bind]at h
   cases q3:tstO (cmpV op x y Ω2) with
   | ok t Ω3=>
    rw[q3]at h;dsimp only[OutO.bind]at h
    split at h
    ·cases q4:mc ρ Ω3 with
     | ok z Ω4=>rw[q4]at h;exact cmpV_bl _ _ _ _ _ h
     | exc _ _=>rw[q4]at h;cases h
     | bad=>rw[q4]at h;cases h
    ·cases h;exact⟨_,rfl⟩
   | exc _ _=>rw[q3]at h;cases h
   | bad=>rw[q3]at h;cases h
  | exc _ _=>rw[q2]at h;cases h
  | bad=>rw[q2]at h;cases h
 | exc _ _=>rw[q1]at h;cases h
 | bad=>rw[q1]at h;cases h
theorem pto_chn{op op':CmpOp}(hu:X.A.units + 64 < cLine)(hm:lastMarks [op,op'] [b,ce]=false)(ha:PEo X κ Φ a ma)(hb:PEo X κ Φ b mb)(hc:PEo X κ Φ ce mc):PTo X κ Φ (.Compare a [op,op'] [b,ce] pos) (mChn op op' ma mb mc):=by
 intro α0 Z0 H0 ρ Ω
 refine PT.imp (pt_chain (op_cmp hu op) (op_cmp hu op') (ha α0 Z0 H0 ρ Ω) (PE.ex fun Ω1=>hb α0 Z0 H0 ρ Ω1) (PE.ex fun Ω1=>hc α0 Z0 H0 ρ Ω1) hm) ?_
 rintro σ H Q ⟨α,Z,S,g⟩
 refine chainO S ?_
 cases q:mChn op op' ma mb mc ρ Ω with
 | ok d Ω1=>
  obtain⟨t,rfl⟩:=chn_bl q
  rw[q]at g
  intro v H1 α1 Z1 g1 s1 r1
  simp only[RepO]at r1
  exact⟨t,r1,g H1 α1 Z1 g1 s1⟩
 | exc x Ω1=>rw[q]at g;exact g
 | bad=>rw[q]at g;exact g.elim
noncomputable def viaN(f:List D->Out Rs):List D->Sto->OutO D:=fun xs Ω=>match optAll (rei Ω 8) xs with
 | some ds=>outO Ω (f ds)
 | none=>.bad
theorem viaN_use{bw:Bool}{f:List D->Out Rs}{xs:List D}{vs:List V}(S:StO κ α Z Ω H)(hx:All2 (RepO α Z H) xs vs)(h:GoO κ Φ α Z H (viaN f xs Ω) Q) :
  ∃ ds own d',Reps (Zal α Z) H ds vs/\f ds=.ok (own,d')/\∀ v H' Z',Grow (Zal α Z) H Z' H'->Res1 bw own Z' H H' d' v->Q v H':=by
 unfold viaN at h
 split at h
 ·rename_i ds hd
  obtain⟨own,d',e,k⟩:=outO_use (bw:=bw) S h
  exact⟨ds,own,d',reps_all (optAll_rep (S:=Rep (Zal α Z) H) (fun d d' v q r=>rei_rep S 8 q r) hd hx),e,fun v H' Z' g q=>k v H' _ Z' g q⟩
 ·exact h.elim
theorem peo_pcall{k:Nat}{x:Str}{F:List D->Out Rs}(F0:FnIn X k x F)(hr:Room k X.A)(hg:Gl X x)(hdb:(x == ("__debug__":Str))=false)
  (he:starEach (e::es) X.env=(false,eval e X.env)::starEach es X.env) (hpl:(backTo pos (starEach es X.env)).any (·.1)=false) (ha:PAo X κ Φ (e::es) as) :
  PEo X κ Φ (.Call (.Name x p) (e::es) [] pos) (mN (viaN F) as):=by
 obtain⟨f,fd,ps,hm,hk,hb,F1⟩:=F0.ex
 intro α0 Z0 H0 ρ Ω
 refine PE.imp (pe_call F1 hr hg hm hk hb .nil pass0 (ha α0 Z0 H0 ρ Ω) hdb he hpl) ?_
 rintro σ H Q ⟨α,Z,S,g⟩
 refine⟨α,Z,S,GoA.use g fun xs Ω1 _ vs H1 α1 Z1 g1 s1 r1 k1 => ?_⟩
 show pureSp F (vs++[]) H1 Q E0
 rw[List.append_nil]
 obtain⟨ds,own,d',h1,h2,h3⟩:=viaN_use (bw:=false) s1 r1 k1
 exact⟨Zal α1 Z1,ds,own,d',zal_dom s1,h1,h2,h3⟩
end
end Mir
namespace Mir
open PySem PySem.Spec PyProof.Rows L2
variable [CloTab]
noncomputable def altN(f g:List D->Sto->OutO D):List D->Sto->OutO D:=fun xs Ω=>orO (f xs Ω) (g xs Ω)
noncomputable def lenS(xs:List D)(Ω:Sto):OutO D:=match xs with
 | [x]=>match seqO Ω x with
  | some ds=>.ok (.int ds.length) Ω
  | none=>.bad
 | _=>.bad
noncomputable def lenK(xs:List D)(Ω:Sto):OutO D:=match xs with
 | [.ref k]=>match Ω[k]? with
  | some (.dK kvs)=>.ok (.int kvs.length) Ω
  | some (.dT kvs)=>.ok (.int kvs.length) Ω
  | _=>.bad
 | _=>.bad
noncomputable def listN(xs:List D)(Ω:Sto):OutO D:=match xs with
 | [x]=>match seqO Ω x with
  | some ds=>newC Ω (.lst ds)
  | none=>.bad
 | _=>.bad
noncomputable def tupleN(xs:List D)(Ω:Sto):OutO D:=match xs with
 | [.tup ds]=>.ok (.tup ds) Ω
 | [x]=>match lstO Ω x with
  | some ds=>.ok (.tup ds) Ω
  | none=>.bad
 | _=>.bad
noncomputable def lenE:List D->Out Rs
 | [.str z]=>if small z.length then .ok (false,.int z.length) else .bad
 | _=>.bad
noncomputable def allE:List D->Out Rs
 | [.lst xs]=>match blsD xs with | some bs=>.ok (false,.bl (bs.all id)) | none=>.bad
 | _=>.bad
noncomputable def minE:List D->Out Rs
 | [.int i,.int j]=>.ok (false,.int (if j < i then j else i))
 | _=>.bad
noncomputable def bltE:Blt->List D->Out Rs
 | .len=>lenE
 | .all=>allE
 | .min=>minE
 | _=>fun _=>.bad
noncomputable def bltV(f:Blt):List D->Sto->OutO D:=viaN (bltE f)
noncomputable def bltO(f:Blt):List D->Sto->OutO D:=match f with
 | .len=>altN lenS (altN lenK (bltV .len))
 | .list=>listN
 | .tuple=>tupleN
 | f=>bltV f
section
variable{X:Cx}{κ:Str->Addr->Prop}{Φ:Phi}{α α' α0 α1:List Addr}{Z Z' Z0 Z1:Addr->Prop}{Ω Ω':Sto}{H H' H0 H1:Hp}{ρ:OEnv}{σ:L2.St}{Q Q':VK}{r:OutO D}{a b e ce o:Expr}{rest:List Expr}{es:List Expr}{ma mb mc m mo:EM}{as:AM}{pos p apos cpos:Pos}
theorem mN_alt{f g:List D->Sto->OutO D}:mN (altN f g) as=altM (mN f as) (mN g as):=by
 funext ρ Ω
 simp only[mN,altM]
 cases as ρ Ω with
 | ok x Ω1=>rfl
 | exc x Ω=>rfl
 | bad=>rfl
theorem peo_bltB{f:List D->Sto->OutO D}{id:String}{x:Str}{r:List V->Hp->VK->Prop}(hc:CallR X (.builtin id) r)(hg:Gl X x)(hm:X.mg x=none)(hv:bootBuiltins x=some (.builtin id))(hn:x≠"__name__")(hdb:(x == ("__debug__":Str))=false)
  (he:starEach (e::es) X.env=(false,eval e X.env)::starEach es X.env) (hpl:(backTo pos (starEach es X.env)).any (·.1)=false) (ha:PAo X κ Φ (e::es) as)
  (hr:∀ xs vs α Z Ω H Q,StO κ α Z Ω H->All2 (RepO α Z H) xs vs->GoO κ Φ α Z H (f xs Ω) Q->r vs H Q):PEo X κ Φ (.Call (.Name x p) (e::es) [] pos) (mN f as):=by
 intro α0 Z0 H0 ρ Ω
 refine PE.imp (pe_callB hc hg hm hv (ha α0 Z0 H0 ρ Ω) hn hdb he hpl) ?_
 rintro σ H Q ⟨α,Z,S,g⟩
 exact⟨α,Z,S,GoA.use g fun xs Ω1 _ vs H1 α1 Z1 g1 s1 r1 k1=>hr xs vs α1 Z1 Ω1 H1 Q s1 r1 k1⟩
theorem peo_bltT{f:List D->Sto->OutO D}{id:String}{x:Str}{r:List V->Hp->VK->Prop}(hc:CallR X (.type id) r)(hg:Gl X x)(hm:X.mg x=none)(hv:bootBuiltins x=some (.type id))(hn:x≠"__name__")(hdb:(x == ("__debug__":Str))=false)
  (he:starEach (e::es) X.env=(false,eval e X.env)::starEach es X.env) (hpl:(backTo pos (starEach es X.env)).any (·.1)=false) (ha:PAo X κ Φ (e::es) as)
  (hr:∀ xs vs α Z Ω H Q,StO κ α Z Ω H->All2 (RepO α Z H) xs vs->GoO κ Φ α Z H (f xs Ω) Q->r vs H Q):PEo X κ Φ (.Call (.Name x p) (e::es) [] pos) (mN f as):=by
 intro α0 Z0 H0 ρ Ω
 refine PE.imp (pe_callTy hc hg hm hv (ha α0 Z0 H0 ρ Ω) hn hdb he hpl) ?_
 rintro σ H Q ⟨α,Z,S,g⟩
 exact⟨α,Z,S,GoA.use g fun xs Ω1 _ vs H1 α1 Z1 g1 s1 r1 k1=>hr xs vs α1 Z1 Ω1 H1 Q s1 r1 k1⟩
theorem reps_nows:∀ {ds:List D} {vs:List V},Reps Z H ds vs->Nows Z H ds vs
 | [],vs,h=>h.nil_inv
 | d::ds,vs,h=>by
  obtain⟨v,r,rfl,h1,h2⟩:=h.cons_inv
  exact⟨v,r,rfl,h1.now,reps_nows h2⟩
theorem peo_blt{f:Blt}(hcalm:X.calm=true)(hf:f∈[Blt.len,Blt.all,Blt.list,Blt.tuple,Blt.min])(hg:Gl X f.nm)(hm:X.mg f.nm=none)
  (he:starEach (e::es) X.env=(false,eval e X.env)::starEach es X.env) (hpl:(backTo pos (starEach es X.env)).any (·.1)=false) (ha:PAo X κ Φ (e::es) as) :
  PEo X κ Φ (.Call (.Name f.nm p) (e::es) [] pos) (mN (bltO f) as):=by
 cases f with
 | len=>
  show PEo X κ Φ _ (mN (altN lenS (altN lenK (bltV .len))) as)
  rw[mN_alt,mN_alt]
  refine PEo.alt ?_ (PEo.alt ?_ ?_)
  ·refine peo_bltB call_len_seq hg hm boot_len (by decide) (by decide) he hpl ha ?_
   intro xs vs α Z Ω H Q S rx g
   unfold lenS at g
   split at g
   ·split at g
    ·rename_i ds hd
     obtain⟨v,r,rfl,r1,r2⟩:=rx.cons_inv
     rw[r2.nil_inv]
     obtain⟨l,ws,rfl,q1,q2⟩:=seqO_use (K:=X.K) S r1 hd
     exact⟨l,ws,rfl,q1,by rw[q2.length];exact GoO.ret S (repO_flat rfl) g⟩
    ·exact g.elim
   ·exact g.elim
  ·refine peo_bltB (call_lenD.or call_lenT) hg hm boot_len (by decide) (by decide) he hpl ha ?_
   intro xs vs α Z Ω H Q S rx g
   unfold lenK at g
   split at g
   ·split at g
    ·rename_i kvs hk
     obtain⟨v,r,rfl,r1,r2⟩:=rx.cons_inv
     rw[r2.nil_inv]
     simp only[RepO]at r1
     obtain⟨a,ha,rfl⟩:=r1
     obtain⟨a',ha',kvs',h1,h2⟩:=S.cell hk
     rw[ha]at ha';cases ha'
     exact .inl ⟨a,kvs',rfl,h1,by rw[h2.length];exact GoO.ret S (repO_flat rfl) g⟩
    ·rename_i kvs hk
     obtain⟨v,r,rfl,r1,r2⟩:=rx.cons_inv
     rw[r2.nil_inv]
     simp only[RepO]at r1
     obtain⟨a,ha,rfl⟩:=r1
     obtain⟨a',ha',kvs',h1,h2⟩:=S.cell hk
     rw[ha]at ha';cases ha'
     exact .inr ⟨a,kvs',rfl,h1,by rw[h2.length];exact GoO.ret S (repO_flat rfl) g⟩
    ·exact g.elim
   ·exact g.elim
  ·refine peo_bltB call_len_str hg hm boot_len (by decide) (by decide) he hpl ha ?_
   intro xs0 vs0 α Z Ω H Q S rx g
   obtain⟨ds,own,d,nw,ee,k⟩:=viaN_use (bw:=false) S rx g
   have nw:=reps_nows nw
   have dom:=zal_dom S
   replace ee:lenE ds=_:=ee
   unfold lenE at ee
   split at ee
   ·obtain⟨x,rfl,n⟩:=nw.one
    cases now_str n
    split at ee
    ·rename_i hs
     cases ee
     exact⟨_,rfl,small_iff hs,flat_k dom k rfl⟩
    ·cases ee
   ·cases ee
 | all=>
  refine peo_bltB (call_all hcalm) hg hm boot_all (by decide) (by decide) he hpl ha ?_
  intro xs0 vs0 α Z Ω H Q S rx g
  obtain⟨ds,own,d,nw,ee,k⟩:=viaN_use (bw:=false) S rx g
  have nw:=reps_nows nw
  have dom:=zal_dom S
  replace ee:allE ds=_:=ee
  unfold allE at ee
  split at ee
  ·obtain⟨x,rfl,n⟩:=nw.one
   split at ee
   ·rename_i bs hb
    cases ee
    exact⟨_,_,bs,x,rfl,n,hb,flat_k dom k rfl⟩
   ·cases ee
  ·cases ee
 | any=>simp at hf
 | int=>simp at hf
 | min=>
  refine peo_bltB (call_min2 hcalm) hg hm boot_min (by decide) (by decide) he hpl ha ?_
  intro xs0 vs0 α Z Ω H Q S rx g
  obtain⟨ds,own,d,nw,ee,k⟩:=viaN_use (bw:=false) S rx g
  have nw:=reps_nows nw
  have dom:=zal_dom S
  replace ee:minE ds=_:=ee
  unfold minE at ee
  split at ee
  ·obtain⟨x,y,rfl,n,n'⟩:=nw.two
   cases now_int n
   cases now_int n'
   cases ee
   exact⟨_,_,rfl,flat_k dom k rfl⟩
  ·cases ee
 | max=>simp at hf
 | list=>
  refine peo_bltT call_list_of hg hm boot_list (by decide) (by decide) he hpl ha ?_
  intro xs vs α Z Ω H Q S rx g
  have g:GoO κ Φ α Z H (listN xs Ω) Q:=g
  unfold listN at g
  split at g
  ·split at g
   ·rename_i ds hd
    obtain⟨v,r,rfl,r1,r2⟩:=rx.cons_inv
    rw[r2.nil_inv]
    obtain⟨l,ws,rfl,q1,q2⟩:=seqO_use (K:=X.K) S r1 hd
    exact⟨l,ws,rfl,q1,new_lstO S q2 g⟩
   ·exact g.elim
  ·exact g.elim
 | tuple=>
  refine peo_bltT call_tuple_of hg hm boot_tuple (by decide) (by decide) he hpl ha ?_
  intro xs vs α Z Ω H Q S rx g
  have g:GoO κ Φ α Z H (tupleN xs Ω) Q:=g
  unfold tupleN at g
  split at g
  ·obtain⟨v,r,rfl,r1,r2⟩:=rx.cons_inv
   rw[r2.nil_inv]
   have r1':=r1
   obtain⟨l,ws,rfl,_,q1,q2⟩:=tup_use r1
   exact⟨l,ws,rfl,.inr ⟨sqT (.inl q1),GoO.ret S r1' g⟩⟩
  ·split at g
   ·rename_i ds hd
    obtain⟨v,r,rfl,r1,r2⟩:=rx.cons_inv
    rw[r2.nil_inv]
    obtain⟨l,ws,rfl,q1,q2⟩:=lstO_use S r1 hd
    exact⟨l,ws,rfl,.inl ⟨sqL q1,new_tupO S q2 g⟩⟩
   ·exact g.elim
  ·exact g.elim
 | sorted=>simp at hf
 | bool=>simp at hf
noncomputable def isiV(t:Ty):D->Sto->OutO D:=via1 fun d=>match tyD d t with | some b=>.ok (false,.bl b) | none=>.bad
noncomputable def isiS(t:Ty)(x:D)(Ω:Sto):OutO D:=match x with
 | .ref k=>match Ω[k]? with
  | some (.lst _)=>.ok (.bl (t == .list)) Ω
  | some (.dK _)=>.ok (.bl (t == .dict)) Ω
  | _=>.bad
 | .lst _=>.ok (.bl (t == .list)) Ω
 | .tup _=>.ok (.bl (t == .tuple)) Ω
 | _=>.bad
noncomputable def isiO(t:Ty):D->Sto->OutO D:=alt1 (isiS t) (isiV t)
noncomputable def rIsiS(K:PySem.W.Frag):List V->Hp->VK->Prop:=fun xs H Q=>∃ a vs t,xs=[.ref a,.ty (Ty.id t)]/\((Rd H a (.lst vs)/\Q (.bl (t == .list)) H)\/(Rd H a (.tup vs)/\Q (.bl (t == .tuple)) H)\/(∃ kvs,H a=some (.dK kvs)/\Q (.bl (t == .dict)) H))
theorem call_isiS:CallR X (.builtin "isinstance") (rIsiS X.K):=by
 intro pins s σ H xs us Q I r h
 obtain⟨a,vs,t,rfl,h⟩:=h
 obtain⟨u,w',rfl,rx,rt⟩:=vals2 r
 cases (show w'=Value.type (Ty.id t) from rt)
 obtain⟨t1,t2,t3,t4,t5,t6,t7⟩:=kit_tab X.K t
 rcases h with ⟨h1,q⟩ | ⟨h1,q⟩ | ⟨kvs,h1,q⟩
 ·have fin:∀ tk,EP X pins σ Q (.bool (t == .list)) { s with toks:=tk }:=fun tk=>⟨.bl _,H,I.tok tk,rfl,q⟩
  rcases h1 with h1 | ⟨o,h1⟩
  ·exact isinst_ok I rx (.lst h1) t5 fin
  ·exact isinst_ok I rx (.frz h1) t5 fin
 ·have fin:∀ tk,EP X pins σ Q (.bool (t == .tuple)) { s with toks:=tk }:=fun tk=>⟨.bl _,H,I.tok tk,rfl,q⟩
  cases rx
  exact PySem.W.kia_one PySem.W.kitx_tuple I.kIn (tyOf_rd_tup (K:=X.K) I h1) t6 (fun z=>nomatch z) fin
 ·have fin:∀ tk,EP X pins σ Q (.bool (t == .dict)) { s with toks:=tk }:=fun tk=>⟨.bl _,H,I.tok tk,rfl,q⟩
  exact isinst_ok I rx (.dK h1) t7 fin
theorem peo_isi{t:Ty}{pt:Pos}(hg:Gl X "isinstance")(hm:X.mg "isinstance"=none)(hgt:Gl X t.nm)(hmt:X.mg t.nm=none)
  (he:starEach [a,Expr.Name t.nm pt] X.env=(false,eval a X.env)::starEach [Expr.Name t.nm pt] X.env) (hpl:(backTo pos (starEach [Expr.Name t.nm pt] X.env)).any (·.1)=false) (ha:PEo X κ Φ a ma) :
  PEo X κ Φ (.Call (.Name "isinstance" p) [a,.Name t.nm pt] [] pos) (m1 (isiO t) ma):=by
 have pt':PE X (.Name t.nm pt) (tC (.ty t.id)):=pe_bltn hgt hmt (ty_boot t) rfl (by cases t<;>decide) (by cases t<;>decide)
 unfold isiO
 rw[m1_alt]
 refine PEo.alt ?_ ?_
 ·refine peo_one (r:=fun x H Q=>rIsiS X.K [x,.ty t.id] H Q) (fun ta pa=>pe_callB call_isiS hg hm boot_isinstance (pa_cons pa (pa_cons pt' pa_nil rfl) he) (by decide) (by decide) he hpl) ha ?_
  intro dx x α Z Ω H Q S rx g
  unfold isiS at g
  split at g
  ·split at g
   ·rename_i k ds hk
    obtain⟨a,vs,rfl,h1,h2⟩:=lstO_use (ds:=ds) S rx (by simp only[lstO,hk])
    exact⟨a,vs,t,rfl,.inl ⟨h1,GoO.ret S (repO_flat rfl) g⟩⟩
   ·rename_i k kvs hk
    simp only[RepO]at rx
    obtain⟨a,ha,rfl⟩:=rx
    obtain⟨a',ha',kvs',h1,_⟩:=S.cell hk
    rw[ha]at ha';cases ha'
    exact⟨a,[],t,rfl,.inr (.inr ⟨kvs',h1,GoO.ret S (repO_flat rfl) g⟩)⟩
   ·exact g.elim
  ·rename_i ds
   obtain⟨a,vs,rfl,h1,h2⟩:=lstO_use (ds:=ds) S rx rfl
   exact⟨a,vs,t,rfl,.inl ⟨h1,GoO.ret S (repO_flat rfl) g⟩⟩
  ·obtain⟨a,vs,rfl,_,h1,h2⟩:=tup_use rx
   exact⟨a,vs,t,rfl,.inr (.inl ⟨.inl h1,GoO.ret S (repO_flat rfl) g⟩)⟩
  ·exact g.elim
 ·refine peo_one (r:=fun x H Q=>rIsi X.K [x,.ty t.id] H Q) (fun ta pa=>pe_callB call_isi hg hm boot_isinstance (pa_cons pa (pa_cons pt' pa_nil rfl) he) (by decide) (by decide) he hpl) ha ?_
  intro dx x α Z Ω H Q S rx g
  obtain⟨d,own,d',n1,e1,k⟩:=via1_use (bw:=false) S rx g
  cases q:tyD d t with
  | none=>rw[q]at e1;cases e1
  | some b=>
   rw[q]at e1
   cases e1
   exact⟨_,d,x,t,b,rfl,n1,q,flat_k (zal_dom S) k rfl⟩
noncomputable def mMth(isT:Sto->D->Bool)(f:D->List D->Sto->OutO D)(mo:EM)(as:AM):EM:=fun ρ Ω=>(mo ρ Ω).bind fun x Ω1=>if isT Ω1 x=true then (as ρ Ω1).bind fun xs Ω2=>f x xs Ω2 else .bad
noncomputable def isL(Ω:Sto)(x:D):Bool:=(lstO Ω x).isSome
noncomputable def isSt(_:Sto)(x:D):Bool:=match x with
 | .str _=>true
 | _=>false
theorem isL_ty{x:D}{v:V}{K:PySem.W.Frag}(S:StO κ α Z Ω H)(r:RepO α Z H x v)(h:isL Ω x=true):tyV K "list" v H:=by
 unfold isL at h
 cases q:lstO Ω x with
 | none=>rw[q]at h;cases h
 | some ds=>
  obtain⟨a,vs,rfl,h1,h2⟩:=lstO_use S r q
  exact .inl ⟨rfl,vs,sqL h1⟩
theorem isSt_ty{x:D}{v:V}{K:PySem.W.Frag}(S:StO κ α Z Ω H)(r:RepO α Z H x v)(h:isSt Ω x=true):tyV K "str" v H:=by
 cases x with
 | str z=>simp only[RepO]at r;subst r;rfl
 | _=>cases h
section
variable{T id:String}{name:Str}{r:V->List V->Hp->VK->Prop}{isT:Sto->D->Bool}{f:D->List D->Sto->OutO D}
theorem peo_bm0(pa:PlainAttrs T)(slot:PySem.Slot T name id)(hty:typeOf (.builtin id)=pure (.type "method_descriptor"))(hm:MtR X id r)
  (hT:∀ x v α Z Ω H,StO κ α Z Ω H->RepO α Z H x v->isT Ω x=true->tyV X.K T v H)
  (hr:∀ x v xs vs α Z Ω H Q,StO κ α Z Ω H->RepO α Z H x v->All2 (RepO α Z H) xs vs->GoO κ Φ α Z H (f x xs Ω) Q->r v vs H Q)
  (hbase:attributeBase o name X.env (eval o X.env)=eval o X.env) (hline:(apos.endLine == cpos.line)=true) (ho:PEo X κ Φ o mo):PEo X κ Φ (.Call (.Attribute o name apos) [] [] cpos) (mMth isT f mo mNil):=by
 intro α0 Z0 H0 ρ Ω
 refine PE.imp (L2.pe_bm0 pa slot hty hm (ho α0 Z0 H0 ρ Ω) hbase hline) ?_
 rintro σ H Q ⟨α,Z,S,g⟩
 refine⟨α,Z,S,GoO.use g fun x Ω1 _ v H1 α1 Z1 g1 s1 r1 k1 => ?_⟩
 split at k1
 ·rename_i hi
  exact⟨hT x v α1 Z1 Ω1 H1 s1 r1 hi,hr x v [] [] α1 Z1 Ω1 H1 Q s1 r1 .nil k1⟩
 ·exact k1.elim
theorem few_ok{env:Env}:∀ {es:List Expr},(∀ e∈es,isStar e=false)->((backTo cpos (starEach es env)).all (fun x => !x.1))=true
 | [],_=>rfl
 | e::es,h=>by
  rw[star_one (h e (by simp))]
  show(!false && (backTo cpos (starEach es env)).all (fun x => !x.1))=true
  rw[few_ok fun z hz=>h z (by simp[hz])];rfl
theorem peo_bm(pa:PlainAttrs T)(slot:PySem.Slot T name id)(hty:typeOf (.builtin id)=pure (.type "method_descriptor"))(hm:MtR X id r)
  (hT:∀ x v α Z Ω H,StO κ α Z Ω H->RepO α Z H x v->isT Ω x=true->tyV X.K T v H)
  (hr:∀ x v xs vs α Z Ω H Q,StO κ α Z Ω H->RepO α Z H x v->All2 (RepO α Z H) xs vs->GoO κ Φ α Z H (f x xs Ω) Q->r v vs H Q)
  (hbase:attributeBase o name X.env (eval o X.env)=eval o X.env) (hline:(apos.endLine == cpos.line)=true) (ho:PEo X κ Φ o mo) (ha:PAo X κ Φ (e::es) as) (hst:∀ z∈e::es,isStar z=false) (hlen:(e::es).length < 20):PEo X κ Φ (.Call (.Attribute o name apos) (e::es) [] cpos) (mMth isT f mo as):=by
 intro α0 Z0 H0 ρ Ω
 have hfew:((backTo cpos (starEach (e::es) X.env)).all (fun x => !x.1) && (backToKw cpos (keywordEach [] X.env)).all (fun x=>x.1.isSome)
   && decide ((e::es).length + ([]:List Keyword).length + (if ([]:List Keyword).isEmpty then 0 else 1) < 30))=true:=by
  rw[few_ok hst,decide_eq_true (by show(e::es).length + 0 + 0 < 30;omega)];rfl
 refine PE.imp (L2.pe_bm pa slot hty hm (ho α0 Z0 H0 ρ Ω) (PA.ex fun Ω1=>ha α0 Z0 H0 ρ Ω1) hbase hfew hline (star_one (hst e (by simp))) (plain_star fun z hz=>hst z (by simp[hz]))) ?_
 rintro σ H Q ⟨α,Z,S,g⟩
 refine⟨α,Z,S,GoO.use g fun x Ω1 _ v H1 α1 Z1 g1 s1 r1 k1 => ?_⟩
 split at k1
 ·rename_i hi
  exact⟨hT x v α1 Z1 Ω1 H1 s1 r1 hi,Ω1,α1,Z1,S.grow g1 s1,GoA.use k1 fun xs Ω2 _ vs H2 α2 Z2 g2 s2 r2 k2=>hr x v xs vs α2 Z2 Ω2 H2 Q s2 (s1.repG g2 r1) r2 k2⟩
 ·exact k1.elim
end
noncomputable def ownO(Ω:Sto):D->Option (Nat×List D)
 | .ref k=>match Ω[k]? with
  | some (.lst ds)=>some (k,ds)
  | _=>none
 | _=>none
theorem ownO_use{x:D}{v:V}{k:Nat}{ds:List D}(S:StO κ α Z Ω H)(r:RepO α Z H x v)(h:ownO Ω x=some (k,ds)):∃ a vs,v=.ref a/\α[k]?=some a/\H a=some (.lst vs)/\All2 (RepO α Z H) ds vs:=by
 cases x with
 | ref n=>
  simp only[ownO]at h
  split at h
  ·rename_i ds' hk
   cases h
   simp only[RepO]at r
   obtain⟨a,ha,rfl⟩:=r
   obtain⟨a',ha',vs,h1,h2⟩:=S.cell hk
   rw[ha]at ha'
   cases ha'
   exact⟨a,vs,rfl,ha,h1,h2⟩
  ·cases h
 | _=>cases h
theorem put_lstO{k:Nat}{p:Addr}{ds:List D}{vs:List V}{d:D}{u:V}(S:StO κ α Z Ω H)(hk:α[k]?=some p){ws:List V}(hm:H p=some (.lst ws))(r:All2 (RepO α Z H) ds vs)(ru:RepO α Z H d u)(g:GoO κ Φ α Z H (.ok d (Ω.set k (.lst ds))) Q):Q u (upd H p (.lst vs)):=by
 obtain⟨S1,g1⟩:=S.put (o:=.lst vs) (c:=.lst ds) hk (fun o u z=>by rw[hm]at z;cases z) fun R hR=>⟨vs,upd_same,r.imp hR⟩
 exact g _ _ _ _ g1 S1 (S.repG g1 ru)
noncomputable def appendO(x:D)(xs:List D)(Ω:Sto):OutO D:=match ownO Ω x,xs with
 | some (k,ds),[y]=>if small (ds.length + 1) then .ok .non (Ω.set k (.lst (ds++[y]))) else .bad
 | _,_=>.bad
noncomputable def clearO(x:D)(xs:List D)(Ω:Sto):OutO D:=match ownO Ω x,xs with
 | some (k,_),[]=>.ok .non (Ω.set k (.lst []))
 | _,_=>.bad
noncomputable def reverseO(x:D)(xs:List D)(Ω:Sto):OutO D:=match ownO Ω x,xs with
 | some (k,ds),[]=>.ok .non (Ω.set k (.lst ds.reverse))
 | _,_=>.bad
noncomputable def indexO(x:D)(xs:List D)(Ω:Sto):OutO D:=match xs with
 | [y]=>via2 (fun a b=>match a with | .lst ds=>mthD .index (.lst ds) (.tup [b]) | _=>.bad) x y Ω
 | _=>.bad
noncomputable def joinO(x:D)(xs:List D)(Ω:Sto):OutO D:=match xs with
 | [y]=>via2 (fun a b=>mthD .join a (.tup [b])) x y Ω
 | _=>.bad
theorem one_inv{R:D->V->Prop}{y:D}{vs:List V}(h:All2 R [y] vs):∃ v,vs=[v]/\R y v:=by
 obtain⟨v,r,rfl,h1,h2⟩:=h.cons_inv
 rw[h2.nil_inv];exact⟨v,rfl,h1⟩
theorem two_inv{R:D->V->Prop}{y z:D}{vs:List V}(h:All2 R [y,z] vs):∃ v w,vs=[v,w]/\R y v/\R z w:=by
 obtain⟨v,r,rfl,h1,h2⟩:=h.cons_inv
 obtain⟨w,rfl,h3⟩:=one_inv h2
 exact⟨v,w,rfl,h1,h3⟩
theorem appendO_r{x:D}{v:V}{xs:List D}{vs:List V}(S:StO κ α Z Ω H)(r:RepO α Z H x v)(rs:All2 (RepO α Z H) xs vs)(g:GoO κ Φ α Z H (appendO x xs Ω) Q):rAppend v vs H Q:=by
 unfold appendO at g
 split at g
 ·rename_i k ds y hk
  obtain⟨a,ws,rfl,h1,h2,h3⟩:=ownO_use S r hk
  obtain⟨u,rfl,h4⟩:=one_inv rs
  split at g
  ·rename_i hs
   have:=small_iff hs
   exact⟨a,ws,u,rfl,rfl,h2,by rw[h3.length];omega,put_lstO S h1 h2 (h3.append (.one h4)) (repO_flat rfl) g⟩
  ·exact g.elim
 ·exact g.elim
theorem reverseO_r{x:D}{v:V}{xs:List D}{vs:List V}(S:StO κ α Z Ω H)(r:RepO α Z H x v)(rs:All2 (RepO α Z H) xs vs)(g:GoO κ Φ α Z H (reverseO x xs Ω) Q):rReverse v vs H Q:=by
 unfold reverseO at g
 split at g
 ·rename_i k ds hk
  obtain⟨a,ws,rfl,h1,h2,h3⟩:=ownO_use S r hk
  rw[rs.nil_inv]
  exact⟨a,ws,rfl,rfl,h2,put_lstO S h1 h2 h3.reverse (repO_flat rfl) g⟩
 ·exact g.elim
theorem indexO_r{x:D}{v:V}{xs:List D}{vs:List V}(S:StO κ α Z Ω H)(r:RepO α Z H x v)(rs:All2 (RepO α Z H) xs vs)(g:GoO κ Φ α Z H (indexO x xs Ω) Q):rIndex v vs H Q:=by
 unfold indexO at g
 split at g
 ·obtain⟨u,rfl,h4⟩:=one_inv rs
  obtain⟨d,e,own,d',n1,n2,e1,k⟩:=via2_use (bw:=false) S r h4 g
  cases d with
  | lst ds=>
   simp only[mthD]at e1
   split at e1
   ·rename_i hc
    simp only[Bool.and_eq_true]at hc
    split at e1
    ·rename_i j hj
     cases e1
     exact⟨_,ds,e,u,j,rfl,n1,n2,hc.1,hc.2,hj,flat_k (zal_dom S) k rfl⟩
    ·cases e1
   ·cases e1
  | _=>cases e1
 ·exact g.elim
theorem joinO_r{x:D}{v:V}{xs:List D}{vs:List V}(S:StO κ α Z Ω H)(r:RepO α Z H x v)(rs:All2 (RepO α Z H) xs vs)(g:GoO κ Φ α Z H (joinO x xs Ω) Q):rJoin v vs H Q:=by
 unfold joinO at g
 split at g
 ·obtain⟨u,rfl,h4⟩:=one_inv rs
  obtain⟨d,e,own,d',n1,n2,e1,k⟩:=via2_use (bw:=false) S r h4 g
  cases d with
  | str z=>
   cases now_str n1
   cases e with
   | lst ds=>
    simp only[mthD]at e1
    split at e1
    ·rename_i ys hs
     split at e1
     ·rename_i hc
      cases e1
      simp only[Bool.and_eq_true,decide_eq_true_eq]at hc
      exact⟨z,_,ds,ys,u,rfl,rfl,n2,hs,hc.1,hc.2,flat_k (zal_dom S) k rfl⟩
     ·cases e1
    ·cases e1
   | _=>cases e1
  | _=>cases e<;>cases e1
 ·exact g.elim
end
end Mir
namespace Mir
open PySem PySem.Spec PyProof.Rows L2
variable [CloTab]
inductive Src where
 | seq (x:D) | ints (lo:Int) (n:Nat) | chars (z:Str) | enm (x:D)
noncomputable def srcO:Src->Sto->Option (List D)
 | .seq x,Ω=>seqO Ω x
 | .ints lo n,_=>some (intsFrom lo n)
 | .chars z,_=>some (z.cps.toList.map fun c=>.str (oneS c))
 | .enm x,Ω=>(seqO Ω x).map (enmFrom 0)
noncomputable abbrev IM:=OEnv->Sto->OutO Src
noncomputable def WlkO(κ:Str->Addr->Prop)(s:Src)(J:It)(α:List Addr)(Z:Addr->Prop)(H:Hp):Prop:=∀ α1 Z1 Ω1 H1 ds,GrO α Z H α1 Z1 H1->StO κ α1 Z1 Ω1 H1->srcO s Ω1=some ds ->
 (∀ (i:Nat) (d:D),ds[i]?=some d->J.go i H1/\∀ x H2,J.yld i H1 x H2->∃ Z2,GrO α1 Z1 H1 α1 Z2 H2/\StO κ α1 Z2 Ω1 H2/\RepO α1 Z2 H2 d x)/\∀ i,ds.length<=i->J.stop i H1
noncomputable def GoI(κ:Str->Addr->Prop)(Φ:Phi)(α:List Addr)(Z:Addr->Prop)(H:Hp)(r:OutO Src)(R:It->Hp->Prop):Prop:=match r with
 | .ok s Ω'=>∀ J H' α' Z',GrO α Z H α' Z' H'->StO κ α' Z' Ω' H'->WlkO κ s J α' Z' H'->R J H'
 | .exc x Ω'=>∀ H' α' Z',GrO α Z H α' Z' H'->StO κ α' Z' Ω' H'->Φ x Ω' α' Z' H'
 | .bad=>False
noncomputable def tIO(κ:Str->Addr->Prop)(Φ:Phi)(α0:List Addr)(Z0:Addr->Prop)(H0:Hp)(m:IM)(ρ:OEnv)(Ω:Sto):TI:=fun σ H R=>∃ α Z,SimO κ α0 Z0 H0 α Z Ω ρ σ H/\GoI κ Φ α Z H (m ρ Ω) R
noncomputable def PIo(X:Cx)(κ:Str->Addr->Prop)(Φ:Phi)(tg e:Expr)(m:IM):Prop:=∀ α0 Z0 H0 ρ Ω,PI X tg e (tIO κ Φ α0 Z0 H0 m ρ Ω)
noncomputable def srcOf(Ω:Sto)(x:D):OutO Src:=match seqO Ω x,x with
 | some _,x=>.ok (.seq x) Ω
 | none,.str z=>.ok (.chars z) Ω
 | none,_=>.bad
noncomputable def mSrc(m:EM):IM:=fun ρ Ω=>(m ρ Ω).bind fun x Ω1=>srcOf Ω1 x
noncomputable def mEnm(m:EM):IM:=fun ρ Ω=>(m ρ Ω).bind fun x Ω1=>match seqO Ω1 x with
 | some _=>.ok (.enm x) Ω1
 | none=>.bad
noncomputable def rng1O(xs:List D)(Ω:Sto):OutO Src:=match xs with
 | [.int j]=>if in62 j then .ok (.ints 0 j.toNat) Ω else .bad
 | _=>.bad
noncomputable def mRng1(as:AM):IM:=fun ρ Ω=>(as ρ Ω).bind rng1O
section
variable{X:Cx}{κ:Str->Addr->Prop}{Φ:Phi}{α α' α0 α1:List Addr}{Z Z' Z0 Z1:Addr->Prop}{Ω Ω':Sto}{H H' H0 H1:Hp}{ρ:OEnv}{σ:L2.St}{Q Q':VK}{r:OutO D}{a b e ce o tg:Expr}{rest:List Expr}{es:List Expr}{ma mb mc m mo:EM}{as:AM}{pos p apos cpos tpos:Pos}
theorem GoI.from{r:OutO Src}{R:It->Hp->Prop}(g:GrO α Z H α1 Z1 H1)(h:GoI κ Φ α Z H r R):GoI κ Φ α1 Z1 H1 r R:=by
 cases r with
 | ok d Ω'=>exact fun v H' α' Z' g'=>h v H' α' Z' (g.trans g')
 | exc x Ω'=>exact fun H' α' Z' g'=>h H' α' Z' (g.trans g')
 | bad=>exact h
theorem GoI.use{r:OutO D}{f:D->Sto->OutO Src}{R:It->Hp->Prop}(h:GoI κ Φ α Z H (r.bind f) R)(k:∀ d Ω1,r=.ok d Ω1->∀ v H1 α1 Z1,GrO α Z H α1 Z1 H1->StO κ α1 Z1 Ω1 H1->RepO α1 Z1 H1 d v->GoI κ Φ α1 Z1 H1 (f d Ω1) R->Q' v H1):GoO κ Φ α Z H r Q':=by
 cases r with
 | ok d Ω1=>exact fun v H1 α1 Z1 g s q=>k d Ω1 rfl v H1 α1 Z1 g s q (GoI.from g h)
 | exc x Ω1=>exact h
 | bad=>exact h
theorem wlk_list{K:PySem.W.Frag}{x:D}{a:Addr}(hx:RepO α Z H x (.ref a))(S:StO κ α Z Ω H)(hl:(lstO Ω x).isSome=true):WlkO κ (.seq x) (Itl K a) α Z H:=by
 intro α1 Z1 Ω1 H1 ds g s hs
 have hx1:=S.repG g hx
 have hnt:∀ es,x≠.tup es:=fun es e=>by subst e;cases hl
 have hs':lstO Ω1 x=some ds:=by
  cases x with
  | tup es=>exact absurd rfl (hnt _)
  | _=>exact hs
 obtain⟨a',vs,e,h1,h2⟩:=lstO_use s hx1 hs'
 cases e
 refine⟨fun i d hd => ?_,fun i hi=>⟨vs,sqL h1,by rw[h2.length];exact hi⟩⟩
 obtain⟨v,hv,rv⟩:=h2.get hd
 refine⟨⟨vs,v,sqL h1,hv⟩,fun y H2 hy => ?_⟩
 obtain⟨rfl,hy⟩:=hy
 have:=hy vs (sqL h1)
 rw[hv]at this
 cases this
 exact⟨Z1,GrO.refl s.has,s,rv⟩
theorem wlk_tup{K:PySem.W.Frag}{es:List D}{a:Addr}(hx:RepO α Z H (.tup es) (.ref a))(S:StO κ α Z Ω H):WlkO κ (.seq (.tup es)) (Itt K a) α Z H:=by
 intro α1 Z1 Ω1 H1 ds g s hs
 have hx1:=S.repG g hx
 cases hs
 obtain⟨a',vs,e,_,h1,h2⟩:=tup_use hx1
 cases e
 refine⟨fun i d hd => ?_,fun i hi=>⟨vs,sqT (.inl h1),by rw[h2.length];exact hi⟩⟩
 obtain⟨v,hv,rv⟩:=h2.get hd
 refine⟨⟨vs,v,sqT (.inl h1),hv⟩,fun y H2 hy => ?_⟩
 obtain⟨rfl,hy⟩:=hy
 have:=hy vs (sqT (.inl h1))
 rw[hv]at this
 cases this
 exact⟨Z1,GrO.refl s.has,s,rv⟩
theorem pio_any(h:PEo X κ Φ e m):PIo X κ Φ tg e (mSrc m):=by
 intro α0 Z0 H0 ρ Ω
 refine PI.imp (pi_any (h α0 Z0 H0 ρ Ω)) ?_
 rintro σ H R ⟨α,Z,S,g⟩
 refine⟨α,Z,S,GoI.use g fun x Ω1 _ v H1 α1 Z1 g1 s1 r1 k1 => ?_⟩
 cases x with
 | tup es=>
  have r1':=r1
  obtain⟨a,vs,rfl,_,h1,h2⟩:=tup_use r1
  exact .inr (.inl ⟨a,vs,rfl,.inl h1,k1 _ H1 α1 Z1 (GrO.refl s1.has) s1 (wlk_tup r1' s1)⟩)
 | lst es=>
  have r1':=r1
  obtain⟨a,vs,rfl,h1,h2⟩:=lstO_use (ds:=es) s1 r1 rfl
  exact .inl ⟨a,vs,rfl,h1,k1 _ H1 α1 Z1 (GrO.refl s1.has) s1 (wlk_list r1' s1 rfl)⟩
 | ref n=>
  cases hq':lstO Ω1 (.ref n) with
  | none=>
   simp only[srcOf,seqO,hq']at k1
   exact k1.elim
  | some ds=>
   simp only[srcOf,seqO,hq']at k1
   have r1':=r1
   obtain⟨a,vs,rfl,h1,h2⟩:=lstO_use s1 r1 hq'
   exact .inl ⟨a,vs,rfl,h1,k1 _ H1 α1 Z1 (GrO.refl s1.has) s1 (wlk_list r1' s1 (by rw[hq'];rfl))⟩
 | str z=>
  simp only[RepO]at r1
  subst r1
  refine .inr (.inr ⟨z,rfl,k1 _ H1 α1 Z1 (GrO.refl s1.has) s1 ?_⟩)
  intro α2 Z2 Ω2 H2 ds g2 s2 hs
  cases hs
  refine⟨fun i d hd => ?_,fun i hi=>by show z.cps.size<=i;simpa using hi⟩
  have hi:i < z.cps.size:=by
   have:=(List.getElem?_eq_some_iff.mp hd).1
   simpa using this
  refine⟨hi,fun y H3 hy => ?_⟩
  obtain⟨rfl,c,hc,rfl⟩:=hy
  rw[List.getElem?_map]at hd
  have hc':z.cps.toList[i]?=some c:=by simpa using hc
  rw[hc']at hd
  cases hd
  exact⟨Z2,GrO.refl s2.has,s2,repO_flat rfl⟩
 | non=>exact k1.elim
 | bl _=>exact k1.elim
 | int _=>exact k1.elim
 | dct _ _=>exact k1.elim
theorem wlk_ints{lo:Int}{n:Nat}:WlkO κ (.ints lo n) (Itr lo n) α Z H:=by
 intro α1 Z1 Ω1 H1 ds g s hs
 cases hs
 refine⟨fun i d hd => ?_,fun i hi=>by rw[ints_len]at hi;exact hi⟩
 have hi:=(List.getElem?_eq_some_iff.mp hd).1
 rw[ints_len]at hi
 refine⟨hi,fun y H2 hy => ?_⟩
 obtain⟨rfl,rfl⟩:=hy
 rw[ints_get _ _ _ _ hd]
 exact⟨Z1,GrO.refl s.has,s,repO_flat rfl⟩
theorem GoI.useA{r:OutO (List D)}{f:List D->Sto->OutO Src}{R:It->Hp->Prop}{Q':List V->Hp->Prop}(h:GoI κ Φ α Z H (r.bind f) R)(k:∀ ds Ω1,r=.ok ds Ω1->∀ vs H1 α1 Z1,GrO α Z H α1 Z1 H1->StO κ α1 Z1 Ω1 H1->All2 (RepO α1 Z1 H1) ds vs->GoI κ Φ α1 Z1 H1 (f ds Ω1) R->Q' vs H1):GoA κ Φ α Z H r Q':=by
 cases r with
 | ok d Ω1=>exact fun v H1 α1 Z1 g s q=>k d Ω1 rfl v H1 α1 Z1 g s q (GoI.from g h)
 | exc x Ω1=>exact h
 | bad=>exact h
theorem pio_rng1(hg:Gl X "range")(hm:X.mg "range"=none)(ha:PAo X κ Φ [a] as)(hs:starEach [a] X.env=[(false,eval a X.env)]):PIo X κ Φ tg (.Call (.Name "range" p) [a] [] pos) (mRng1 as):=by
 intro α0 Z0 H0 ρ Ω
 refine PI.imp (pi_range1 hg hm (ha α0 Z0 H0 ρ Ω) hs) ?_
 rintro σ H R ⟨α,Z,S,g⟩
 refine⟨α,Z,S,GoI.useA (Q':=fun vs H1=>∃ j:Int,vs=[.int j] /\ -(2 ^ 62)<=j/\j < 2 ^ 62/\R (Itr 0 j.toNat) H1) g fun xs Ω1 _ vs H1 α1 Z1 g1 s1 r1 k1 => ?_⟩
 unfold rng1O at k1
 split at k1
 ·obtain⟨v,rfl,r2⟩:=one_inv r1
  simp only[RepO]at r2
  subst r2
  split at k1
  ·rename_i hi
   have hi:=in62_inv hi
   exact⟨_,rfl,hi.1,hi.2,k1 _ H1 α1 Z1 (GrO.refl s1.has) s1 wlk_ints⟩
  ·exact k1.elim
 ·exact k1.elim
noncomputable def tarO(n:Nat)(d:D):Option OEnv:=match n,d with
 | 0,d=>some [some d]
 | n,.tup ds=>if ds.length=n then some (ds.map some) else none
 | _,_=>none
noncomputable def capO(cap:List Nat)(ρ:OEnv):OEnv:=cap.map fun i=>(ρ[i]?).join
noncomputable def cndO(nc:Bool)(mc:EM)(ρ:OEnv)(Ω:Sto):OutO Bool:=if nc=true then .ok true Ω else tstO (mc ρ Ω)
noncomputable def goO(nc:Bool)(mc me:EM)(n:Nat)(τ:OEnv)(src:Src):Nat->Nat->List D->Sto->OutO (List D)
 | 0,_,_,_=>.bad
 | f + 1,i,acc,Ω=>match srcO src Ω with
  | none=>.bad
  | some ds=>match ds[i]? with
   | none=>.ok acc Ω
   | some d=>match tarO n d with
    | none=>.bad
    | some ts=>if small (acc.length + 1) then match cndO nc mc (ts++τ) Ω with
     | .ok true Ω1=>match me (ts++τ) Ω1 with
      | .ok y Ω2=>goO nc mc me n τ src f (i + 1) (acc++[y]) Ω2
      | _=>.bad
     | .ok false Ω1=>goO nc mc me n τ src f (i + 1) acc Ω1
     | _=>.bad else .bad
noncomputable def mCpr(me:EM)(nc:Bool)(mc:EM)(mi:IM)(n:Nat)(cap:List Nat):EM:=fun ρ Ω=>match mi ρ Ω with
 | .ok s Ω1=>match goO nc mc me n (capO cap ρ) s fuel 0 [] Ω1 with
  | .ok ys Ω2=>newC Ω2 (.lst ys)
  | _=>.bad
 | .exc x Ω1=>.exc x Ω1
 | .bad=>.bad
noncomputable def Φ0:Phi:=fun _ _ _ _ _=>False
theorem blk_simO{cap:List Nat}{ds:List D}{vs:List V}(S:SimO κ α0 Z0 H0 α Z Ω ρ σ H)(g:GrO α Z H α1 Z1 H1)(s:StO κ α1 Z1 Ω' H1)(r:All2 (RepO α1 Z1 H1) ds vs) :
  SimO κ α1 Z1 H1 α1 Z1 Ω' (ds.map some++capO cap ρ) (vs.map some++capV cap σ) H1:=by
 have hl:=r.length
 refine⟨s,GrO.refl s.has,?_,fun i d h => ?_⟩
 ·rw[List.length_append,List.length_append,List.length_map,List.length_map,hl]
  unfold capV capO
  rw[List.length_map,List.length_map]
 ·by_cases hi:i < ds.length
  ·rw[List.getElem?_append_left (by simpa using hi),List.getElem?_map]at h
   rw[List.getElem?_append_left (by simpa[hl] using hi),List.getElem?_map]
   cases q:ds[i]? with
   | none=>rw[q]at h;cases h
   | some d'=>
    rw[q]at h
    cases h
    obtain⟨v,hv,rv⟩:=r.get q
    exact⟨v,by rw[hv];rfl,rv⟩
  ·rw[List.getElem?_append_right (by simpa using hi)]at h
   rw[List.getElem?_append_right (by simpa[hl] using hi)]
   unfold capO at h
   unfold capV
   rw[List.length_map,List.getElem?_map]at h
   rw[List.length_map,hl,List.getElem?_map]
   cases q:cap[i - ds.length]? with
   | none=>rw[q]at h;cases h
   | some j=>
    rw[q]at h
    have h:(ρ[j]?).join=some d:=by simpa using h
    have hj:ρ[j]?=some (some d):=by
     cases q2:ρ[j]? with
     | none=>rw[q2]at h;cases h
     | some o=>rw[q2]at h;rw[show o=some d from h]
    obtain⟨v,hv,rv⟩:=S.val j d hj
    refine⟨v,?_,S.st.repG g rv⟩
    show some ((σ[j]?).join)=_
    rw[hv];rfl
theorem GrO.notin(g:GrO α Z H α' Z' H'){a:Addr}{o:HO}(hn:a∉α)(h:H a=some o):a∉α':=fun q=>by
 rcases g.fre a q with q | q
 ·exact hn q
 ·rw[h]at q;cases q
theorem GrO.notZ(g:GrO α Z H α' Z' H'){a:Addr}{o:HO}(hn:¬ Z a)(h:H a=some o):¬ Z' a:=fun q=>by
 rcases g.new a q with q | q
 ·exact hn q
 ·rw[h]at q;cases q
theorem GrO.side(g:GrO α Z H α' Z' H'){a:Addr}{o:HO}(hn:a∉α)(h:H a=Option.none):GrO α Z H α' Z' (upd H' a o):=
 ⟨g.pre,g.sub,g.new,g.fre,fun b u e hb=>by rw[upd_ne (ne_of_none e h)];exact g.frm b u e hb,fun b hb=>by rw[upd_ne (fun (q:b=a)=>hn (by rw[← q];exact hb))];exact g.has b hb⟩
theorem tarO_sh{n:Nat}{d:D}{τ:OEnv}(h:tarO n d=some τ):∃ ds:List D,τ=ds.map some:=by
 unfold tarO at h
 split at h
 ·cases h;exact⟨[d],rfl⟩
 ·split at h
  ·cases h;exact⟨_,rfl⟩
  ·cases h
 ·cases h
theorem StO.part(S:StO κ α Z Ω H){D0:Addr}{vs:List V}{ds:List D}(hD:H D0=some (.lst vs))(hn:D0∉α)(hz:¬ Z D0)(r:All2 (RepO α Z H) ds vs):StO κ (α++[D0]) Z (Ω++[.lst ds]) H:=by
 have pre:∀ (n:Nat) (a:Addr),α[n]?=some a->(α++[D0])[n]?=some a:=fun n a e=>by rw[List.getElem?_append_left (List.getElem?_eq_some_iff.mp e).1];exact e
 have mono:∀ d v,RepO α Z H d v->RepO (α++[D0]) Z H d v:=fun d v r=>r.mono pre (fun _ _ _ e=>e) fun _ z=>z
 refine⟨?_,?_,fun a ha hz' => ?_,S.dom⟩
 ·refine List.nodup_append.mpr ⟨S.nod,by simp,fun a ha b hb e => ?_⟩
  rw[List.mem_singleton.mp hb]at e
  exact hn (e▸ha)
 ·exact All2.append (S.cel.imp fun c a hc=>hc.imp mono (fun _ e=>e) fun _ _ _ e=>e) (.one ⟨vs,hD,r.imp mono⟩)
 ·rcases List.mem_append.mp ha with ha | ha
  ·exact S.sep a ha hz'
  ·rw[List.mem_singleton.mp ha]at hz';exact hz hz'
theorem StO.side(S:StO κ α Z Ω H){D0:Addr}{o:HO}(hn:D0∉α)(hz:¬ Z D0)(hm:∀ o u,H D0≠some (.frz o u)):StO κ α Z Ω (upd H D0 o)/\∀ d v,RepO α Z H d v->RepO α Z (upd H D0 o) d v:=by
 have mono:∀ d v,RepO α Z H d v->RepO α Z (upd H D0 o) d v:=fun d v r=>r.mono (fun _ _ e=>e) (fun a u z e=>by rw[upd_ne (fun (q:a=D0)=>hz (by rw[← q];exact z))];exact e) fun _ z=>z
 have key:∀ {cs:List Cell} {as:List Addr},(∀ a∈as,a∈α)->All2 (fun c a=>CelR κ (RepO α Z H) H a c) cs as->All2 (fun c a=>CelR κ (RepO α Z (upd H D0 o)) (upd H D0 o) a c) cs as:=by
  intro cs as hin hA
  induction hA with
  | nil=>exact .nil
  | @cons c a cs as r t ih=>
   have hne:a≠D0:=fun q=>hn (q▸hin a (by simp))
   exact .cons (r.imp mono (fun u e=>by rw[upd_ne hne];exact e) fun b o' u' e=>by rw[upd_ne (fun q=>hm o' u' (by rw[← q];exact e))];exact e) (ih fun b hb=>hin b (by simp[hb]))
 exact⟨⟨S.nod,key (fun a h=>h) S.cel,S.sep,fun a z=>by rw[upd_ne (fun (q:a=D0)=>hz (by rw[← q];exact z))];exact S.dom a z⟩,mono⟩
end
end Mir
namespace Mir
open PySem PySem.Spec PyProof.Rows L2
variable [CloTab]
section
variable{X:Cx}{κ:Str->Addr->Prop}{Φ:Phi}{tg iter elt:Expr}{ifs:List Expr}{scope:Scope}{tn cn:List Str}{cap:List Nat}{me mc:EM}{mi:IM}{nc:Bool}{pos:Pos}{n:Nat}
theorem cpr_coreO{g:TG}(hit:PIo X κ Φ tg iter mi)
  (hgt:∀ (d:D) (ds:List D) x α Z Ω H (σ':L2.St) (k:L2.St->Hp->Prop),tarO n d=some (ds.map some)->StO κ α Z Ω H->RepO α Z H d x->(∀ vs,All2 (RepO α Z H) ds vs->k (vs.map some++σ') H)->g x (List.replicate tn.length none++σ') H k)
  (hb:∀ cl C s₀ H₀ fp,PG (blk X scope cl C (tn++cn) s₀ H₀ fp) tg g/\((ifs=[]/\nc=true)\/∃ c,ifs=[c]/\nc=false/\PTo (blk X scope cl C (tn++cn) s₀ H₀ fp) κ Φ0 c mc)/\PEo (blk X scope cl C (tn++cn) s₀ H₀ fp) κ Φ0 elt me) :
  ∀ α0 Z0 H0 ρ Ω,∃ wi tc te,PI X tg iter wi/\(∀ cl C s₀ H₀ fp,PG (blk X scope cl C (tn++cn) s₀ H₀ fp) tg g/\PTs (blk X scope cl C (tn++cn) s₀ H₀ fp) ifs tc/\PE (blk X scope cl C (tn++cn) s₀ H₀ fp) elt te) /\
   ∀ σ H Q,tO κ Φ α0 Z0 H0 (mCpr me nc mc mi n cap) ρ Ω σ H Q->tComp wi tn.length cap g tc te σ H Q:=by
 intro α0 Z0 H0 ρ Ω
 let tc:TT:=fun σ' H Q=>∃ α Z Ω ρ',SimO κ α Z H α Z Ω ρ' σ' H/\GoB κ Φ0 α Z H (cndO nc mc ρ' Ω) Q
 let te:TE:=fun σ' H Q=>∃ α Z Ω ρ',SimO κ α Z H α Z Ω ρ' σ' H/\GoO κ Φ0 α Z H (me ρ' Ω) Q
 have hb':∀ cl C s₀ H₀ fp,PG (blk X scope cl C (tn++cn) s₀ H₀ fp) tg g/\PTs (blk X scope cl C (tn++cn) s₀ H₀ fp) ifs tc/\PE (blk X scope cl C (tn++cn) s₀ H₀ fp) elt te:=by
  intro cl C s₀ H₀ fp
  obtain⟨h1,h2,h3⟩:=hb cl C s₀ H₀ fp
  refine⟨h1,?_,?_⟩
  ·rcases h2 with ⟨e,hn⟩ | ⟨c,e,hn,h2⟩
   ·subst e
    intro pins s σ' H Q I q
    obtain⟨α,Z,Ω,ρ',S,k⟩:=q
    rw[cndO,if_pos hn]at k
    exact pts_nil pins s σ' H Q I (k H α Z (GrO.refl S.st.has) S.st)
   ·subst e
    intro pins s σ' H Q I q
    obtain⟨α,Z,Ω,ρ',S,k⟩:=q
    rw[cndO,if_neg (by rw[hn];exact Bool.false_ne_true)]at k
    exact pts_one (h2 α Z H ρ' Ω) pins s σ' H Q I ⟨α,Z,S,k⟩
  ·intro pins s σ' H Q I q
   obtain⟨α,Z,Ω,ρ',S,k⟩:=q
   exact h3 α Z H ρ' Ω pins s σ' H Q I ⟨α,Z,S,k⟩
 refine⟨_,tc,te,hit α0 Z0 H0 ρ Ω,hb',?_⟩
 rintro σ H Q ⟨α,Z,S,k⟩
 refine⟨α,Z,S,?_⟩
 simp only[mCpr]at k
 cases qi:mi ρ Ω with
 | exc x Ω1=>rw[qi]at k;exact k
 | bad=>rw[qi]at k;exact k.elim
 | ok src Ω1=>
  rw[qi]at k
  dsimp only at k
  intro J H1 α1 Z1 g1 s1 w1 D0 hD
  cases qg:goO nc mc me n (capO cap ρ) src fuel 0 [] Ω1 with
  | exc x Ω2=>rw[qg]at k;exact k.elim
  | bad=>rw[qg]at k;exact k.elim
  | ok ys Ω2=>
   rw[qg]at k
   dsimp only at k
   have hDz1:¬ Z1 D0:=fun z=>s1.dom D0 z hD
   have hDa1:D0∉α1:=fun z=>s1.has D0 z hD
   refine⟨fun i f vs H2=>∃ α2 Z2 Ωi acc,GrO α1 Z1 H1 α2 Z2 H2/\StO κ α2 Z2 Ωi H2/\D0∉α2/\¬ Z2 D0/\H2 D0=some (.lst vs)/\All2 (RepO α2 Z2 H2) acc vs/\goO nc mc me n (capO cap ρ) src f i acc Ωi=.ok ys Ω2,
    ⟨fuel,α1,Z1,Ω1,[],?_,?_,hDa1,hDz1,upd_same,.nil,qg⟩,?_⟩
   ·exact⟨fun _ _ e=>e,fun _ z=>z,fun _ z=>.inl z,fun _ z=>.inl z,fun a o e _=>by rw[upd_ne (ne_of_none e hD)];exact e,fun a ha=>by rw[upd_ne (fun (q:a=D0)=>hDa1 (by rw[← q];exact ha))];exact s1.has a ha⟩
   ·exact(s1.side hDa1 hDz1 fun o u z=>by rw[hD]at z;cases z).1
   rintro i f vs H2 ⟨α2,Z2,Ωi,acc,g2,s2,nD,nZ,hD2,r2,e2⟩
   refine⟨hD2,?_⟩
   cases f with
   | zero=>cases e2
   | succ f=>
    simp only[goO]at e2
    cases qs:srcO src Ωi with
    | none=>rw[qs]at e2;cases e2
    | some ds=>
     rw[qs]at e2
     dsimp only at e2
     obtain⟨wk1,wk2⟩:=w1 α2 Z2 Ωi H2 ds g2 s2 qs
     cases qd:ds[i]? with
     | none=>
      rw[qd]at e2
      cases e2
      have hi:ds.length<=i:=List.getElem?_eq_none_iff.mp qd
      refine .inl ⟨wk2 i hi,?_⟩
      have sf:=s2.part hD2 nD nZ r2
      have gA:GrO α1 Z1 H1 (α2++[D0]) Z2 H2:=⟨fun n a e=>by rw[List.getElem?_append_left (List.getElem?_eq_some_iff.mp (g2.pre n a e)).1];exact g2.pre n a e,g2.sub,g2.new,fun a ha=>by
       rcases List.mem_append.mp ha with ha | ha
       ·exact g2.fre a ha
       ·rw[List.mem_singleton.mp ha];exact .inr hD,g2.frm,g2.has⟩
      exact k _ H2 _ Z2 (g1.trans gA) sf (newC_rep s2 D0)
     | some d=>
      rw[qd]at e2
      dsimp only at e2
      obtain⟨hgo,hyl⟩:=wk1 i d qd
      cases qt:tarO n d with
      | none=>rw[qt]at e2;cases e2
      | some ts=>
       rw[qt]at e2
       dsimp only at e2
       obtain⟨es,rfl⟩:=tarO_sh qt
       by_cases hsm:small (acc.length + 1)=true
       ·rw[if_pos hsm]at e2
        have hsm:=small_iff hsm
        refine .inr ⟨hgo,by rw[r2.length];omega,fun x H3 yl => ?_⟩
        obtain⟨Z3,g3,s3,rx⟩:=hyl x H3 yl
        have nZ3:=g3.notZ nZ hD2
        have hD3:=g3.frm D0 _ hD2 nD
        refine hgt d es x α2 Z3 Ωi H3 (capV cap σ) _ qt s3 rx fun ws rw' => ?_
        have gB:=g1.trans (g2.trans g3)
        have SB:=blk_simO (cap:=cap) S gB s3 rw'
        refine⟨α2,Z3,Ωi,_,SB,?_⟩
        cases qc:cndO nc mc (es.map some++capO cap ρ) Ωi with
        | exc x Ω4=>rw[qc]at e2;cases e2
        | bad=>rw[qc]at e2;cases e2
        | ok b Ω4=>
         rw[qc]at e2
         intro H5 α5 Z5 g5 s5
         have nD5:=g5.notin nD hD3
         have nZ5:=g5.notZ nZ3 hD3
         have hD5:=g5.frm D0 _ hD3 nD
         cases b with
         | false=>
          refine iteF ?_
          exact⟨f,Nat.lt_succ_self _,α5,Z5,Ω4,acc,g2.trans (g3.trans g5),s5,nD5,nZ5,hD5,s3.repsG g5 (s2.repsG g3 r2),e2⟩
         | true=>
          refine iteT ?_
          dsimp only at e2
          have SC:=blk_simO (cap:=cap) S (gB.trans g5) s5 (s3.repsG g5 rw')
          refine⟨α5,Z5,Ω4,_,SC,?_⟩
          cases qe:me (es.map some++capO cap ρ) Ω4 with
          | exc x Ω6=>rw[qe]at e2;cases e2
          | bad=>rw[qe]at e2;cases e2
          | ok y Ω6=>
           rw[qe]at e2
           intro v H6 α6 Z6 g6 s6 rv
           have nD6:=g6.notin nD5 hD5
           have nZ6:=g6.notZ nZ5 hD5
           have hD6:=g6.frm D0 _ hD5 nD5
           obtain⟨s7,m7⟩:=s6.side (o:=.lst (vs++[v])) nD6 nZ6 (fun o u z=>by rw[hD6]at z;cases z)
           refine⟨hD6,f,Nat.lt_succ_self _,α6,Z6,Ω6,acc++[y],((g2.trans (g3.trans g5)).trans g6).side hDa1 hD,s7,nD6,nZ6,upd_same,?_,e2⟩
           exact((s5.repsG g6 (s3.repsG g5 (s2.repsG g3 r2))).append (.one rv)).imp m7
       ·rw[if_neg hsm]at e2;cases e2
theorem cpr_coreO1{x:Str}{px:Pos}(hit:PIo X κ Φ (.Name x px) iter mi)(hx:scope.names.lookup x=some .local)(hnd:([x]++cn).Nodup)
  (hb:∀ cl C s₀ H₀ fp,((ifs=[]/\nc=true)\/∃ c,ifs=[c]/\nc=false/\PTo (blk X scope cl C ([x]++cn) s₀ H₀ fp) κ Φ0 c mc)/\PEo (blk X scope cl C ([x]++cn) s₀ H₀ fp) κ Φ0 elt me) :
  ∀ α0 Z0 H0 ρ Ω,∃ wi tc te,PI X (.Name x px) iter wi/\(∀ cl C s₀ H₀ fp,PG (blk X scope cl C ([x]++cn) s₀ H₀ fp) (.Name x px) (gName 0)/\PTs (blk X scope cl C ([x]++cn) s₀ H₀ fp) ifs tc/\PE (blk X scope cl C ([x]++cn) s₀ H₀ fp) elt te) /\
   ∀ σ H Q,tO κ Φ α0 Z0 H0 (mCpr me nc mc mi 0 cap) ρ Ω σ H Q->tComp wi [x].length cap (gName 0) tc te σ H Q:=by
 have hl:(relabel scope X.env).names.lookup x=some .local:=lookup_relabel_local hx
 refine cpr_coreO (g:=gName 0) (tn:=[x]) hit (fun d ds y α Z Ω H σ' k ht S rx hk => ?_) fun cl C s₀ H₀ fp => ?_
 ·have ht:some [some d]=some (ds.map some):=ht
  have e:ds=[d]:=by
   injection ht with ht
   cases ds with
   | nil=>cases ht
   | cons a r=>
    cases r with
    | nil=>simp only[List.map_cons,List.map_nil,List.cons.injEq,Option.some.injEq,and_true]at ht;rw[ht]
    | cons _ _=>cases ht
  subst e
  exact hk [y] (.one rx)
 ·obtain⟨h1,h2⟩:=hb cl C s₀ H₀ fp
  exact⟨pg_name (X:=blk X scope cl C ([x]++cn) s₀ H₀ fp) hnd rfl (.inl hl) (.inr hl),h1,h2⟩
theorem peo_cpr1{x:Str}{px:Pos}(hc:X.calm=true)(B:BlkSc X scope [x] cn cap)(hs:∀ z,foldedSetIterable iter X.env z=pure z)(hit:PIo X κ Φ (.Name x px) iter mi)(hx:scope.names.lookup x=some .local)(hnd:([x]++cn).Nodup)
  (hb:∀ cl C s₀ H₀ fp,((ifs=[]/\nc=true)\/∃ c,ifs=[c]/\nc=false/\PTo (blk X scope cl C ([x]++cn) s₀ H₀ fp) κ Φ0 c mc)/\PEo (blk X scope cl C ([x]++cn) s₀ H₀ fp) κ Φ0 elt me) :
  PEo X κ Φ (.ListComp elt [⟨.Name x px,iter,ifs,0⟩] scope pos) (mCpr me nc mc mi 0 cap):=by
 intro α0 Z0 H0 ρ Ω
 obtain⟨wi,tc,te,h1,h2,h3⟩:=cpr_coreO1 (cap:=cap) hit hx hnd hb α0 Z0 H0 ρ Ω
 exact PE.imp (pe_comp hc B h1 hs (gname_keeps 1 (by decide)) h2) h3
end
end Mir
namespace Mir
open PySem PySem.Spec PyProof.Rows L2
variable [CloTab]
inductive ResO where
 | nx (ρ:OEnv) (Ω:Sto) | bk (ρ:OEnv) (Ω:Sto) | ct (ρ:OEnv) (Ω:Sto) | rt (d:D) (Ω:Sto) | exc (x:D) (Ω:Sto) | bad
noncomputable abbrev SM:=OEnv->Sto->ResO
noncomputable def FinO(κ:Str->Addr->Prop)(Φ:Phi)(α0:List Addr)(Z0:Addr->Prop)(H0:Hp)(E:Ends):ResO->Prop
 | .nx ρ Ω=>∀ σ H α Z,SimO κ α0 Z0 H0 α Z Ω ρ σ H->E.nx σ H
 | .bk ρ Ω=>∀ σ H α Z,SimO κ α0 Z0 H0 α Z Ω ρ σ H->E.bk σ H
 | .ct ρ Ω=>∀ σ H α Z,SimO κ α0 Z0 H0 α Z Ω ρ σ H->E.ct σ H
 | .rt d Ω=>∀ v H α Z,GrO α0 Z0 H0 α Z H->StO κ α Z Ω H->RepO α Z H d v->E.rt v H
 | .exc x Ω=>∀ H α Z,GrO α0 Z0 H0 α Z H->StO κ α Z Ω H->Φ x Ω α Z H
 | .bad=>False
noncomputable def tSO(κ:Str->Addr->Prop)(Φ:Phi)(α0:List Addr)(Z0:Addr->Prop)(H0:Hp)(c:SM)(ρ:OEnv)(Ω:Sto):TS:=fun E σ H=>∃ α Z,SimO κ α0 Z0 H0 α Z Ω ρ σ H/\FinO κ Φ α0 Z0 H0 E (c ρ Ω)
noncomputable def PSo(X:Cx)(κ:Str->Addr->Prop)(Φ:Phi)(st:Stmt)(c:SM):Prop:=∀ α0 Z0 H0 ρ Ω,PS X st (tSO κ Φ α0 Z0 H0 c ρ Ω)
noncomputable def PSso(X:Cx)(κ:Str->Addr->Prop)(Φ:Phi)(sts:List Stmt)(c:SM):Prop:=∀ α0 Z0 H0 ρ Ω,PSs X sts (tSO κ Φ α0 Z0 H0 c ρ Ω)
noncomputable def liftO{β:Type}(r:OutO β)(k:β->Sto->ResO):ResO:=match r with
 | .ok a Ω=>k a Ω
 | .exc x Ω=>.exc x Ω
 | .bad=>.bad
noncomputable def sSkip:SM:=fun ρ Ω=>.nx ρ Ω
noncomputable def sSeq(a b:SM):SM:=fun ρ Ω=>match a ρ Ω with
 | .nx ρ' Ω'=>b ρ' Ω'
 | r=>r
noncomputable def sAsg(i:Nat)(m:EM):SM:=fun ρ Ω=>liftO (m ρ Ω) fun d Ω1=>.nx (ρ.set i (some d)) Ω1
noncomputable def sExp(m:EM):SM:=fun ρ Ω=>liftO (m ρ Ω) fun _ Ω1=>.nx ρ Ω1
noncomputable def sRet(m:EM):SM:=fun ρ Ω=>liftO (m ρ Ω) fun d Ω1=>.rt d Ω1
noncomputable def sIf(m:EM)(a b:SM):SM:=fun ρ Ω=>liftO (tstO (m ρ Ω)) fun t Ω1=>if t=true then a ρ Ω1 else b ρ Ω1
noncomputable def sNever:SM:=fun _ _=>.bad
noncomputable def whlO(m:EM)(b:SM):Nat->SM
 | 0,_,_=>.bad
 | f + 1,ρ,Ω=>liftO (tstO (m ρ Ω)) fun t Ω1=>if t=true then (match b ρ Ω1 with
  | .nx ρ' Ω'=>whlO m b f ρ' Ω'
  | .ct ρ' Ω'=>whlO m b f ρ' Ω'
  | .bk ρ' Ω'=>.nx ρ' Ω'
  | r=>r) else .nx ρ Ω1
noncomputable def sWhl(m:EM)(b:SM):SM:=whlO m b fuel
noncomputable def putAllO:List Nat->List D->OEnv->OEnv
 | i::is,d::ds,ρ=>putAllO is ds (ρ.set i (some d))
 | _,_,ρ=>ρ
noncomputable def putO1(i:Nat)(d:D)(ρ:OEnv):Option OEnv:=some (ρ.set i (some d))
noncomputable def putOT(is:List Nat)(d:D)(ρ:OEnv):Option OEnv:=match d with
 | .tup ds=>if ds.length=is.length then some (putAllO is ds ρ) else none
 | _=>none
noncomputable def loopO(put:D->OEnv->Option OEnv)(src:Src)(b:SM):Nat->Nat->SM
 | 0,_,_,_=>.bad
 | f + 1,i,ρ,Ω=>match srcO src Ω with
  | none=>.bad
  | some ds=>match ds[i]? with
   | none=>.nx ρ Ω
   | some d=>match put d ρ with
    | none=>.bad
    | some ρ1=>match b ρ1 Ω with
     | .nx ρ' Ω'=>loopO put src b f (i + 1) ρ' Ω'
     | .ct ρ' Ω'=>loopO put src b f (i + 1) ρ' Ω'
     | .bk ρ' Ω'=>.nx ρ' Ω'
     | r=>r
noncomputable def sFor(put:D->OEnv->Option OEnv)(mi:IM)(b:SM):SM:=fun ρ Ω=>liftO (mi ρ Ω) fun s Ω1=>loopO put s b fuel 0 ρ Ω1
noncomputable def sUnp(is:List Nat)(m:EM):SM:=fun ρ Ω=>liftO (m ρ Ω) fun d Ω1=>match putOT is d ρ with
 | some ρ'=>.nx ρ' Ω1
 | none=>.bad
section
variable{X:Cx}{κ:Str->Addr->Prop}{Φ:Phi}{α α' α0 α1:List Addr}{Z Z' Z0 Z1:Addr->Prop}{Ω Ω':Sto}{H H' H0 H1:Hp}{ρ:OEnv}{σ:L2.St}{E:Ends}{a b e ce o tg:Expr}{st:Stmt}{rest ta tb:List Stmt}{m:EM}{mi:IM}{ca cb:SM}{pos pos':Pos}
theorem SimO.set(S:SimO κ α0 Z0 H0 α Z Ω ρ σ H){d:D}{v:V}(r:RepO α Z H d v)(i:Nat):SimO κ α0 Z0 H0 α Z Ω (ρ.set i (some d)) (σ.set i (some v)) H:=by
 refine⟨S.st,S.gr,by simp[S.len],fun j d' h => ?_⟩
 by_cases hij:i=j
 ·subst hij
  have hl:i < ρ.length:=by
   have:=(List.getElem?_eq_some_iff.mp h).1
   simpa using this
  rw[List.getElem?_set_self hl]at h
  cases h
  exact⟨v,by rw[List.getElem?_set_self (by rw[S.len];exact hl)],r⟩
 ·rw[List.getElem?_set_ne hij]at h ⊢
  exact S.val j d' h
theorem FinO.use{r:OutO D}{k:D->Sto->ResO}{Q:VK}(S:SimO κ α0 Z0 H0 α Z Ω ρ σ H)(f:FinO κ Φ α0 Z0 H0 E (liftO r k))(h:∀ d Ω1 v H1 α1 Z1,r=.ok d Ω1->GrO α Z H α1 Z1 H1->SimO κ α0 Z0 H0 α1 Z1 Ω1 ρ σ H1->RepO α1 Z1 H1 d v->FinO κ Φ α0 Z0 H0 E (k d Ω1)->Q v H1):GoO κ Φ α Z H r Q:=by
 cases r with
 | ok d Ω1=>exact fun v H1 α1 Z1 g s q=>h d Ω1 v H1 α1 Z1 rfl g (S.grow g s) q f
 | exc x Ω1=>exact fun H1 α1 Z1 g s=>f H1 α1 Z1 (S.gr.trans g) s
 | bad=>exact f
theorem FinO.useB{r:OutO Bool}{k:Bool->Sto->ResO}{Q:Bool->Hp->Prop}(S:SimO κ α0 Z0 H0 α Z Ω ρ σ H)(f:FinO κ Φ α0 Z0 H0 E (liftO r k))(h:∀ t Ω1 H1 α1 Z1,r=.ok t Ω1->GrO α Z H α1 Z1 H1->SimO κ α0 Z0 H0 α1 Z1 Ω1 ρ σ H1->FinO κ Φ α0 Z0 H0 E (k t Ω1)->Q t H1):GoB κ Φ α Z H r Q:=by
 cases r with
 | ok d Ω1=>exact fun H1 α1 Z1 g s=>h d Ω1 H1 α1 Z1 rfl g (S.grow g s) f
 | exc x Ω1=>exact fun H1 α1 Z1 g s=>f H1 α1 Z1 (S.gr.trans g) s
 | bad=>exact f
theorem PSs.ex{ι:Type}{t:ι->TS}{sts:List Stmt}(h:∀ i,PSs X sts (t i)):PSs X sts (fun D σ H=>∃ i,t i D σ H):=fun pins s σ H D I ⟨i,q⟩=>h i pins s σ H D I q
theorem pso_nil:PSso X κ Φ [] sSkip:=by
 intro α0 Z0 H0 ρ Ω
 refine PSs.imp pss_nil ?_
 rintro E σ H ⟨α,Z,S,f⟩
 exact f σ H α Z S
theorem pso_cons(h1:PSo X κ Φ st ca)(h2:PSso X κ Φ rest cb):PSso X κ Φ (st::rest) (sSeq ca cb):=by
 intro α0 Z0 H0 ρ Ω
 refine PSs.imp (pss_cons (h1 α0 Z0 H0 ρ Ω) (PSs.ex fun p:OEnv×Sto=>h2 α0 Z0 H0 p.1 p.2)) ?_
 rintro E σ H ⟨α,Z,S,f⟩
 refine⟨α,Z,S,?_⟩
 simp only[sSeq]at f
 cases q:ca ρ Ω with
 | nx ρ' Ω'=>rw[q]at f;exact fun σ' H' α' Z' S'=>⟨(ρ',Ω'),α',Z',S',f⟩
 | bk ρ' Ω'=>rw[q]at f;exact f
 | ct ρ' Ω'=>rw[q]at f;exact f
 | rt d Ω'=>rw[q]at f;exact f
 | exc x Ω'=>rw[q]at f;exact f
 | bad=>rw[q]at f;exact f.elim
theorem pso_ret(h:PEo X κ Φ e m):PSo X κ Φ (.Return (some e) pos) (sRet m):=by
 intro α0 Z0 H0 ρ Ω
 refine PS.imp (ps_ret (h α0 Z0 H0 ρ Ω)) ?_
 rintro E σ H ⟨α,Z,S,f⟩
 exact⟨α,Z,S,FinO.use S f fun d Ω1 v H1 α1 Z1 _ g S1 r f1=>f1 v H1 α1 Z1 S1.gr S1.st r⟩
theorem pso_asg{i:Nat}{x:Str}(hN:X.N.Nodup)(hi:X.N[i]?=some x)(hx:Loc X.env.scope x)(hf:X.fn x=true\/X.env.scope.names.lookup x=some .local)(hs:swapsWith e (some (.Name x pos')) pos.line X.env=pure false)(h:PEo X κ Φ e m) :
  PSo X κ Φ (.Assign [.Name x pos'] e pos) (sAsg i m):=by
 intro α0 Z0 H0 ρ Ω
 refine PS.imp (ps_set hN hi hx (h α0 Z0 H0 ρ Ω) hs hf) ?_
 rintro E σ H ⟨α,Z,S,f⟩
 exact⟨α,Z,S,FinO.use S f fun d Ω1 v H1 α1 Z1 _ g S1 r f1=>f1 _ H1 α1 Z1 (S1.set r i)⟩
theorem pso_asgC{i:Nat}{x:Str}{elt iter tg:Expr}{ifs:List Expr}{scope:Scope}{tn cn:List Str}{cap:List Nat}{g:TG}(hN:X.N.Nodup)(hi:X.N[i]?=some x)(hx:X.env.scope.names.lookup x=some .local)
  (hsw:swapsWith (.ListComp elt [⟨tg,iter,ifs,0⟩] scope pos) (some (.Name x pos')) pos'.line X.env=pure true) (hc:X.calm=true) (B:BlkSc X scope tn cn cap) (hs:∀ x,foldedSetIterable iter X.env x=pure x)
  (hgk:∀ v σ H Q,g v σ H Q->g v σ H fun σ' H'=>Q σ' H'/\σ'.length=σ.length/\∀ j,tn.length<=j->σ'[j]?=σ[j]?)
  (h:∀ α0 Z0 H0 ρ Ω,∃ wi tc te,PI X tg iter wi/\(∀ cl C s₀ H₀ fp,PG (blk X scope cl C (tn++cn) s₀ H₀ fp) tg g/\PTs (blk X scope cl C (tn++cn) s₀ H₀ fp) ifs tc/\PE (blk X scope cl C (tn++cn) s₀ H₀ fp) elt te) /\
   ∀ σ H Q,tO κ Φ α0 Z0 H0 m ρ Ω σ H Q->tComp wi tn.length cap g tc te σ H Q) {spos:Pos} (hl:spos.line=pos'.line) :
  PSo X κ Φ (.Assign [.Name x pos'] (.ListComp elt [⟨tg,iter,ifs,0⟩] scope pos) spos) (sAsg i m):=by
 intro α0 Z0 H0 ρ Ω
 obtain⟨wi,tc,te,h1,h2,h3⟩:=h α0 Z0 H0 ρ Ω
 refine PS.imp (ps_setComp hN hi hx (by rw[hl];exact hsw) hc B h1 hs hgk h2) ?_
 rintro E σ H ⟨α,Z,S,f⟩
 exact h3 σ H _ ⟨α,Z,S,FinO.use S f fun d Ω1 v H1 α1 Z1 _ g S1 r f1=>f1 _ H1 α1 Z1 (S1.set r i)⟩
theorem pso_exp(hs:swapsWith e none pos.line X.env=pure false)(h:PEo X κ Φ e m):PSo X κ Φ (.Expr e pos) (sExp m):=by
 intro α0 Z0 H0 ρ Ω
 refine PS.imp (ps_expr (h α0 Z0 H0 ρ Ω) hs) ?_
 rintro E σ H ⟨α,Z,S,f⟩
 exact⟨α,Z,S,FinO.use S f fun d Ω1 v H1 α1 Z1 _ g S1 r f1=>f1 _ H1 α1 Z1 S1⟩
theorem pso_if(hc:PTo X κ Φ e m)(ha:PSso X κ Φ ta ca)(hb:PSso X κ Φ tb cb):PSo X κ Φ (.If e ta tb pos) (sIf m ca cb):=by
 intro α0 Z0 H0 ρ Ω
 refine PS.imp (ps_if (hc α0 Z0 H0 ρ Ω) (PSs.ex fun Ω1=>ha α0 Z0 H0 ρ Ω1) (PSs.ex fun Ω1=>hb α0 Z0 H0 ρ Ω1)) ?_
 rintro E σ H ⟨α,Z,S,f⟩
 refine⟨α,Z,S,FinO.useB S f fun t Ω1 H1 α1 Z1 _ g S1 f1 => ?_⟩
 cases t with
 | true=>rw[if_pos rfl]at f1;exact iteT ⟨Ω1,α1,Z1,S1,f1⟩
 | false=>rw[if_neg Bool.false_ne_true]at f1;exact iteF ⟨Ω1,α1,Z1,S1,f1⟩
theorem pso_never:PSo X κ Φ st sNever:=fun α0 Z0 H0 ρ Ω pins s σ H E I ⟨α,Z,S,f⟩=>f.elim
theorem pso_while(hp:PassesOwn (model X.prog X.w) X.A X.env X.xe)(hc:PTo X κ Φ e m)(hb:PSso X κ Φ tb cb):PSo X κ Φ (.While e tb [] pos) (sWhl m cb):=by
 intro α0 Z0 H0 ρ Ω
 refine PS.imp (ps_while hp (PT.ex fun p:OEnv×Sto=>hc α0 Z0 H0 p.1 p.2) (PSs.ex fun p:OEnv×Sto=>hb α0 Z0 H0 p.1 p.2)) ?_
 rintro E σ H ⟨α,Z,S,f⟩
 refine⟨fun f σ H=>∃ α Z ρ Ω,SimO κ α0 Z0 H0 α Z Ω ρ σ H/\FinO κ Φ α0 Z0 H0 E (whlO m cb f ρ Ω),⟨fuel,α,Z,ρ,Ω,S,f⟩,?_⟩
 rintro f σ1 H1 ⟨α1,Z1,ρ1,Ω1,S1,f1⟩
 cases f with
 | zero=>exact f1.elim
 | succ f=>
  simp only[whlO]at f1
  refine⟨(ρ1,Ω1),α1,Z1,S1,FinO.useB S1 f1 fun t Ω2 H2 α2 Z2 _ g S2 f2 => ?_⟩
  cases t with
  | false=>
   rw[if_neg Bool.false_ne_true]at f2
   exact iteF (f2 _ _ _ _ S2)
  | true=>
   rw[if_pos rfl]at f2
   refine iteT ⟨fun σ' H'=>∃ α Z ρ Ω,SimO κ α0 Z0 H0 α Z Ω ρ σ' H'/\FinO κ Φ α0 Z0 H0 E (whlO m cb f ρ Ω),fun σ' H' q=>⟨f,Nat.lt_succ_self f,q⟩,(ρ1,Ω2),α2,Z2,S2,?_⟩
   cases q:cb ρ1 Ω2 with
   | nx ρ' Ω'=>rw[q]at f2;exact fun σ' H' α' Z' S'=>⟨α',Z',ρ',Ω',S',f2⟩
   | ct ρ' Ω'=>rw[q]at f2;exact fun σ' H' α' Z' S'=>⟨α',Z',ρ',Ω',S',f2⟩
   | bk ρ' Ω'=>rw[q]at f2;exact f2
   | rt d Ω'=>rw[q]at f2;exact f2
   | exc x Ω'=>rw[q]at f2;exact f2
   | bad=>rw[q]at f2;exact f2.elim
noncomputable def gPutO(κ:Str->Addr->Prop)(put:D->OEnv->Option OEnv)(g:TG):Prop:=
 ∀ (d:D) (x:V) α0 Z0 H0 α Z Ω ρ ρ' σ H (k:L2.St->Hp->Prop),SimO κ α0 Z0 H0 α Z Ω ρ σ H->RepO α Z H d x->put d ρ=some ρ'->(∀ σ',SimO κ α0 Z0 H0 α Z Ω ρ' σ' H->k σ' H)->g x σ H k
theorem pso_for{put:D->OEnv->Option OEnv}{g:TG}(hp:PassesOwn (model X.prog X.w) X.A X.env X.xe)(hc:X.calm=true)(hi:PIo X κ Φ tg e mi)(hg:PG X tg g)(hgp:gPutO κ put g)(hb:PSso X κ Φ tb cb)(hs:∀ x,foldedSetIterable e X.env x=pure x):PSo X κ Φ (.For tg e tb [] pos) (sFor put mi cb):=by
 intro α0 Z0 H0 ρ Ω
 have hb':PSs X tb (fun D σ H=>∃ α1 Z1 H1 ρ' Ω',tSO κ Φ α1 Z1 H1 cb ρ' Ω' D σ H):=fun pins s σ H D I ⟨α1,Z1,H1,ρ',Ω',q⟩=>hb α1 Z1 H1 ρ' Ω' pins s σ H D I q
 refine PS.imp (ps_for hp hc (hi α0 Z0 H0 ρ Ω) hg hb' hs) ?_
 rintro E σ H ⟨α,Z,S,f⟩
 refine⟨α,Z,S,?_⟩
 simp only[sFor]at f
 cases qi:mi ρ Ω with
 | exc x Ω1=>rw[qi]at f;exact fun H1 α1 Z1 g s=>f H1 α1 Z1 (S.gr.trans g) s
 | bad=>rw[qi]at f;exact f.elim
 | ok src Ω1=>
  rw[qi]at f
  have f:FinO κ Φ α0 Z0 H0 E (loopO put src cb fuel 0 ρ Ω1):=f
  intro J H1 α1 Z1 g1 s1 w1
  have S1:=S.grow g1 s1
  refine⟨fun i f σ H=>∃ α2 Z2 ρ Ω,SimO κ α0 Z0 H0 α2 Z2 Ω ρ σ H/\GrO α1 Z1 H1 α2 Z2 H/\FinO κ Φ α0 Z0 H0 E (loopO put src cb f i ρ Ω),⟨fuel,α1,Z1,ρ,Ω1,S1,GrO.refl s1.has,f⟩,?_⟩
  rintro i f σ2 H2 ⟨α2,Z2,ρ2,Ω2,S2,g2,f2⟩
  cases f with
  | zero=>exact f2.elim
  | succ f=>
   simp only[loopO]at f2
   cases qs:srcO src Ω2 with
   | none=>rw[qs]at f2;exact f2.elim
   | some ds=>
    rw[qs]at f2
    dsimp only at f2
    obtain⟨wk1,wk2⟩:=w1 α2 Z2 Ω2 H2 ds g2 S2.st qs
    cases qd:ds[i]? with
    | none=>
     rw[qd]at f2
     exact .inl ⟨wk2 i (List.getElem?_eq_none_iff.mp qd),f2 σ2 H2 α2 Z2 S2⟩
    | some d=>
     rw[qd]at f2
     dsimp only at f2
     obtain⟨hgo,hyl⟩:=wk1 i d qd
     cases qp:put d ρ2 with
     | none=>rw[qp]at f2;exact f2.elim
     | some ρ3=>
      rw[qp]at f2
      dsimp only at f2
      refine .inr ⟨hgo,fun σ' H'=>∃ α3 Z3 ρ Ω,SimO κ α0 Z0 H0 α3 Z3 Ω ρ σ' H'/\GrO α1 Z1 H1 α3 Z3 H'/\FinO κ Φ α0 Z0 H0 E (loopO put src cb f (i + 1) ρ Ω),fun σ' H' q=>⟨f,Nat.lt_succ_self f,q⟩,fun x H3 yl => ?_⟩
      obtain⟨Z3,g3,s3,rx⟩:=hyl x H3 yl
      have S3:=S2.grow g3 s3
      refine hgp d x α0 Z0 H0 α2 Z3 Ω2 ρ2 ρ3 σ2 H3 _ S3 rx qp fun σ4 S4 => ?_
      have base:GrO α0 Z0 H0 α1 Z1 H1:=S1.gr
      have gL:GrO α1 Z1 H1 α2 Z3 H3:=g2.trans g3
      have S5:SimO κ α1 Z1 H1 α2 Z3 Ω2 ρ3 σ4 H3:=⟨S4.st,gL,S4.len,S4.val⟩
      have out:∀ {α3 Z4 Ω3 ρ' σ' H'},SimO κ α1 Z1 H1 α3 Z4 Ω3 ρ' σ' H'->SimO κ α0 Z0 H0 α3 Z4 Ω3 ρ' σ' H':=fun S'=>⟨S'.st,base.trans S'.gr,S'.len,S'.val⟩
      refine⟨α1,Z1,H1,ρ3,Ω2,α2,Z3,S5,?_⟩
      cases q:cb ρ3 Ω2 with
      | nx ρ' Ω'=>rw[q]at f2;exact fun σ' H' α' Z' S'=>⟨α',Z',ρ',Ω',out S',S'.gr,f2⟩
      | ct ρ' Ω'=>rw[q]at f2;exact fun σ' H' α' Z' S'=>⟨α',Z',ρ',Ω',out S',S'.gr,f2⟩
      | bk ρ' Ω'=>rw[q]at f2;exact fun σ' H' α' Z' S'=>f2 σ' H' α' Z' (out S')
      | rt d Ω'=>rw[q]at f2;exact fun v H' α' Z' g s r=>f2 v H' α' Z' (base.trans g) s r
      | exc x Ω'=>rw[q]at f2;exact fun H' α' Z' g s=>f2 H' α' Z' (base.trans g) s
      | bad=>rw[q]at f2;exact f2.elim
theorem gputO1(i:Nat):gPutO κ (putO1 i) (gName i):=fun d x α0 Z0 H0 α Z Ω ρ ρ' σ H k S r e h=>by
 cases e
 exact h _ (S.set r i)
theorem putAll_sim:∀ (is:List Nat) (ds:List D) (vs:List V) {ρ:OEnv} {σ:L2.St},All2 (RepO α Z H) ds vs->ds.length=is.length->SimO κ α0 Z0 H0 α Z Ω ρ σ H->∀ (k:L2.St->Hp->Prop),(∀ σ',SimO κ α0 Z0 H0 α Z Ω (putAllO is ds ρ) σ' H->k σ' H)->gNames is vs σ H k
 | [],[],vs,ρ,σ,r,_,S,k,h=>by rw[r.nil_inv];exact⟨rfl,h σ S⟩
 | i::is,d::ds,vs,ρ,σ,r,hl,S,k,h=>by
  obtain⟨v,ws,rfl,r1,r2⟩:=r.cons_inv
  exact⟨v,ws,rfl,putAll_sim is ds ws r2 (by simpa using hl) (S.set r1 i) k h⟩
 | [],_::_,_,_,_,_,hl,_,_,_=>by simp at hl
 | _::_,[],_,_,_,_,hl,_,_,_=>by simp at hl
theorem gputOT{K:PySem.W.Frag}(is:List Nat):gPutO κ (putOT is) (gTup K is.length (gNames is)):=fun d x α0 Z0 H0 α Z Ω ρ ρ' σ H k S r e h=>by
 cases d with
 | tup ds=>
  simp only[putOT]at e
  split at e
  ·rename_i hl
   cases e
   obtain⟨a,vs,rfl,_,h1,h2⟩:=tup_use r
   exact⟨a,vs,rfl,sqT (.inl h1),by rw[h2.length];exact hl,putAll_sim is ds vs h2 hl S k h⟩
  ·cases e
 | _=>cases e
theorem pso_unp{es:List Expr}{j:Nat}{p pos:Pos}{is:List Nat}(hg:PG X (.Tuple es j p) (gTup X.K is.length (gNames is)))(hp:plainV e=true)(h:PEo X κ Φ e m):PSo X κ Φ (.Assign [.Tuple es j p] e pos) (sUnp is m):=by
 intro α0 Z0 H0 ρ Ω
 refine PS.imp (ps_asg (h α0 Z0 H0 ρ Ω) hg (by cases e<;>first | rfl | (simp[plainV]at hp)) (by cases e<;>first | rfl | (simp[plainV]at hp))) ?_
 rintro E σ H ⟨α,Z,S,f⟩
 refine⟨α,Z,S,FinO.use S f fun d Ω1 v H1 α1 Z1 _ g S1 r f1 => ?_⟩
 split at f1
 ·rename_i ρ' hq
  exact gputOT (K:=X.K) is d v α0 Z0 H0 α1 Z1 Ω1 ρ ρ' σ H1 _ S1 r hq fun σ' S'=>f1 σ' H1 α1 Z1 S'
 ·exact f1.elim
end
end Mir
namespace Mir
open PySem PySem.Spec PyProof.Rows L2
variable [CloTab]
noncomputable abbrev FnO:=List D->Sto->OutO D
noncomputable def objSp(κ:Str->Addr->Prop)(F:FnO):Sp:=fun vs H Q _=>∃ α Z Ω ds,StO κ α Z Ω H/\All2 (RepO α Z H) ds vs/\GoO κ Φ0 α Z H (F ds Ω) Q
noncomputable def okO{β:Type}(r:OutO β):OutO β:=match r with
 | .ok d Ω=>.ok d Ω
 | _=>.bad
noncomputable def callO(F:FnO):FnO:=fun xs Ω=>okO (F xs Ω)
structure FnInO(X:Cx)(κ:Str->Addr->Prop)(k:Nat)(x:Str)(F:FnO):Prop where
 ex:∃ (f:Addr) (fd:FuncData) (ps:List Str),X.mg x=some (.ref f)/\PySem.W.keepIn X.K (.ref f)=true/\Binds X.K fd ps []/\FnOk X.prog X.w X.K X.mg X.base CX0 k f fd ps (objSp κ F)
noncomputable def insO(Ω:Sto):D->Option (Nat×Str×List (Str×D))
 | .ref k=>match Ω[k]? with
  | some (.ins C fs)=>some (k,C,fs)
  | _=>none
 | _=>none
noncomputable def dputO(x y v:D)(Ω:Sto):Option Sto:=match x with
 | .ref k=>match Ω[k]? with
  | some (.dK kvs)=>match keyD y with
   | some ky=>if small (kvs.length + 1) then some (Ω.set k (.dK (putG kvs ky v))) else none
   | none=>none
  | some (.dT kvs)=>match keysD y with
   | some ky=>if small (kvs.length + 1) then some (Ω.set k (.dT (putG kvs ky v))) else none
   | none=>none
  | some (.lst ds)=>match y with
   | .int i=>match L2.ixN ds.length i with
    | some n=>some (Ω.set k (.lst (ds.set n v)))
    | none=>none
   | _=>none
  | _=>none
 | _=>none
noncomputable def sDput(md mk mv:EM):SM:=fun ρ Ω=>liftO (mv ρ Ω) fun v Ω1=>liftO (md ρ Ω1) fun x Ω2=>liftO (mk ρ Ω2) fun y Ω3=>match dputO x y v Ω3 with
 | some Ω4=>.nx ρ Ω4
 | none=>.bad
section
variable{X:Cx}{κ:Str->Addr->Prop}{Φ:Phi}{α α' α0 α1:List Addr}{Z Z' Z0 Z1:Addr->Prop}{Ω Ω':Sto}{H H' H0 H1:Hp}{ρ:OEnv}{σ:L2.St}{Q:VK}{E:Ends}{a b e ce o tg:Expr}{es:List Expr}{st:Stmt}{rest ta tb:List Stmt}{m mo mv ma md mk:EM}{as:AM}{ca cb:SM}{pos pos' p apos:Pos}{F:FnO}{C:Str}
theorem GoO.ok0{r:OutO D}(h:GoO κ Φ α Z H (okO r) Q):GoO κ Φ0 α Z H r Q:=by
 cases r with
 | ok d Ω=>exact h
 | exc x Ω=>exact h.elim
 | bad=>exact h
theorem peo_call{k:Nat}{x:Str}(F0:FnInO X κ k x F)(hr:Room k X.A)(hg:Gl X x)(hdb:(x == ("__debug__":Str))=false)
  (he:starEach (e::es) X.env=(false,eval e X.env)::starEach es X.env) (hpl:(backTo pos (starEach es X.env)).any (·.1)=false) (ha:PAo X κ Φ (e::es) as) :
  PEo X κ Φ (.Call (.Name x p) (e::es) [] pos) (mN (callO F) as):=by
 obtain⟨f,fd,ps,hm,hk,hb,F1⟩:=F0.ex
 intro α0 Z0 H0 ρ Ω
 refine PE.imp (pe_call F1 hr hg hm hk hb .nil pass0 (ha α0 Z0 H0 ρ Ω) hdb he hpl) ?_
 rintro σ H Q ⟨α,Z,S,g⟩
 refine⟨α,Z,S,GoA.use g fun xs Ω1 _ vs H1 α1 Z1 g1 s1 r1 k1 => ?_⟩
 show objSp κ F (vs++[]) H1 Q E0
 rw[List.append_nil]
 exact⟨α1,Z1,Ω1,xs,s1,r1,GoO.ok0 k1⟩
theorem peo_call0{k:Nat}{x:Str}(F0:FnInO X κ k x F)(hr:Room k X.A)(hg:Gl X x)(hdb:(x == ("__debug__":Str))=false):PEo X κ Φ (.Call (.Name x p) [] [] pos) (mN (callO F) mNil):=by
 obtain⟨f,fd,ps,hm,hk,hb,F1⟩:=F0.ex
 intro α0 Z0 H0 ρ Ω
 refine PE.imp (pe_call0 F1 hr hg hm hk hb .nil pass0 hdb) ?_
 rintro σ H Q ⟨α,Z,S,g⟩
 exact⟨α,Z,Ω,[],S.st,.nil,GoO.ok0 g⟩
noncomputable def PlainF(K:PySem.W.Frag)(κ:Str->Addr->Prop)(Cs:List Str)(f:Str):Prop:=∀ C Ca,Cs.contains C=true->κ C Ca->Cls K Ca/\NoAttr K Ca f
structure MetIn(X:Cx)(κ:Str->Addr->Prop)(k:Nat)(C m:Str)(F:FnO):Prop where
 ex:∃ (Ca f:Addr) (fd:FuncData) (ps:List Str),(∀ a,κ C a->a=Ca)/\Cls X.K Ca/\Meth X.K Ca m f/\Binds X.K fd ps []/\FnOk X.prog X.w X.K X.mg X.base CX0 k f fd ps (objSp κ F)
structure NewIn(X:Cx)(κ:Str->Addr->Prop)(k:Nat)(C:Str)(F:FnO):Prop where
 ex:∃ (Ca f:Addr) (fd:FuncData) (ps:List Str),κ C Ca/\Mk X.K Ca f/\X.mg C=some (.ref Ca)/\Binds X.K fd ps []/\FnOk X.prog X.w X.K X.mg X.base CX0 k f fd ps (objSp κ F)
noncomputable def DPutL(H:Hp)(a:Addr)(y v:V)(H':Hp):Prop:=DPut H a y v H'\/∃ xs k j,y=.int k/\H a=some (.lst xs)/\ixN xs.length k=some j/\H'=upd H a (.lst (xs.set j v))
noncomputable def sDPutL(td ty tv:TE):TS:=fun D σ H=>tv σ H fun v H1=>td σ H1 fun x H2=>ty σ H2 fun y H3=>∃ a H4,x=.ref a/\DPutL H3 a y v H4/\D.nx σ H4
theorem ps_dputL{i value:Expr}{td ty tv:TE}(hu:X.A.units + 1 < cLine)(ho:PE X o td)(hi:PE X i ty)(hv:PE X value tv)(hs:swapsWith value (some (.Subscript o i pos')) pos.line X.env=pure false) :
  PS X (.Assign [.Subscript o i pos'] value pos) (sDPutL td ty tv):=by
 intro pins s σ H D I h
 refine wpAny_Assign_Subscript (thn (hv pins s σ H _ I h) fun r s1 ⟨v,H1,I1,rv,q1⟩=>thn (ho pins s1 σ H1 _ I1 q1) fun u s2 ⟨x,H2,I2,rx,q2⟩=>thn (hi pins s2 σ H2 _ I2 q2) fun iv s3 ⟨y,H3,I3,ry,a,H4,ex,g,q3⟩ => ?_) hs
 subst ex
 rcases g with g | ⟨xs,k,j,rfl,g1,g2,rfl⟩
 ·obtain rfl:u=Value.ref a:=rx
  exact d_setItem hu I3 g ry rv fun s4 I4=>⟨σ,H4,I4,q3⟩
 ·exact thn (set_list pins s3 σ H3 _ _ _ _ _ _ (fun H'=>D.nx σ H') I3 rx ry rv ⟨a,xs,k,j,rfl,rfl,g1,g2,q3⟩) fun _ s4 ⟨H5,I5,q5⟩=>⟨σ,H5,I5,q5⟩
theorem All2.set2{α β:Type}{R:α->β->Prop}{a:α}{b:β}:∀ {as:List α} {bs:List β} {n:Nat},All2 R as bs->R a b->All2 R (as.set n a) (bs.set n b)
 | _,_,_,.nil,_=>.nil
 | _::_,_::_,0,.cons _ t,r=>.cons r t
 | _::_,_::_,n + 1,.cons q t,r=>.cons q (All2.set2 t r)
theorem dput_use{x y d:D}{v w u:V}(S:StO κ α Z Ω H)(rx:RepO α Z H x v)(ry:RepO α Z H y w)(rd:RepO α Z H d u)(h:dputO x y d Ω=some Ω'):∃ a H',v=.ref a/\DPutL H a w u H'/\StO κ α Z Ω' H'/\GrO α Z H α Z H':=by
 cases x with
 | ref k=>
  simp only[dputO]at h
  simp only[RepO]at rx
  obtain⟨a,ha,rfl⟩:=rx
  split at h
  ·rename_i kvs hk
   obtain⟨a',ha',kvs',h2,h3⟩:=S.cell hk
   rw[ha]at ha';cases ha'
   split at h
   ·rename_i ky hky
    obtain rfl:=keyD_rep hky ry
    split at h
    ·rename_i hs
     cases h
     have:=small_iff hs
     obtain⟨s1,g1⟩:=S.put (o:=.dK (putK kvs' ky u)) (c:=.dK (putG kvs ky d)) ha (fun o u z=>by rw[h2]at z;cases z) fun R hR=>⟨_,upd_same,(h3.put ky rd).imp hR⟩
     exact⟨a,_,rfl,.inl (DPut.k h2 (by rw[h3.length];omega)),s1,g1⟩
    ·cases h
   ·cases h
  ·rename_i kvs hk
   obtain⟨a',ha',kvs',h2,h3⟩:=S.cell hk
   rw[ha]at ha';cases ha'
   split at h
   ·rename_i ky hky
    obtain⟨b,rfl,hb⟩:=keysD_rep hky ry
    split at h
    ·rename_i hs
     cases h
     have:=small_iff hs
     obtain⟨s1,g1⟩:=S.put (o:=.dT (putK kvs' ky u)) (c:=.dT (putG kvs ky d)) ha (fun o u z=>by rw[h2]at z;cases z) fun R hR=>⟨_,upd_same,(h3.put ky rd).imp hR⟩
     exact⟨a,_,rfl,.inl (DPut.t h2 hb (by rw[h3.length];omega)),s1,g1⟩
    ·cases h
   ·cases h
  ·rename_i ds hk
   obtain⟨a',ha',ws,h2,h3⟩:=S.cell hk
   rw[ha]at ha';cases ha'
   split at h
   ·rename_i i
    split at h
    ·rename_i n hn
     cases h
     cases (show w=V.int i from ry)
     obtain⟨s1,g1⟩:=S.put (o:=.lst (ws.set n u)) (c:=.lst (ds.set n d)) ha (fun o u z=>by rw[h2]at z;cases z) fun R hR=>⟨_,upd_same,(All2.set2 h3 rd).imp hR⟩
     exact⟨a,_,rfl,.inr ⟨ws,i,n,rfl,h2,by rw[h3.length];exact hn,rfl⟩,s1,g1⟩
    ·cases h
   ·cases h
  ·cases h
 | _=>cases h
theorem pso_dput{i:Expr}(hu:X.A.units + 1 < cLine)(ho:PEo X κ Φ o md)(hi:PEo X κ Φ i mk)(hv:PEo X κ Φ e mv)(hs:swapsWith e (some (.Subscript o i pos')) pos.line X.env=pure false):PSo X κ Φ (.Assign [.Subscript o i pos'] e pos) (sDput md mk mv):=by
 intro α0 Z0 H0 ρ Ω
 refine PS.imp (ps_dputL hu (PE.ex fun Ω1=>ho α0 Z0 H0 ρ Ω1) (PE.ex fun Ω1=>hi α0 Z0 H0 ρ Ω1) (hv α0 Z0 H0 ρ Ω) hs) ?_
 rintro E σ H ⟨α,Z,S,f⟩
 refine⟨α,Z,S,FinO.use S f fun d Ω1 v H1 α1 Z1 _ g1 S1 r1 f1=>⟨Ω1,α1,Z1,S1,FinO.use S1 f1 fun x Ω2 w H2 α2 Z2 _ g2 S2 r2 f2=>⟨Ω2,α2,Z2,S2,FinO.use S2 f2 fun y Ω3 u H3 α3 Z3 _ g3 S3 r3 f3 => ?_⟩⟩⟩
 split at f3
 ·rename_i Ω4 hq
  obtain⟨a,H4,rfl,h1,s4,g4⟩:=dput_use S3.st (S2.st.repG g3 r2) r3 (S2.st.repG g3 (S1.st.repG g2 r1)) hq
  exact⟨a,H4,rfl,h1,f3 σ H4 α3 Z3 (S3.grow g4 s4)⟩
 ·exact f3.elim
theorem peo_dnewK:PEo X κ Φ (.Dict [] [] pos) (fun _ Ω=>newC Ω (.dK [])):=by
 intro α0 Z0 H0 ρ Ω
 refine PE.imp pe_dnewK ?_
 rintro σ H Q ⟨α,Z,S,g⟩ p hp
 obtain⟨S1,g1⟩:=S.st.laid (p:=p) (o:=.dK []) (c:=.dK []) hp fun R hR=>⟨[],upd_same,.nil⟩
 exact g _ _ _ Z g1 S1 (newC_rep S.st p)
theorem peo_dnewT:PEo X κ Φ (.Dict [] [] pos) (fun _ Ω=>newC Ω (.dT [])):=by
 intro α0 Z0 H0 ρ Ω
 refine PE.imp pe_dnewT ?_
 rintro σ H Q ⟨α,Z,S,g⟩ p hp
 obtain⟨S1,g1⟩:=S.st.laid (p:=p) (o:=.dT []) (c:=.dT []) hp fun R hR=>⟨[],upd_same,.nil⟩
 exact g _ _ _ Z g1 S1 (newC_rep S.st p)
noncomputable def entryO(n:Nat)(ds:List D):OEnv:=ds.map some++List.replicate (n - ds.length) none
noncomputable def finO:ResO->OutO D
 | .rt d Ω=>.ok d Ω
 | .nx _ Ω=>.ok .non Ω
 | .exc x Ω=>.exc x Ω
 | _=>.bad
noncomputable def fnO(n k:Nat)(c:SM):FnO:=fun ds Ω=>if ds.length=k then finO (c (entryO n ds) Ω) else .bad
theorem simO_entry{ds:List D}{vs:List V}{N:List Str}(S:StO κ α Z Ω H)(r:All2 (RepO α Z H) ds vs):SimO κ α Z H α Z Ω (entryO N.length ds) (L2.start N vs) H where
 st:=S
 gr:=GrO.refl S.has
 len:=by simp[entryO,L2.start,r.length]
 val:=fun i d hi=>by
  unfold entryO at hi
  by_cases h:i < ds.length
  ·rw[List.getElem?_append_left (by simpa using h),List.getElem?_map]at hi
   obtain⟨d',h1,h2⟩:=Option.map_eq_some_iff.mp hi
   cases h2
   obtain⟨v,h3,h4⟩:=r.get h1
   refine⟨v,?_,h4⟩
   unfold L2.start
   rw[List.getElem?_append_left (by simpa[r.length] using h),List.getElem?_map,h3]
   rfl
  ·rw[List.getElem?_append_right (by simpa using h),List.getElem?_replicate]at hi
   split at hi<;>cases hi
end
end Mir
namespace Mir
open PySem PySem.Spec PyProof.Rows L2
variable [CloTab]
end Mir
namespace Mir
open PySem PySem.Spec PyProof.Rows L2
variable [CloTab]
end Mir
namespace Mir
open PySem PySem.Spec PyProof.Rows L2
variable [CloTab]
structure CloOk(P:Program)(w:World)(K:PySem.W.Frag)(mg:Str->Option Value)(base:Heap)(κ:Str->Addr->Prop)(k:Nat)(j:Nat)(F:List D->FnO):Prop where
 run:∀ (X:Cx) (f:Addr) (vs:List V) (σ:L2.St) (H:Hp) (Q:VK) (α:List Addr) (Z:Addr->Prop) (Ω:Sto) (caps ds:List D) (n:Nat),X.prog=P->X.w=w->X.K=K->X.mg=mg->X.base=base->Room k X.A ->
  StO κ α Z Ω H->α[n]?=some f->Ω[n]?=some (.fn j caps)->All2 (RepO α Z H) ds vs->GoO κ Φ0 α Z H (F caps ds Ω) Q->CallV X f vs σ H Q
theorem CloOk.mono{P:Program}{w:World}{K:PySem.W.Frag}{mg:Str->Option Value}{base:Heap}{κ:Str->Addr->Prop}{k k' j:Nat}{F:List D->FnO}(h:CloOk P w K mg base κ k j F)(hk:k<=k'):CloOk P w K mg base κ k' j F:=
 ⟨fun X f vs σ H Q α Z Ω caps ds n e1 e2 e3 e4 e5 hr=>h.run X f vs σ H Q α Z Ω caps ds n e1 e2 e3 e4 e5 (hr.mono hk)⟩
noncomputable def cvF(M:List (List D->FnO))(n:Nat)(xs:List D)(Ω:Sto):OutO D:=match Ω[n]? with
 | some (.fn j caps)=>match M[j]? with
  | some F=>callO (F caps) xs Ω
  | none=>.bad
 | _=>.bad
noncomputable def isFn(Ω:Sto)(n:Nat):Bool:=match Ω[n]? with
 | some (.fn _ _)=>true
 | _=>false
noncomputable def mCallV(M:List (List D->FnO))(i:Nat)(as:AM):EM:=fun ρ Ω=>match ρ[i]? with
 | some (some (.ref n))=>if isFn Ω n=true then (as ρ Ω).bind fun xs Ω1=>cvF M n xs Ω1 else .bad
 | _=>.bad
section
variable{X:Cx}{κ:Str->Addr->Prop}{Φ:Phi}{α α' α0:List Addr}{Z Z' Z0:Addr->Prop}{Ω Ω':Sto}{H H' H0:Hp}{ρ:OEnv}{σ:L2.St}
theorem StO.fnFrz(S:StO κ α Z Ω H){n:Nat}{f:Addr}{j:Nat}{caps:List D}(hn:α[n]?=some f)(h:Ω[n]?=some (.fn j caps)):FnFrz H f:=by
 obtain⟨a,ha,c',cl,cv,⟨⟨doc,pm,ctv,u,h1⟩,_⟩,_⟩:=S.cell h
 rw[hn]at ha;cases ha
 exact⟨_,_,_,_,u,h1⟩
theorem peo_callV{k i:Nat}{x:Str}{M:List (List D->FnO)}{p pos:Pos}{e:Expr}{es:List Expr}{as:AM}(hN:X.N[i]?=some x)(hv:Vis X.env.scope x)(hd:(x == ("__debug__":Str))=false)(hcd:(x == ("__classdict__":Str))=false)
  (he:starEach (e::es) X.env=(false,eval e X.env)::starEach es X.env) (hpl:(backTo pos (starEach es X.env)).any (·.1)=false) (hclo:∀ j F,M[j]?=some F->CloOk X.prog X.w X.K X.mg X.base κ k j F) (hr:Room k X.A) (ha:PAo X κ Φ (e::es) as) :
  PEo X κ Φ (.Call (.Name x p) (e::es) [] pos) (mCallV M i as):=by
 intro α0 Z0 H0 ρ Ω
 refine PE.imp (pe_callV hN hv hd hcd (ha α0 Z0 H0 ρ Ω) he hpl) ?_
 rintro σ H Q ⟨α,Z,S,g⟩
 unfold mCallV at g
 split at g
 ·rename_i n hρ
  obtain⟨v,hσ,hv'⟩:=S.val i _ hρ
  simp only[RepO]at hv'
  obtain⟨f,hf,rfl⟩:=hv'
  split at g
  ·rename_i hfn
   have hcell:∃ j caps,Ω[n]?=some (.fn j caps):=by
    unfold isFn at hfn
    split at hfn
    ·rename_i j caps q;exact⟨j,caps,q⟩
    ·cases hfn
   obtain⟨j,caps,hj⟩:=hcell
   refine⟨f,hσ,S.st.fnFrz hf hj,α,Z,S,GoA.use g fun xs Ω1 _ vs H1 α1 Z1 g1 s1 r1 k1 => ?_⟩
   unfold cvF at k1
   split at k1
   ·rename_i j1 caps1 hj1
    split at k1
    ·rename_i F hF
     exact⟨s1.fnFrz (g1.pre n f hf) hj1,(hclo j1 F hF).run X f vs σ H1 Q α1 Z1 Ω1 caps1 xs n rfl rfl rfl rfl rfl hr s1 (g1.pre n f hf) hj1 r1 (GoO.ok0 k1)⟩
    ·exact k1.elim
   ·exact k1.elim
  ·exact g.elim
 ·exact g.elim
end
end Mir
namespace Mir
open PySem PySem.Spec PyProof.Rows L2
variable [CloTab]
noncomputable def mVar(i:Nat):EM:=fun ρ Ω=>match ρ[i]? with | some (some d)=>.ok d Ω | _=>.bad
noncomputable def mCst(d:D):EM:=fun _ Ω=>.ok d Ω
noncomputable def mDictK:EM:=fun _ Ω=>newC Ω (.dK [])
noncomputable def mDictT:EM:=fun _ Ω=>newC Ω (.dT [])
noncomputable def o2{α β γ:Type}(x:Option α)(y:Option β)(k:α->β->γ):Option γ:=match x,y with
 | some a,some b=>some (k a b)
 | _,_=>none
theorem o2_inv{α β γ:Type}{x:Option α}{y:Option β}{k:α->β->γ}{z:γ}(h:o2 x y k=some z):∃ a b,x=some a/\y=some b/\z=k a b:=by
 unfold o2 at h
 split at h
 ·cases h;exact⟨_,_,rfl,rfl,rfl⟩
 ·cases h
theorem o1_inv{α β:Type}{x:Option α}{k:α->β}{z:β}(h:x.map k=some z):∃ a,x=some a/\z=k a:=by
 cases x with
 | none=>cases h
 | some a=>cases h;exact⟨a,rfl,rfl⟩
structure TabO where
 pfn:List (Str×(List D->Out Rs)):=[]
 fn:List (Str×FnO):=[]
 cst:List (Str×D):=[]
 met:List (Str×Str×FnO):=[]
 cls:List (Str×FnO):=[]
 fld:List (Str×List Str):=[]
 clo:List (List D->FnO):=[]
 fz:List Str:=[]
 xt:Bool:=false
noncomputable def trNameO(T:TabO)(sc:Scope)(N:List Str)(x:Str):Option EM:=
 match slotN sc N x with
 | some i=>some (mVar i)
 | none=>if glB sc x && okN x then (T.cst.lookup x).map mCst else none
noncomputable def trConstO:Const->Option EM
 | .none=>some (mCst .non)
 | .bool b=>some (mCst (.bl b))
 | .int i=>some (mCst (.int i))
 | .str x=>some (mCst (.str x))
 | _=>none
noncomputable def trArgs(f:Expr->Option EM):List Expr->Option AM
 | []=>some mNil
 | e::es=>o2 (f e) (trArgs f es) mCons
noncomputable def boM(op:BoolOp)(a b:EM):EM:=match op with
 | .And=>mAnd a b
 | .Or=>mOr a b
noncomputable def trBoolO(f:Expr->Option EM)(op:BoolOp):List Expr->Option EM
 | []=>none
 | [a]=>f a
 | a::b::r=>o2 (f a) (trBoolO f op (b::r)) (boM op)
noncomputable def trPart(f:Expr->Option EM):Option Expr->Option (Bool×EM)
 | none=>some (true,mCst .non)
 | some e=>(f e).map fun m=>(false,m)
inductive BM where
 | append | reverse | index | join
noncomputable def BM.nm:BM->Str
 | .append=>"append" | .reverse=>"reverse" | .index=>"index" | .join=>"join"
noncomputable def BM.ar:BM->Nat
 | .append=>1 | .reverse=>0 | .index=>1 | .join=>1
noncomputable def BM.ty:BM->Sto->D->Bool
 | .join=>isSt
 | _=>isL
noncomputable def BM.f:BM->D->List D->Sto->OutO D
 | .append=>appendO | .reverse=>reverseO | .index=>indexO | .join=>joinO
noncomputable def bmOf(m:Str)(n:Nat):Option BM:=[BM.append,.reverse,.index,.join].find? fun b=>b.nm == m && b.ar == n
noncomputable def trMethO(T:TabO)(m:Str)(n:Nat)(mo:EM)(as:AM):Option EM:=(bmOf m n).map fun b=>mMth b.ty b.f mo as
noncomputable def okBase:Expr->Bool
 | .Name .. | .Attribute .. | .Constant (.str _) ..=>true
 | _=>false
noncomputable def bltOf2(x:Str):Option Blt:=[Blt.len,Blt.all,Blt.list,Blt.tuple,Blt.min].find? (fun b=>b.nm == x)
theorem blt_of2{x:Str}{b:Blt}(h:bltOf2 x=some b):x=b.nm/\b∈[Blt.len,Blt.all,Blt.list,Blt.tuple,Blt.min]/\b.nm∈bltNames:=by
 unfold bltOf2 at h
 have h1:=List.find?_some h
 have h2:=List.mem_of_find?_eq_some h
 refine⟨(eq_of_beq h1).symm,h2,?_⟩
 cases b<;>first | (simp at h2;done) | decide
noncomputable def trCallO(T:TabO)(sc:Scope)(f:Expr->Option EM)(x:Str)(args:List Expr):Option EM:=
 if glB sc x && okN x then
  match T.fn.lookup x,T.pfn.lookup x,bltOf2 x with
  | some F,_,_=>(trArgs f args).map (mN (callO F))
  | none,some F,_=>if args.isEmpty then none else (trArgs f args).map (mN (viaN F))
  | none,none,some b=>if args.isEmpty then none else (trArgs f args).map (mN (bltO b))
  | none,none,none=>none
 else none
noncomputable def trCallV(T:TabO)(sc:Scope)(N:List Str)(f:Expr->Option EM)(x:Str)(args:List Expr):Option EM:=match slotN sc N x with
 | some i=>if args.isEmpty then none else (trArgs f args).map (mCallV T.clo i)
 | none=>trCallO T sc f x args
noncomputable def isiOf(sc:Scope):List Expr->Option (Expr×Ty×Pos)
 | [a,.Name t p]=>match tyOfN t with
  | some ty=>if glB sc t then some (a,ty,p) else none
  | none=>none
 | _=>none
theorem isiOf_inv{sc:Scope}{args:List Expr}{a:Expr}{ty:Ty}{p:Pos}(h:isiOf sc args=some (a,ty,p)):args=[a,.Name ty.nm p]/\glB sc ty.nm=true/\ty.nm∈bltNames:=by
 unfold isiOf at h
 split at h
 ·split at h
  ·rename_i ty' hty
   split at h
   ·rename_i hg
    cases h
    obtain⟨rfl,m⟩:=ty_of hty
    exact⟨rfl,hg,m⟩
   ·cases h
  ·cases h
 ·cases h
noncomputable def trIso(sc:Scope)(f:Expr->Option EM)(x:Str)(args:List Expr):Option EM:=if x == ("isinstance":Str) && glB sc x then match isiOf sc args with
 | some (a,ty,_)=>(f a).map (m1 (isiO ty))
 | none=>none else none
noncomputable def trItO(f:Expr->Option EM)(sc:Scope)(iter:Expr):Option IM:=match iter with
 | .Call (.Name g _) args [] _=>if g == ("range":Str) then (if glB sc g then (match args with
   | [a]=>(trArgs f [a]).map mRng1
   | _=>none) else none) else (f iter).map mSrc
 | _=>(f iter).map mSrc
noncomputable def trIfO(f:Expr->Option EM):List Expr->Option (Bool×EM)
 | []=>some (true,mCst .non)
 | [c]=>(f c).map fun m=>(false,m)
 | _=>none
noncomputable def emptyDict:List (Option Expr)->List Expr->Bool
 | [],[]=>true
 | _,_=>false
noncomputable def trX(T:TabO):Nat->Scope->List Str->Expr->Option EM
 | 0,_,_,_=>none
 | n + 1,sc,N,e=>match e with
  | .Name x _=>trNameO T sc N x
  | .Constant c _ _=>trConstO c
  | .BinOp a op b _=>o2 (trX T n sc N a) (trX T n sc N b) (m2 (binO op))
  | .UnaryOp .USub a _=>(trX T n sc N a).map (m1 negO)
  | .UnaryOp .Not a _=>(trX T n sc N a).map mNot
  | .BoolOp op (a::b::r) _=>trBoolO (trX T n sc N) op (a::b::r)
  | .Compare a [op] [b] _=>if isSet b then none else o2 (trX T n sc N a) (trX T n sc N b) (m2 (cmpO op))
  | .Compare a [op,op'] [b,c] _=>if isSet c then none else o2 (trX T n sc N a) (o2 (trX T n sc N b) (trX T n sc N c) Prod.mk) fun x y=>mChn op op' x y.1 y.2
  | .IfExp t a b _=>o2 (trX T n sc N t) (o2 (trX T n sc N a) (trX T n sc N b) Prod.mk) fun x y=>mIf x y.1 y.2
  | .Subscript a (.Slice lo hi none _) _=>o2 (trX T n sc N a) (o2 (trPart (trX T n sc N) lo) (trPart (trX T n sc N) hi) Prod.mk) fun x y=>mSlc x y.1.1 y.1.2 y.2.1 y.2.2
  | .Subscript a b _=>if isSlice b then none else o2 (trX T n sc N a) (trX T n sc N b) (m2 idxO)
  | .List es _=>(trArgs (trX T n sc N) es).map (mN lstN)
  | .Tuple es _ _=>(trArgs (trX T n sc N) es).map (mN tupN)
  | .Call (.Name x _) args [] _=>match trIso sc (trX T n sc N) x args with
   | some m=>some m
   | none=>trCallV T sc N (trX T n sc N) x args
  | .Call (.Attribute o m p1) args [] p2=>if p1.endLine == p2.line && okBase o && decide (args.length < 20) then (match trX T n sc N o,trArgs (trX T n sc N) args with
   | some mo,some as=>trMethO T m args.length mo as
   | _,_=>none) else none
  | .ListComp elt gens scope _=>match genOf gens with
   | some (x,_,iter,ifs)=>if blkB scope sc x && !isSet iter then (match capN sc N (freeN scope),trItO (trX T n sc N) sc iter,trX T n (relS scope sc) (x::freeN scope) elt,trIfO (trX T n (relS scope sc) (x::freeN scope)) ifs with
    | some cap,some mi,some me,some (nc,mc)=>some (mCpr me nc mc mi 0 cap)
    | _,_,_,_=>none) else none
   | none=>none
  | .Dict ks vs _=>if emptyDict ks vs then some mDictK else none
  | _=>none
structure GoodO(X:Cx)(κ:Str->Addr->Prop)(T:TabO)(k:Nat)(sc:Scope)(N:List Str):Prop where
 scope:X.env.scope=sc
 names:X.N=N
 calm:X.calm=true
 room:Room k X.A
 blts:∀ x∈bltNames,X.mg x=none
 pfn:∀ x F,T.pfn.lookup x=some F->FnIn X k x F
 fn:∀ x F,T.fn.lookup x=some F->FnInO X κ k x F
 cst:∀ x d,T.cst.lookup x=some d->∃ v u,X.mg x=some u/\RelV v u/\flatD d=some v
 met:∀ m C F,(m,C,F)∈T.met->MetIn X κ k C m F
 cls:∀ C F,T.cls.lookup C=some F->∃ j,j + 1<=k/\NewIn X κ j C F
 fld:∀ f Cs,T.fld.lookup f=some Cs->PlainF X.K κ Cs f
 clo:∀ j F,T.clo[j]?=some F->CloOk X.prog X.w X.K X.mg X.base κ k j F
theorem GoodO.gl{X:Cx}{κ:Str->Addr->Prop}{T:TabO}{k:Nat}{sc:Scope}{N:List Str}{x:Str}(G:GoodO X κ T k sc N)(h:glB sc x=true):Gl X x:=by
 unfold glB at h
 have e:=eq_of_beq h
 show X.env.scope.names.lookup x=some .globalImplicit
 rw[G.scope];exact e
theorem GoodO.hu{X:Cx}{κ:Str->Addr->Prop}{T:TabO}{k:Nat}{sc:Scope}{N:List Str}(G:GoodO X κ T k sc N):X.A.units + 64 < cLine:=G.room.units
theorem GoodO.blk{X:Cx}{κ:Str->Addr->Prop}{T:TabO}{k:Nat}{sc:Scope}{N:List Str}(G:GoodO X κ T k sc N)(scope:Scope)(cl:List (Str×Addr))(C:Addr)(N':List Str)(s₀:Shared)(H₀:Hp)(fp:List Addr):GoodO (blk X scope cl C N' s₀ H₀ fp) κ T k (relS scope sc) N' where
 scope:=by rw[← G.scope];rfl
 names:=rfl
 calm:=G.calm
 room:=G.room
 blts:=G.blts
 pfn:=fun x F h=>⟨(G.pfn x F h).ex⟩
 fn:=fun x F h=>⟨(G.fn x F h).ex⟩
 cst:=G.cst
 met:=fun m C F h=>⟨(G.met m C F h).ex⟩
 cls:=fun C F h=>let ⟨j,h1,h2⟩:=G.cls C F h;⟨j,h1,⟨h2.ex⟩⟩
 fld:=G.fld
 clo:=G.clo
noncomputable def ExO(X:Cx)(κ:Str->Addr->Prop)(e:Expr)(m:EM):Prop:=(∀ Φ,PEo X κ Φ e m)/\(∀ Φ,PTo X κ Φ e m)/\isStar e=false
section
variable{X:Cx}{κ:Str->Addr->Prop}{T:TabO}{k:Nat}{sc:Scope}{N:List Str}{f:Expr->Option EM}
theorem exo_val{e:Expr}{m:EM}(h:∀ Φ,PEo X κ Φ e m)(hs:isStar e=false)(he:∀ whole,isTrue e X.env whole=(do let v ← whole;standAt e.pos;holding [v] (truthy v))):ExO X κ e m:=⟨h,fun Φ=>pto_val (h Φ) he,hs⟩
theorem trArgs_ok(hf:∀ e m,f e=some m->ExO X κ e m):∀ {es:List Expr} {as:AM},trArgs f es=some as->(∀ Φ,PAo X κ Φ es as)/\(∀ e∈es,isStar e=false)
 | [],as,h=>by cases h;exact⟨fun Φ=>pao_nil,fun e he=>absurd he (by simp)⟩
 | e::es,as,h=>by
  obtain⟨m,as',h1,h2,rfl⟩:=o2_inv h
  obtain⟨p1,_,p3⟩:=hf e m h1
  obtain⟨q1,q2⟩:=trArgs_ok hf h2
  refine⟨fun Φ=>pao_cons (p1 Φ) (q1 Φ) (star_one p3),fun z hz => ?_⟩
  rcases List.mem_cons.mp hz with rfl | hz
  ·exact p3
  ·exact q2 z hz
theorem nameO_ok(G:GoodO X κ T k sc N){x:Str}{pos:Pos}{m:EM}(h:trNameO T sc N x=some m):ExO X κ (.Name x pos) m:=by
 unfold trNameO at h
 split at h
 ·rename_i i q
  cases h
  obtain⟨h1,h2,h3,h4⟩:=slot_ok q
  exact exo_val (fun Φ=>peo_var (by rw[G.names];exact h1) (by rw[G.scope];exact h2) h3 h4) rfl (fun _=>rfl)
 ·split at h
  ·rename_i hc
   simp only[Bool.and_eq_true]at hc
   obtain⟨d,h3,rfl⟩:=o1_inv h
   obtain⟨v,u,e2,e3,e4⟩:=G.cst x d h3
   obtain⟨n1,n2,n3⟩:=okN_inv hc.2
   exact exo_val (fun Φ=>peo_cst (pe_glob (G.gl hc.1) e2 e3 n1) e4) rfl (fun _=>rfl)
  ·cases h
theorem constO_ok{q:Const}{j:Nat}{pos:Pos}{m:EM}(h:trConstO q=some m):ExO X κ (.Constant q j pos) m:=by
 cases q<;>simp only[trConstO]at h<;>cases h
 ·exact exo_val (fun Φ=>peo_cst pe_non rfl) rfl (fun _=>rfl)
 ·exact exo_val (fun Φ=>peo_cst pe_bl rfl) rfl (fun _=>rfl)
 ·exact exo_val (fun Φ=>peo_cst pe_int rfl) rfl (fun _=>rfl)
 ·exact exo_val (fun Φ=>peo_cst pe_str rfl) rfl (fun _=>rfl)
theorem boolO_ok{op:BoolOp}{pos:Pos}(hf:∀ e m,f e=some m->ExO X κ e m):∀ {es:List Expr} {m:EM},trBoolO f op es=some m->(∀ Φ,PEo X κ Φ (.BoolOp op es pos) m)/\(∀ Φ,PWo X κ Φ (.BoolOp op es pos) m)
 | [],m,h=>by cases h
 | [a],m,h=>by
  obtain⟨p1,p2,p3⟩:=hf a m h
  exact⟨fun Φ=>peo_bool1 (p1 Φ),fun Φ=>pwo_one (p2 Φ)⟩
 | a::b::r,m,h=>by
  simp only[trBoolO]at h
  obtain⟨ma,mb,h1,h2,rfl⟩:=o2_inv h
  obtain⟨p1,p2,p3⟩:=hf a ma h1
  obtain⟨q1,q2⟩:=boolO_ok hf h2
  cases op with
  | And=>exact⟨fun Φ=>peo_and (p1 Φ) (q1 Φ),fun Φ=>pwo_and (p2 Φ) (q2 Φ)⟩
  | Or=>exact⟨fun Φ=>peo_or (p1 Φ) (q1 Φ),fun Φ=>pwo_or (p2 Φ) (q2 Φ)⟩
theorem partO_tr(hf:∀ e m,f e=some m->ExO X κ e m){o:Option Expr}{n:Bool}{m:EM}{Φ:Phi}(h:trPart f o=some (n,m)):POo X κ Φ o n m:=by
 cases o with
 | none=>cases h;exact .inl ⟨rfl,rfl⟩
 | some e=>
  obtain⟨a,h1,h2⟩:=o1_inv h
  cases h2
  exact .inr ⟨e,rfl,rfl,(hf e m h1).1 Φ⟩
theorem bmOf_ok{m:Str}{n:Nat}{b:BM}(h:bmOf m n=some b):m=b.nm/\n=b.ar:=by
 have:=List.find?_some h
 simp only[Bool.and_eq_true,beq_iff_eq]at this
 exact⟨this.1.symm,this.2.symm⟩
theorem base_ok{o:Expr}{n:Str}{env:Env}(h:okBase o=true):attributeBase o n env (eval o env)=eval o env:=by
 cases o<;>first | rfl | (simp[okBase]at h)
theorem bm_ok(hu:X.A.units + 64 < cLine)(b:BM){o:Expr}{es:List Expr}{mo:EM}{as:AM}{p1 p2:Pos}{Φ:Phi}(hb:okBase o=true)(hl:(p1.endLine == p2.line)=true)(hn:es.length=b.ar)(ho:PEo X κ Φ o mo)(ha:trArgs f es=some as)(hf:∀ e m,f e=some m->ExO X κ e m) :
  PEo X κ Φ (.Call (.Attribute o b.nm p1) es [] p2) (mMth b.ty b.f mo as):=by
 obtain⟨a1,a2⟩:=trArgs_ok hf ha
 have a1:=a1 Φ
 cases b with
 | append=>
  match es,hn with
  | [e],_=>exact peo_bm PySem.F.plainAttrs_list PySem.F.slot_list_append PySem.F.type_list_append mt_append (fun x v α Z Ω H S r h=>isL_ty S r h) (fun x v xs vs α Z Ω H Q S r rs g=>appendO_r S r rs g) (base_ok hb) hl ho a1 a2 (by simp)
 | reverse=>
  match es,hn with
  | [],_=>cases ha;exact peo_bm0 PySem.F.plainAttrs_list PySem.F.slot_list_reverse PySem.F.type_list_reverse mt_reverse (fun x v α Z Ω H S r h=>isL_ty S r h) (fun x v xs vs α Z Ω H Q S r rs g=>reverseO_r S r rs g) (base_ok hb) hl ho
 | index=>
  match es,hn with
  | [e],_=>exact peo_bm PySem.F.plainAttrs_list PySem.F.slot_list_index PySem.F.type_list_index (mt_index hu) (fun x v α Z Ω H S r h=>isL_ty S r h) (fun x v xs vs α Z Ω H Q S r rs g=>indexO_r S r rs g) (base_ok hb) hl ho a1 a2 (by simp)
 | join=>
  match es,hn with
  | [e],_=>exact peo_bm PySem.F.plainAttrs_str PySem.F.slot_str_join PySem.F.type_str_join mt_join (fun x v α Z Ω H S r h=>isSt_ty S r h) (fun x v xs vs α Z Ω H Q S r rs g=>joinO_r S r rs g) (base_ok hb) hl ho a1 a2 (by simp)
theorem methO_ok(G:GoodO X κ T k sc N){o:Expr}{m:Str}{es:List Expr}{mo:EM}{as:AM}{p1 p2:Pos}{Φ:Phi}{x:EM}(hb:okBase o=true)(hl:(p1.endLine == p2.line)=true)(hlen:es.length < 20)(ho:PEo X κ Φ o mo)(ha:trArgs f es=some as)(hf:∀ e m,f e=some m->ExO X κ e m)
  (h:trMethO T m es.length mo as=some x):PEo X κ Φ (.Call (.Attribute o m p1) es [] p2) x:=by
 have one:∀ b,bmOf m es.length=some b->PEo X κ Φ (.Call (.Attribute o m p1) es [] p2) (mMth b.ty b.f mo as):=fun b hbm=>by
  obtain⟨rfl,hn⟩:=bmOf_ok hbm
  exact bm_ok G.hu b hb hl hn ho ha hf
 obtain⟨b,h1,rfl⟩:=o1_inv h
 exact one b h1
theorem callO_ok(G:GoodO X κ T k sc N)(hf:∀ e m,f e=some m->ExO X κ e m){x:Str}{args:List Expr}{m:EM}{p pos:Pos}(h:trCallO T sc f x args=some m):ExO X κ (.Call (.Name x p) args [] pos) m:=by
 refine exo_val (fun Φ => ?_) rfl (fun _=>rfl)
 unfold trCallO at h
 split at h
 ·rename_i hc
  simp only[Bool.and_eq_true]at hc
  obtain⟨n1,n2,n3⟩:=okN_inv hc.2
  have hg:=G.gl hc.1
  split at h
  ·rename_i F hF
   obtain⟨as,ha,rfl⟩:=o1_inv h
   obtain⟨q1,q2⟩:=trArgs_ok hf ha
   cases args with
   | nil=>cases ha;exact peo_call0 (G.fn x F hF) G.room hg n1
   | cons a args=>exact peo_call (G.fn x F hF) G.room hg n1 (star_one (q2 a (by simp))) (plain_star fun z hz=>q2 z (by simp[hz])) (q1 Φ)
  ·rename_i F _ hF
   split at h
   ·cases h
   ·rename_i hne
    obtain⟨as,ha,rfl⟩:=o1_inv h
    obtain⟨q1,q2⟩:=trArgs_ok hf ha
    cases args with
    | nil=>exact absurd rfl hne
    | cons a args=>exact peo_pcall (G.pfn x F hF) G.room hg n1 (star_one (q2 a (by simp))) (plain_star fun z hz=>q2 z (by simp[hz])) (q1 Φ)
  ·rename_i b _ _ hb
   split at h
   ·cases h
   ·rename_i hne
    obtain⟨as,ha,rfl⟩:=o1_inv h
    obtain⟨q1,q2⟩:=trArgs_ok hf ha
    obtain⟨rfl,b1,b2⟩:=blt_of2 hb
    cases args with
    | nil=>exact absurd rfl hne
    | cons a args=>exact peo_blt G.calm b1 hg (G.blts _ b2) (star_one (q2 a (by simp))) (plain_star fun z hz=>q2 z (by simp[hz])) (q1 Φ)
  ·cases h
 ·cases h
theorem callV_ok(G:GoodO X κ T k sc N)(hf:∀ e m,f e=some m->ExO X κ e m){x:Str}{args:List Expr}{m:EM}{p pos:Pos}(h:trCallV T sc N f x args=some m):ExO X κ (.Call (.Name x p) args [] pos) m:=by
 unfold trCallV at h
 cases hs:slotN sc N x with
 | none=>rw[hs]at h;exact callO_ok G hf h
 | some i=>
  rw[hs]at h
  dsimp only at h
  split at h
  ·cases h
  ·rename_i hne
   obtain⟨as,h1,rfl⟩:=o1_inv h
   obtain⟨q1,q2⟩:=trArgs_ok hf h1
   obtain⟨s1,s2,s3,s4⟩:=slot_ok hs
   cases args with
   | nil=>exact absurd rfl hne
   | cons a as'=>exact exo_val (fun Φ=>peo_callV (by rw[G.names];exact s1) (by rw[G.scope];exact s2) s3 s4 (star_one (q2 a (by simp))) (plain_star fun z hz=>q2 z (by simp[hz])) G.clo G.room (q1 Φ)) rfl (fun _=>rfl)
theorem isoO_ok(G:GoodO X κ T k sc N)(hf:∀ e m,f e=some m->ExO X κ e m){x:Str}{args:List Expr}{m:EM}{p pos:Pos}(h:trIso sc f x args=some m):ExO X κ (.Call (.Name x p) args [] pos) m:=by
 unfold trIso at h
 split at h
 ·rename_i hx
  simp only[Bool.and_eq_true,beq_iff_eq]at hx
  obtain⟨rfl,hg⟩:=hx
  split at h
  ·rename_i a ty pt hi
   obtain⟨rfl,h1,h2⟩:=isiOf_inv hi
   obtain⟨ma,h3,rfl⟩:=o1_inv h
   obtain⟨q1,_,q3⟩:=hf a ma h3
   exact exo_val (fun Φ=>peo_isi (G.gl hg) (G.blts _ (by decide)) (G.gl h1) (G.blts _ h2) (star_one q3) (plain_star (es:=[Expr.Name ty.nm pt]) fun z hz=>by simp at hz;subst hz;rfl) (q1 Φ)) rfl (fun _=>rfl)
  ·cases h
 ·cases h
theorem itO_ok(G:GoodO X κ T k sc N)(hf:∀ e m,f e=some m->ExO X κ e m){iter:Expr}{mi:IM}(h:trItO f sc iter=some mi):∀ Φ tg,PIo X κ Φ tg iter mi:=by
 intro Φ tg
 have dflt:∀ {mi},(f iter).map mSrc=some mi->PIo X κ Φ tg iter mi:=fun {mi} h=>by
  obtain⟨m,h1,rfl⟩:=o1_inv h
  exact pio_any ((hf iter m h1).1 Φ)
 unfold trItO at h
 split at h
 ·rename_i g p args pos
  split at h
  ·rename_i hr
   obtain rfl:=eq_of_beq hr
   split at h
   ·rename_i hg
    split at h
    ·rename_i a
     obtain⟨as,h1,rfl⟩:=o1_inv h
     obtain⟨q1,q2⟩:=trArgs_ok hf h1
     exact pio_rng1 (G.gl hg) (G.blts _ (by decide)) (q1 Φ) (by rw[star_one (q2 a (by simp))];rfl)
    ·cases h
   ·cases h
  ·exact dflt h
 ·exact dflt h
end
end Mir
namespace Mir
open PySem PySem.Spec PyProof.Rows L2
variable [CloTab]
section
variable{κ:Str->Addr->Prop}{T:TabO}{k:Nat}
theorem blk_scO{X:Cx}{sc:Scope}{N:List Str}(G:GoodO X κ T k sc N){scope:Scope}{x:Str}{cap:List Nat}(hb:blkB scope sc x=true)(hc:capN sc N (freeN scope)=some cap) :
  BlkSc X scope [x] (freeN scope) cap/\scope.names.lookup x=some .local/\([x]++freeN scope).Nodup:=by
 simp only[blkB,Bool.and_eq_true,decide_eq_true_eq,List.all_eq_true,Bool.not_eq_true',beq_iff_eq,Bool.or_eq_true]at hb
 obtain⟨⟨⟨⟨⟨h1,h2⟩,h3⟩,h4⟩,h5⟩,h6⟩:=hb
 obtain⟨c1,c2⟩:=cap_ok hc
 have fr:∀ y∈scope.names,y.2=.free->(sc.names.lookup y.1=some .cell\/sc.names.lookup y.1=some .free)/\scope.names.lookup y.1=some .free:=fun y hy hk=>by
  rcases h4 y hy with q | q
  ·rw[hk]at q;exact absurd q (by decide)
  ·exact q
 refine⟨⟨h1,fun y hy hk => ?_,fun y hy hk => ?_,fun y hy hk => ?_,c1,fun j i z e1 e2 => ?_⟩,h5,h6⟩
 ·have:=h2 y hy
  rw[hk]at this;exact absurd this (by decide)
 ·rcases h3 y hy with q | q
  ·rw[hk]at q;exact absurd q (by decide)
  ·exact q
 ·have:=(fr y hy hk).1
  show X.env.scope.names.lookup y.1=_\/X.env.scope.names.lookup y.1=_
  rw[G.scope];exact this
 ·refine⟨by rw[G.names];exact c2 j i z e1 e2,?_⟩
  have hm:z∈freeN scope:=List.mem_of_getElem? e1
  unfold freeN at hm
  obtain⟨y,hy,rfl⟩:=List.mem_map.mp hm
  obtain⟨hy1,hy2⟩:=List.mem_filter.mp hy
  exact(fr y hy1 (by simpa using hy2)).2
theorem compO_none{T:TabO}{sc:Scope}{N:List Str}{n:Nat}{elt:Expr}{gens:List Comprehension}{scope:Scope}{pos:Pos}{m:EM}{P:Prop}(hg:genOf gens=none)(h:trX T (n + 1) sc N (.ListComp elt gens scope pos)=some m):P:=by
 replace h:(match genOf gens with
   | some (x,_,iter,ifs)=>if (blkB scope sc x && !isSet iter)=true then (match capN sc N (freeN scope),trItO (trX T n sc N) sc iter,trX T n (relS scope sc) (x::freeN scope) elt,trIfO (trX T n (relS scope sc) (x::freeN scope)) ifs with
    | some cap,some mi,some me,some (nc,mc)=>some (mCpr me nc mc mi 0 cap)
    | _,_,_,_=>none) else none
   | none=>none)=some m:=h
 rw[hg]at h
 cases h
theorem comp_partsO{n:Nat}(hf:∀ (X:Cx) (sc:Scope) (N:List Str) (e:Expr) (m:EM),GoodO X κ T k sc N->trX T n sc N e=some m->ExO X κ e m){X:Cx}{sc:Scope}{N:List Str}(G:GoodO X κ T k sc N){scope:Scope}{x:Str}{iter elt:Expr}{ifs:List Expr}{px pos:Pos}{m:EM}
  (h:trX T (n + 1) sc N (.ListComp elt [⟨.Name x px,iter,ifs,0⟩] scope pos)=some m):∃ me nc mc mi cap,m=mCpr me nc mc mi 0 cap/\BlkSc X scope [x] (freeN scope) cap/\scope.names.lookup x=some .local/\([x]++freeN scope).Nodup /\
   (∀ z,foldedSetIterable iter X.env z=pure z)/\(∀ Φ,PIo X κ Φ (.Name x px) iter mi) /\
   ∀ cl C s₀ H₀ fp,((ifs=[]/\nc=true)\/∃ c,ifs=[c]/\nc=false/\PTo (blk X scope cl C ([x]++freeN scope) s₀ H₀ fp) κ Φ0 c mc)/\PEo (blk X scope cl C ([x]++freeN scope) s₀ H₀ fp) κ Φ0 elt me:=by
 replace h:(if (blkB scope sc x && !isSet iter)=true then (match capN sc N (freeN scope),trItO (trX T n sc N) sc iter,trX T n (relS scope sc) (x::freeN scope) elt,trIfO (trX T n (relS scope sc) (x::freeN scope)) ifs with
    | some cap,some mi,some me,some (nc,mc)=>some (mCpr me nc mc mi 0 cap)
    | _,_,_,_=>none) else none)=some m:=h
 split at h
 ·rename_i hc
  simp only[Bool.and_eq_true,Bool.not_eq_true']at hc
  split at h
  ·rename_i cap mi me nc mc h1 h2 h3 h4
   cases h
   obtain⟨b1,b2,b3⟩:=blk_scO G hc.1 h1
   refine⟨me,nc,mc,mi,cap,rfl,b1,b2,b3,set_free hc.2,fun Φ=>itO_ok G (hf X sc N · · G) h2 Φ _,fun cl C s₀ H₀ fp => ?_⟩
   have G':=G.blk scope cl C ([x]++freeN scope) s₀ H₀ fp
   refine⟨?_,(hf _ _ _ elt me G' h3).1 Φ0⟩
   match ifs,h4 with
   | [],h4=>cases h4;exact .inl ⟨rfl,rfl⟩
   | [c'],h4=>
    obtain⟨a,q1,q2⟩:=o1_inv h4
    cases q2
    exact .inr ⟨c',rfl,rfl,(hf _ _ _ c' mc G' q1).2.1 Φ0⟩
  ·cases h
 ·cases h
theorem trX_ok:∀ (n:Nat) (X:Cx) (sc:Scope) (N:List Str) (e:Expr) (m:EM),GoodO X κ T k sc N->trX T n sc N e=some m->ExO X κ e m:=by
 intro n
 induction n with
 | zero=>intro X sc N e m G h;cases h
 | succ n ih=>
  intro X sc N e m G h
  have hf:∀ e m,trX T n sc N e=some m->ExO X κ e m:=fun e m q=>ih X sc N e m G q
  cases e with
  | Name x pos=>exact nameO_ok G h
  | Constant c j pos=>exact constO_ok h
  | BinOp a op b pos=>
   obtain⟨ma,mb,h1,h2,rfl⟩:=o2_inv h
   exact exo_val (fun Φ=>peo_bin ((hf a ma h1).1 Φ) ((hf b mb h2).1 Φ)) rfl (fun _=>rfl)
  | UnaryOp op a pos=>
   cases op with
   | USub=>
    obtain⟨ma,h1,rfl⟩:=o1_inv h
    exact exo_val (fun Φ=>peo_neg ((hf a ma h1).1 Φ)) rfl (fun _=>rfl)
   | Not=>
    obtain⟨ma,h1,rfl⟩:=o1_inv h
    exact⟨fun Φ=>peo_not ((hf a ma h1).1 Φ),fun Φ=>pto_not ((hf a ma h1).2.1 Φ),rfl⟩
   | _=>cases h
  | BoolOp op vs pos=>
   match vs,h with
   | a::b::r,h=>
    obtain⟨q1,q2⟩:=boolO_ok (pos:=pos) hf (show trBoolO (trX T n sc N) op (a::b::r)=some m from h)
    exact⟨q1,fun Φ=>(q2 Φ).pt,rfl⟩
   | [_],h=>cases h
   | [],h=>cases h
  | Compare a ops cs pos=>
   match ops,cs,h with
   | [op],[b],h=>
    replace h:(if isSet b=true then none else o2 (trX T n sc N a) (trX T n sc N b) (m2 (cmpO op)))=some m:=h
    split at h
    ·cases h
    ·rename_i hs
     obtain⟨ma,mb,h1,h2,rfl⟩:=o2_inv h
     have hm:=marks_ok (op:=op) (b:=b) (by simpa using hs)
     exact⟨fun Φ=>(peo_cmp G.hu hm ((hf a ma h1).1 Φ) ((hf b mb h2).1 Φ)).1,fun Φ=>(peo_cmp G.hu hm ((hf a ma h1).1 Φ) ((hf b mb h2).1 Φ)).2,rfl⟩
   | [op,op'],[b,c'],h=>
    replace h:(if isSet c'=true then none else o2 (trX T n sc N a) (o2 (trX T n sc N b) (trX T n sc N c') Prod.mk) fun x y=>mChn op op' x y.1 y.2)=some m:=h
    split at h
    ·cases h
    ·rename_i hs
     obtain⟨ma,mbc,h1,h23,rfl⟩:=o2_inv h
     obtain⟨mb,mc,h2,h3,rfl⟩:=o2_inv h23
     have hm:lastMarks [op,op'] [b,c']=false:=marks_ok (op:=op') (b:=c') (by simpa using hs)
     exact⟨fun Φ=>peo_chn G.hu hm ((hf _ _ h1).1 Φ) ((hf _ _ h2).1 Φ) ((hf _ _ h3).1 Φ),fun Φ=>pto_chn G.hu hm ((hf _ _ h1).1 Φ) ((hf _ _ h2).1 Φ) ((hf _ _ h3).1 Φ),rfl⟩
   | [],_,h=>cases h
   | [_],[],h=>cases h
   | [_],_::_::_,h=>cases h
   | [_,_],[],h=>cases h
   | [_,_],[_],h=>cases h
   | [_,_],_::_::_::_,h=>cases h
   | _::_::_::_,[],h=>cases h
   | _::_::_::_,[_],h=>cases h
   | _::_::_::_,_::_::_,h=>cases h
  | IfExp t a b pos=>
   obtain⟨mt,mab,h1,h23,rfl⟩:=o2_inv h
   obtain⟨ma,mb,h2,h3,rfl⟩:=o2_inv h23
   exact⟨fun Φ=>peo_ife ((hf _ _ h1).2.1 Φ) ((hf _ _ h2).1 Φ) ((hf _ _ h3).1 Φ),fun Φ=>pto_ife ((hf _ _ h1).2.1 Φ) ((hf _ _ h2).2.1 Φ) ((hf _ _ h3).2.1 Φ),rfl⟩
  | Subscript a s pos=>
   have gen:∀ b,isSlice b=false->o2 (trX T n sc N a) (trX T n sc N b) (m2 idxO)=some m->ExO X κ (.Subscript a b pos) m:=fun b hb h=>by
    obtain⟨ma,mb,h1,h2,rfl⟩:=o2_inv h
    refine exo_val (fun Φ=>peo_idx (by have:=G.hu;omega) (fun o i => ?_) ((hf _ _ h1).1 Φ) ((hf _ _ h2).1 Φ)) rfl (fun _=>rfl)
    cases b<;>first | rfl | (simp[isSlice]at hb)
   cases s with
   | Slice lo hi st p2=>
    cases st with
    | none=>
     obtain⟨ma,mlh,h1,h23,rfl⟩:=o2_inv h
     obtain⟨⟨nl,ml⟩,⟨nh,mh⟩,h2,h3,rfl⟩:=o2_inv h23
     exact exo_val (fun Φ=>peo_slc ((hf _ _ h1).1 Φ) (partO_tr hf h2) (partO_tr hf h3)) rfl (fun _=>rfl)
    | some e=>
     cases lo with
     | none=>
      cases hi with
      | none=>
       exact nomatch (show(none:Option EM)=some m from h)
      | some _=>exact nomatch (show(none:Option EM)=some m from h)
     | some _=>exact nomatch (show(none:Option EM)=some m from h)
   | _=>exact gen _ rfl h
  | List es pos=>
   obtain⟨as,h1,rfl⟩:=o1_inv h
   exact exo_val (fun Φ=>peo_lst ((trArgs_ok hf h1).1 Φ)) rfl (fun _=>rfl)
  | Tuple es j pos=>
   obtain⟨as,h1,rfl⟩:=o1_inv h
   exact exo_val (fun Φ=>peo_tup ((trArgs_ok hf h1).1 Φ)) rfl (fun _=>rfl)
  | Call f args kws pos=>
   cases f with
   | Name x p=>
    cases kws with
    | nil=>
     replace h:(match trIso sc (trX T n sc N) x args with | some m=>some m | none=>trCallV T sc N (trX T n sc N) x args)=some m:=h
     cases hi:trIso sc (trX T n sc N) x args with
     | some m'=>
      rw[hi]at h
      cases h
      exact isoO_ok G hf hi
     | none=>
      rw[hi]at h
      exact callV_ok G hf h
    | cons _ _=>cases h
   | Attribute o mm p1=>
    cases kws with
    | nil=>
     replace h:(if (p1.endLine == pos.line && okBase o && decide (args.length < 20))=true then (match trX T n sc N o,trArgs (trX T n sc N) args with
   | some mo,some as=>trMethO T mm args.length mo as
   | _,_=>none) else none)=some m:=h
     split at h
     ·rename_i hc
      simp only[Bool.and_eq_true,decide_eq_true_eq]at hc
      split at h
      ·rename_i mo as h1 h2
       exact exo_val (fun Φ=>methO_ok G hc.1.2 hc.1.1 hc.2 ((hf o mo h1).1 Φ) h2 hf h) rfl (fun _=>rfl)
      ·cases h
     ·cases h
    | cons _ _=>cases h
   | _=>cases h
  | ListComp elt gens scope pos=>
   cases hg:genOf gens with
   | none=>exact compO_none hg h
   | some q=>
    obtain⟨x,px,iter,ifs⟩:=q
    obtain rfl:=genOf_inv hg
    obtain⟨me,nc,mc,mi,cap,rfl,b1,b2,b3,b4,b5,b6⟩:=comp_partsO (fun X sc N e m G q=>ih X sc N e m G q) G h
    exact exo_val (fun Φ=>peo_cpr1 G.calm b1 b4 (b5 Φ) b2 b3 b6) rfl (fun _=>rfl)
  | Dict ks vs pos=>
   replace h:(if emptyDict ks vs=true then some mDictK else none)=some m:=h
   split at h
   ·rename_i hd
    cases h
    match ks,vs,hd with
    | [],[],_=>exact exo_val (fun Φ=>peo_dnewK) rfl (fun _=>rfl)
   ·cases h
  | _=>cases h
end
structure GoodSO(X:Cx)(κ:Str->Addr->Prop)(T:TabO)(k:Nat)(sc:Scope)(N:List Str):Prop extends GoodO X κ T k sc N where
 own:PassesOwn (model X.prog X.w) X.A X.env X.xe
 fnn:∀ x,locB sc x=true->T.fz.contains x=false->(X.fn x=true\/X.env.scope.names.lookup x=some .local)
 nod:N.Nodup
 kind:sc.kind=.function
 nox:T.xt=false->∀ e s,¬ X.xe e s
noncomputable def trSsO(f:Stmt->Option SM):List Stmt->Option SM
 | []=>some sSkip
 | s::r=>o2 (f s) (trSsO f r) sSeq
noncomputable def trItTO(f:Expr->Option EM)(sc:Scope)(iter:Expr):Option IM:=match iter with
 | .Call (.Name g _) [a] [] _=>if g == ("enumerate":Str) then (if glB sc g then (f a).map mEnm else none) else trItO f sc iter
 | _=>trItO f sc iter
noncomputable def isED:Expr->Bool
 | .Dict [] [] _=>true
 | _=>false
theorem isED_inv{e:Expr}(h:isED e=true):∃ p,e=.Dict [] [] p:=by
 unfold isED at h
 split at h
 ·exact⟨_,rfl⟩
 ·cases h
noncomputable def slotG(T:TabO)(sc:Scope)(N:List Str)(x:Str):Option Nat:=if T.fz.contains x then none else slotL sc N x
noncomputable def slotsG(T:TabO)(sc:Scope)(N:List Str)(nms:List (Str×Pos)):Option (List Nat):=if nms.any (fun y=>T.fz.contains y.1) then none else slotsL sc N nms
noncomputable def trAsgN(T:TabO)(td:List Str)(k:Nat)(sc:Scope)(N:List Str)(x:Str)(px:Pos)(e:Expr)(pos:Pos):Option SM:=match slotG T sc N x with
   | some i=>if td.contains x && isED e then some (sAsg i mDictT) else (match trX T k sc N e with
    | some m=>if swapB sc x px e then (if pos.line == px.line then some (sAsg i m) else none) else some (sAsg i m)
    | none=>none)
   | none=>none
noncomputable def trAsgT(T:TabO)(k:Nat)(sc:Scope)(N:List Str)(es:List Expr)(e:Expr):Option SM:=match tupNames es with
   | some nms=>match slotsG T sc N nms,trX T k sc N e with
    | some is,some m=>if plainV e then some (sUnp is m) else none
    | _,_=>none
   | none=>none
noncomputable def trSx(T:TabO)(td:List Str)(k:Nat)(sc:Scope)(N:List Str):Nat->Stmt->Option SM
 | 0,_=>none
 | n + 1,st=>match st with
  | .Return (some e) _=>some (match trX T k sc N e with
   | some m=>sRet m
   | none=>sNever)
  | .Assign [.Name x px] e pos=>trAsgN T td k sc N x px e pos
  | .Assign [.Tuple es _ _] e _=>trAsgT T k sc N es e
  | .Assign [.Subscript o i _] e _=>if isSlice i || isComp e then none else o2 (trX T k sc N o) (o2 (trX T k sc N i) (trX T k sc N e) Prod.mk) fun x y=>sDput x y.1 y.2
  | .Expr e _=>if isComp e then none else (trX T k sc N e).map sExp
  | .If c a b _=>o2 (trX T k sc N c) (o2 (trSsO (trSx T td k sc N n) a) (trSsO (trSx T td k sc N n) b) Prod.mk) fun x y=>sIf x y.1 y.2
  | .While c b [] _=>o2 (trX T k sc N c) (trSsO (trSx T td k sc N n) b) sWhl
  | .For (.Name x _) it b [] _=>if isSet it then none else o2 (slotG T sc N x) (o2 (trItO (trX T k sc N) sc it) (trSsO (trSx T td k sc N n) b) Prod.mk) fun i y=>sFor (putO1 i) y.1 y.2
  | .For (.Tuple es _ _) it b [] _=>if isSet it then none else match tupNames es with
   | some nms=>o2 (slotsG T sc N nms) (o2 (trItTO (trX T k sc N) sc it) (trSsO (trSx T td k sc N n) b) Prod.mk) fun is y=>sFor (putOT is) y.1 y.2
   | none=>none
  | .Raise _ _ _=>some sNever
  | _=>none
end Mir
namespace Mir
open PySem PySem.Spec PyProof.Rows L2
variable [CloTab]
section
variable{X:Cx}{κ:Str->Addr->Prop}{Φ:Phi}{T:TabO}{td:List Str}{k:Nat}{sc:Scope}{N:List Str}{α α' α0 α1:List Addr}{Z Z' Z0 Z1:Addr->Prop}{Ω Ω':Sto}{H H' H0 H1:Hp}
theorem pio_enm{es:List Expr}{x1:Nat}{tpos p pos:Pos}{a:Expr}{m:EM}(hg:Gl X "enumerate")(hm:X.mg "enumerate"=none)(hs:starEach [a] X.env=[(false,eval a X.env)])(ha:PEo X κ Φ a m) :
  PIo X κ Φ (.Tuple es x1 tpos) (.Call (.Name "enumerate" p) [a] [] pos) (mEnm m):=by
 intro α0 Z0 H0 ρ Ω
 refine PI.imp (pi_enumB hg hm (pa_cons (ha α0 Z0 H0 ρ Ω) pa_nil hs) hs) ?_
 rintro σ H R ⟨α,Z,S,g⟩
 refine⟨α,Z,S,GoI.use g fun x Ω1 _ v H1 α1 Z1 g1 s1 r1 k1 => ?_⟩
 have fin:∀ {α2:List Addr} {Z2:Addr->Prop} {Ω2:Sto} {H2:Hp} {i:Nat} {v:V} {d':D},StO κ α2 Z2 Ω2 H2->RepO α2 Z2 H2 d' v->∀ p,H2 p=none->∃ Z3,GrO α2 Z2 H2 α2 Z3 (upd H2 p (.tup [.int i,v]))/\StO κ α2 Z3 Ω2 (upd H2 p (.tup [.int i,v]))/\RepO α2 Z3 (upd H2 p (.tup [.int i,v])) (.tup [.int (0 + i:Nat),d']) (.ref p):=fun {α2 Z2 Ω2 H2 i v d'} s2 rv p hp=>by
  obtain⟨s3,g3⟩:=s2.laidZ (p:=p) (o:=.tup [.int i,v]) hp True
  simp only[if_true]at s3 g3
  refine⟨Zp Z2 p,g3,s3,?_⟩
  simp only[RepO]
  refine⟨p,_,rfl,.inr rfl,upd_same,repOs_iff.mpr (.cons ?_ (.one (s2.repG g3 rv)))⟩
  simp only[RepO];simp
 cases hq:seqO Ω1 x with
 | none=>simp only[hq]at k1;exact k1.elim
 | some ds0=>
  simp only[hq]at k1
  by_cases ht:∃ es,x=.tup es
  ·obtain⟨es',rfl⟩:=ht
   have r1':=r1
   simp only[RepO]at r1
   obtain⟨a,vs0,rfl,z1,q1,q2⟩:=r1
   refine⟨a,rfl,.inr ⟨⟨vs0,SqT.of q1⟩,k1 _ H1 α1 Z1 (GrO.refl s1.has) s1 ?_⟩⟩
   intro α2 Z2 Ω2 H2 ds g2 s2 hs2
   have hs2:some (enmFrom 0 es')=some ds:=hs2
   cases hs2
   have r2:=s1.repG g2 r1'
   simp only[RepO]at r2
   obtain⟨a',vs,e,z3,h3,h4⟩:=r2
   cases e
   have h4:=repOs_iff.mp h4
   refine⟨fun i d hd => ?_,fun i hi=>by rw[enm_len]at hi;exact⟨vs,SqT.of h3,by rw[h4.length];exact hi⟩⟩
   obtain⟨d',hd',rfl⟩:=enm_get es' 0 i d hd
   obtain⟨v,hv,rv⟩:=h4.get hd'
   refine⟨⟨vs,v,SqT.of h3,hv⟩,fun y H3 hy => ?_⟩
   obtain⟨p,rfl,hp,hy⟩:=hy
   obtain⟨w,hw,rfl⟩:=hy vs (SqT.of h3)
   rw[hv]at hw;cases hw
   exact fin s2 rv p hp
  ·have hseq:∀ Ω,seqO Ω x=lstO Ω x:=fun Ω=>by
    cases x with
    | tup es=>exact absurd ⟨es,rfl⟩ ht
    | _=>rfl
   rw[hseq]at hq
   have r1':=r1
   obtain⟨a,vs0,rfl,q1,q2⟩:=lstO_use s1 r1 hq
   refine⟨a,rfl,.inl ⟨⟨vs0,sqL q1⟩,k1 _ H1 α1 Z1 (GrO.refl s1.has) s1 ?_⟩⟩
   intro α2 Z2 Ω2 H2 ds g2 s2 hs2
   obtain⟨es2,h2,rfl⟩:=o1_inv hs2
   rw[hseq]at h2
   have r2:=s1.repG g2 r1'
   obtain⟨a',vs,e,h3,h4⟩:=lstO_use s2 r2 h2
   cases e
   refine⟨fun i d hd => ?_,fun i hi=>by rw[enm_len]at hi;exact⟨vs,sqL h3,by rw[h4.length];exact hi⟩⟩
   obtain⟨d',hd',rfl⟩:=enm_get es2 0 i d hd
   obtain⟨v,hv,rv⟩:=h4.get hd'
   refine⟨⟨vs,v,sqL h3,hv⟩,fun y H3 hy => ?_⟩
   obtain⟨p,rfl,hp,hy⟩:=hy
   obtain⟨w,hw,rfl⟩:=hy vs (sqL h3)
   rw[hv]at hw;cases hw
   exact fin s2 rv p hp
theorem itTO_ok(G:GoodO X κ T k sc N){f:Expr->Option EM}(hf:∀ e m,f e=some m->ExO X κ e m){iter:Expr}{mi:IM}(h:trItTO f sc iter=some mi){es:List Expr}{j:Nat}{tp:Pos}:∀ Φ,PIo X κ Φ (.Tuple es j tp) iter mi:=by
 intro Φ
 unfold trItTO at h
 split at h
 ·rename_i g p a pos
  split at h
  ·rename_i hr
   obtain rfl:=eq_of_beq hr
   split at h
   ·rename_i hc
    obtain⟨ca,e,rfl⟩:=o1_inv h
    obtain⟨p1,_,p4⟩:=hf a ca e
    exact pio_enm (G.gl hc) (G.blts _ (by decide)) (by rw[star_one p4];rfl) (p1 Φ)
   ·cases h
  ·exact itO_ok G hf h Φ _
 ·exact itO_ok G hf h Φ _
theorem slotLO_ok(G:GoodSO X κ T k sc N){x:Str}{i:Nat}(h:slotL sc N x=some i):X.N[i]?=some x/\Loc X.env.scope x:=by
 unfold slotL at h
 split at h
 ·rename_i hc
  simp only[Bool.and_eq_true]at hc
  refine⟨by rw[G.names];exact idx_at h,?_⟩
  rw[G.scope]
  have hv:=hc.1
  unfold locB at hv
  unfold L2.Loc
  split at hv
  ·rename_i q;exact .inl q
  ·rename_i q;exact .inr q
  ·cases hv
 ·cases h
theorem trSsO_ok{f:Stmt->Option SM}(hf:∀ s c,f s=some c->PSo X κ Φ s c):∀ {ss:List Stmt} {c:SM},trSsO f ss=some c->PSso X κ Φ ss c
 | [],c,h=>by cases h;exact pso_nil
 | s::ss,c,h=>by
  obtain⟨a,b,h1,h2,rfl⟩:=o2_inv h
  exact pso_cons (hf s a h1) (trSsO_ok hf h2)
theorem slotGO_ok(G:GoodSO X κ T k sc N){x:Str}{i:Nat}(h:slotG T sc N x=some i):X.N[i]?=some x/\Loc X.env.scope x/\(X.fn x=true\/X.env.scope.names.lookup x=some .local):=by
 unfold slotG at h
 split at h
 ·cases h
 ·rename_i hz
  obtain⟨a,b⟩:=slotLO_ok G h
  refine⟨a,b,G.fnn x ?_ (by simpa using hz)⟩
  unfold slotL at h
  split at h
  ·rename_i hc;simp only[Bool.and_eq_true]at hc;exact hc.1
  ·cases h
theorem slotsLO_ok(G:GoodSO X κ T k sc N):∀ {nms:List (Str×Pos)} {is:List Nat},(∀ y∈nms,T.fz.contains y.1=false)->slotsL sc N nms=some is->is.length=nms.length/\∀ (j i:Nat) (x:Str×Pos),is[j]?=some i->nms[j]?=some x->X.N[i]?=some x.1/\Loc X.env.scope x.1/\(X.fn x.1=true\/X.env.scope.names.lookup x.1=some .local)
 | [],is,_,h=>by cases h;exact⟨rfl,fun j i x e=>by simp at e⟩
 | x::xs,is,hz,h=>by
  simp only[slotsL,Option.bind_eq_bind]at h
  obtain⟨i,h1,h⟩:=Option.bind_eq_some_iff.mp h
  obtain⟨is',h2,h⟩:=Option.bind_eq_some_iff.mp h
  cases h
  obtain⟨q1,q2⟩:=slotsLO_ok G (fun y hy=>hz y (by simp[hy])) h2
  refine⟨by rw[List.length_cons,List.length_cons,q1],fun j i' y e1 e2 => ?_⟩
  cases j with
  | zero=>
   simp at e1 e2;subst e1 e2
   exact slotGO_ok G (by unfold slotG;rw[if_neg (by rw[hz x (by simp)];simp)];exact h1)
  | succ j=>exact q2 j i' y (by simpa using e1) (by simpa using e2)
theorem pg_tupNO(G:GoodSO X κ T k sc N){es:List Expr}{j:Nat}{p:Pos}{nms:List (Str×Pos)}{is:List Nat}(h1:tupNames es=some nms)(h2:slotsG T sc N nms=some is):PG X (.Tuple es j p) (gTup X.K is.length (gNames is)):=by
 obtain rfl:=tupNames_ok h1
 have h2':(∀ y∈nms,T.fz.contains y.1=false)/\slotsL sc N nms=some is:=by
  unfold slotsG at h2
  split at h2
  ·cases h2
  ·rename_i hz
   refine⟨fun y hy => ?_,h2⟩
   cases q:T.fz.contains y.1 with
   | false=>rfl
   | true=>exact absurd (List.any_eq_true.mpr ⟨y,hy,q⟩) hz
 obtain⟨q1,q2⟩:=slotsLO_ok G h2'.1 h2'.2
 obtain⟨t1,t2⟩:=names_tar X.env nms
 exact pg_tup G.calm (pgs_names (nms:=nms) (by rw[G.names];exact G.nod) is nms q1 q2) (by rw[t1,q1]) t2
theorem swap_eqO{elt:Expr}{gens:List Comprehension}{scope:Scope}{p px:Pos}{x:Str}{l:Nat}(G:GoodSO X κ T k sc N) :
  swapsWith (.ListComp elt gens scope p) (some (.Name x px)) l X.env=pure (swapB sc x px (.ListComp elt gens scope p)):=by
 have hk:X.env.blockKind=.function:=by
  show(if X.env.scope.kind.isAnnotationScope=true then ScopeKind.function else X.env.scope.kind)=_
  rw[G.scope,G.kind];rfl
 show pure (X.env.blockKind == .function && X.env.kindOf x == some .local && px.line == p.line && !(scope.names.any fun (n,k)=>n == x && (k == .local || k == .cell)))=_
 rw[hk]
 show pure (true && X.env.scope.names.lookup x == some .local && px.line == p.line && !(scope.names.any fun (n,k)=>n == x && (k == .local || k == .cell)))=_
 rw[G.scope]
 rfl
theorem asgO_ok(G:GoodSO X κ T k sc N){n i:Nat}{x:Str}{px pos:Pos}{e:Expr}{m:EM}(hi:slotG T sc N x=some i)(h:trX T n sc N e=some m)(hs:swapB sc x px e=true->pos.line=px.line):PSo X κ Φ (.Assign [.Name x px] e pos) (sAsg i m):=by
 obtain⟨s1,s2,s3⟩:=slotGO_ok G hi
 have hN:X.N.Nodup:=by rw[G.names];exact G.nod
 have E:=trX_ok n X sc N e m G.toGoodO h
 have plain:swapsWith e (some (.Name x px)) pos.line X.env=pure false->PSo X κ Φ (.Assign [.Name x px] e pos) (sAsg i m):=fun q=>pso_asg hN s1 s2 s3 q (E.1 Φ)
 cases e with
 | ListComp elt gens scope p=>
  cases hb:swapB sc x px (.ListComp elt gens scope p) with
  | false=>exact plain (by rw[swap_eqO G,hb])
  | true=>
   cases n with
   | zero=>cases h
   | succ n=>
   cases hg:genOf gens with
   | none=>exact compO_none hg h
   | some q=>
    obtain⟨y,py,iter,ifs⟩:=q
    obtain rfl:=genOf_inv hg
    obtain⟨me,nc,mc,mi,cap,rfl,b1,b2,b3,b4,b5,b6⟩:=comp_partsO (fun X sc N e m G q=>trX_ok n X sc N e m G q) G.toGoodO h
    have hl:X.env.scope.names.lookup x=some .local:=by
     rw[G.scope]
     simp only[swapB,Bool.and_eq_true,beq_iff_eq]at hb
     exact hb.1.1
    exact pso_asgC hN s1 hl (by rw[swap_eqO G,hb]) G.calm b1 b4 (gname_keeps 1 (by decide)) (cpr_coreO1 (cap:=cap) (b5 Φ) b2 b3 b6) (hs hb)
 | SetComp=>cases n<;>cases h
 | DictComp=>cases n<;>cases h
 | _=>exact plain rfl
theorem swapNo{e:Expr}{t:Option Expr}{l:Nat}{env:Env}(h:isComp e=false):swapsWith e t l env=pure false:=by
 cases e<;>first | rfl | (simp[isComp]at h)
theorem trSx_ok(G:GoodSO X κ T k sc N):∀ (n:Nat) (kk:Nat) (st:Stmt) (c:SM),trSx T td kk sc N n st=some c->PSo X κ Φ st c:=by
 intro n kk
 have E:∀ e m,trX T kk sc N e=some m->ExO X κ e m:=fun e m q=>trX_ok kk X sc N e m G.toGoodO q
 induction n with
 | zero=>intro st c h;cases h
 | succ n ih=>
  intro st c h
  have B:∀ ss c,trSsO (trSx T td kk sc N n) ss=some c->PSso X κ Φ ss c:=fun ss c q=>trSsO_ok ih q
  have hN:X.N.Nodup:=by rw[G.names];exact G.nod
  cases st with
  | Return v pos=>
   cases v with
   | none=>cases h
   | some e=>
    replace h:some (match trX T kk sc N e with
   | some m=>sRet m
   | none=>sNever)=some c:=h
    cases h
    split
    ·rename_i m h1
     exact pso_ret ((E e m h1).1 Φ)
    ·exact pso_never
  | Assign ts e pos=>
   cases ts with
   | nil=>cases h
   | cons t r=>
   cases r with
   | cons t2 r=>cases t<;>cases h
   | nil=>
   cases t with
   | Name x px=>
    replace h:trAsgN T td kk sc N x px e pos=some c:=h
    unfold trAsgN at h
    split at h
    ·rename_i i hi
     split at h
     ·rename_i hd
      cases h
      simp only[Bool.and_eq_true]at hd
      obtain⟨pd,rfl⟩:=isED_inv hd.2
      obtain⟨s1,s2,s3⟩:=slotGO_ok G hi
      exact pso_asg hN s1 s2 s3 rfl peo_dnewT
     ·split at h
      ·rename_i m hm
       split at h
       ·split at h
        ·rename_i hs hl
         cases h
         exact asgO_ok G hi hm fun _=>eq_of_beq hl
        ·cases h
       ·rename_i hs
        cases h
        exact asgO_ok G hi hm fun q=>absurd q hs
      ·cases h
    ·cases h
   | Tuple es j p=>
    replace h:trAsgT T kk sc N es e=some c:=h
    unfold trAsgT at h
    split at h
    ·rename_i nms hn
     split at h
     ·rename_i is m h1 h2
      split at h
      ·rename_i hp
       cases h
       exact pso_unp (pg_tupNO G hn h1) hp ((E e m h2).1 Φ)
      ·cases h
     ·cases h
    ·cases h
   | Subscript o i p=>
    replace h:(if (isSlice i || isComp e)=true then none else o2 (trX T kk sc N o) (o2 (trX T kk sc N i) (trX T kk sc N e) Prod.mk) fun x y=>sDput x y.1 y.2)=some c:=h
    split at h
    ·cases h
    ·rename_i hc
     simp only[Bool.or_eq_true,not_or,Bool.not_eq_true]at hc
     obtain⟨md,y,h1,h2,rfl⟩:=o2_inv h
     obtain⟨mk,mv,h3,h4,rfl⟩:=o2_inv h2
     exact pso_dput (by have:=G.hu;omega) ((E o md h1).1 Φ) ((E i mk h3).1 Φ) ((E e mv h4).1 Φ) (swapNo hc.2)
   | _=>cases h
  | Expr e pos=>
   replace h:(if isComp e=true then none else (trX T kk sc N e).map sExp)=some c:=h
   split at h
   ·cases h
   ·rename_i hc
    obtain⟨m,h1,rfl⟩:=o1_inv h
    exact pso_exp (swapNo (by simpa using hc)) ((E e m h1).1 Φ)
  | If c0 a b pos=>
   obtain⟨m,y,h1,h2,rfl⟩:=o2_inv h
   obtain⟨ca,cb,h3,h4,rfl⟩:=o2_inv h2
   exact pso_if ((E c0 m h1).2.1 Φ) (B a ca h3) (B b cb h4)
  | While c0 b e pos=>
   cases e with
   | nil=>
    obtain⟨m,cb,h1,h2,rfl⟩:=o2_inv h
    exact pso_while G.own ((E c0 m h1).2.1 Φ) (B b cb h2)
   | cons _ _=>cases h
  | For tg it b e pos=>
   cases e with
   | nil=>
    cases tg with
    | Name x px=>
     replace h:(if isSet it=true then none else o2 (slotG T sc N x) (o2 (trItO (trX T kk sc N) sc it) (trSsO (trSx T td kk sc N n) b) Prod.mk) fun i y=>sFor (putO1 i) y.1 y.2)=some c:=h
     split at h
     ·cases h
     ·rename_i hs
      obtain⟨i,y,h1,h2,rfl⟩:=o2_inv h
      obtain⟨mi,cb,h3,h4,rfl⟩:=o2_inv h2
      obtain⟨s1,s2,s3⟩:=slotGO_ok G h1
      exact pso_for G.own G.calm (itO_ok G.toGoodO E h3 Φ _) (pg_name hN s1 s2 s3) (gputO1 i) (B b cb h4) (set_free (by simpa using hs))
    | Tuple es j p=>
     replace h:(if isSet it=true then none else match tupNames es with
   | some nms=>o2 (slotsG T sc N nms) (o2 (trItTO (trX T kk sc N) sc it) (trSsO (trSx T td kk sc N n) b) Prod.mk) fun is y=>sFor (putOT is) y.1 y.2
   | none=>none)=some c:=h
     split at h
     ·cases h
     ·rename_i hs
      split at h
      ·rename_i nms hn
       obtain⟨is,y,h1,h2,rfl⟩:=o2_inv h
       obtain⟨mi,cb,h3,h4,rfl⟩:=o2_inv h2
       exact pso_for G.own G.calm (itTO_ok G.toGoodO E h3 Φ) (pg_tupNO G hn h1) (gputOT is) (B b cb h4) (set_free (by simpa using hs))
      ·cases h
    | _=>cases h
   | cons _ _=>cases tg<;>cases h
  | Raise _ _ _=>cases h;exact pso_never
  | _=>cases h
noncomputable def κof(mg:Str->Option Value):Str->Addr->Prop:=fun C a=>mg C=some (.ref a)
structure WldO(P:Program)(w:World)(K:PySem.W.Frag)(mg:Str->Option Value)(base:Heap)(T:TabO)(k:Nat):Prop where
 blts:∀ x∈bltNames,mg x=none
 pfn:∀ x F,T.pfn.lookup x=some F->∃ (f:Addr) (fd:FuncData) (ps:List Str),mg x=some (.ref f)/\PySem.W.keepIn K (.ref f)=true/\Binds K fd ps []/\FnOk P w K mg base CX0 k f fd ps (pureSp F)
 fn:∀ x F,T.fn.lookup x=some F->∃ (f:Addr) (fd:FuncData) (ps:List Str),mg x=some (.ref f)/\PySem.W.keepIn K (.ref f)=true/\Binds K fd ps []/\FnOk P w K mg base CX0 k f fd ps (objSp (κof mg) F)
 cst:∀ x d,T.cst.lookup x=some d->∃ v u,mg x=some u/\RelV v u/\flatD d=some v
 met:∀ m C F,(m,C,F)∈T.met->∃ (Ca f:Addr) (fd:FuncData) (ps:List Str),(∀ a,κof mg C a->a=Ca)/\Cls K Ca/\Meth K Ca m f/\Binds K fd ps []/\FnOk P w K mg base CX0 k f fd ps (objSp (κof mg) F)
 cls:∀ C F,T.cls.lookup C=some F->∃ j,j + 1<=k/\∃ (Ca f:Addr) (fd:FuncData) (ps:List Str),κof mg C Ca/\Mk K Ca f/\mg C=some (.ref Ca)/\Binds K fd ps []/\FnOk P w K mg base CX0 j f fd ps (objSp (κof mg) F)
 fld:∀ f Cs,T.fld.lookup f=some Cs->PlainF K (κof mg) Cs f
 clo:∀ j F,T.clo[j]?=some F->CloOk P w K mg base (κof mg) k j F
noncomputable def codeX(T:TabO)(td:List Str)(st:Stmt)(N:List Str):Option SM:=trSsO (trSx T td 60 (defScope st) N 30) (defBody st)
end
section
variable{P:Program}{w:World}{K:PySem.W.Frag}{mg:Str->Option Value}{base:Heap}{T:TabO}{k:Nat}
theorem def_okO(W:WldO P w K mg base T k){x qual:Str}{st:Stmt}{f:Addr}{fd:FuncData}(F:Fun K x qual st f fd){N ps td:List Str}{c:SM}(hs:fnScB N ps (defScope st)=true)(hc:codeX T td st N=some c) :
    FnOk P w K mg base CX0 (k + 1) f fd ps (objSp (κof mg) (fnO N.length ps.length c)):=by
  refine F.ok (fnSc_ok hs) (fun vs H Q E h => ?_) fun cdv A outer s H vs Q E hr h => ?_
  · obtain⟨α,Z,Ω,ds,S,r,g⟩:=h
    rw[r.length]
    unfold fnO at g
    split at g
    · rename_i hl;exact hl
    · exact g.elim
  · obtain⟨α,Z,Ω,ds,S,r,g⟩:=h
    have Sc:=fnSc_ok hs
    have G:GoodSO (cxOf CX0 P w K mg base N qual (defScope st) f cdv A outer s H E).nox (κof mg) T k (defScope st) N:=
      { scope:=rfl,names:=rfl,calm:=rfl,room:=hr,blts:=W.blts,own:=PassesOwn.never,fnn:=fun _ _ _=>.inl rfl,nod:=Sc.nd,kind:=Sc.kind,nox:=fun _ _ _ h=>h,fld:=W.fld,cst:=W.cst
        pfn:=fun x F h=>⟨W.pfn x F h⟩,fn:=fun x F h=>⟨W.fn x F h⟩,met:=fun m C F h=>⟨W.met m C F h⟩,cls:=fun C F h=>let ⟨j,h1,h2⟩:=W.cls C F h;⟨j,h1,⟨h2⟩⟩,clo:=W.clo }
    refine⟨tSO (κof mg) Φ0 α Z H c (entryO N.length ds) Ω,trSsO_ok (trSx_ok G 30 60) hc α Z H (entryO N.length ds) Ω,α,Z,simO_entry S r,?_⟩
    unfold fnO at g
    split at g
    · cases q:c (entryO N.length ds) Ω with
      | rt d Ω'=>rw[q]at g;exact fun v H' α' Z' gr st r=>g v H' α' Z' gr st r
      | nx ρ Ω'=>rw[q]at g;exact fun σ H' α' Z' S'=>g .non H' α' Z' S'.gr S'.st (repO_flat rfl)
      | bk ρ Ω'=>rw[q]at g;exact g.elim
      | ct ρ Ω'=>rw[q]at g;exact g.elim
      | exc x Ω'=>rw[q]at g;exact g
      | bad=>rw[q]at g;exact g.elim
    · exact g.elim
theorem WldO.mono(W:WldO P w K mg base T k){j:Nat}(h:k<=j):WldO P w K mg base T j:=
 ⟨W.blts,fun x F q=>let ⟨f,fd,ps,a,b,c,d⟩:=W.pfn x F q;⟨f,fd,ps,a,b,c,d.mono h⟩,fun x F q=>let ⟨f,fd,ps,a,b,c,d⟩:=W.fn x F q;⟨f,fd,ps,a,b,c,d.mono h⟩,W.cst,
  fun m C F q=>let ⟨Ca,f,fd,ps,a,b,c,d,e⟩:=W.met m C F q;⟨Ca,f,fd,ps,a,b,c,d,e.mono h⟩,fun C F q=>let ⟨j',h1,h2⟩:=W.cls C F q;⟨j',Nat.le_trans h1 h,h2⟩,W.fld,fun j F q=>(W.clo j F q).mono h⟩
end
end Mir
namespace Mir
open PySem PySem.Spec PyProof.Rows L2
variable [CloTab]
noncomputable def TabO.addP(T:TabO)(x:Str)(F:List D->Out Rs):TabO:={ T with pfn:=(x,F)::T.pfn }
noncomputable def TabO.addF(T:TabO)(x:Str)(F:FnO):TabO:={ T with fn:=(x,F)::T.fn }
noncomputable def TabO.addK(T:TabO)(x:Str)(d:D):TabO:={ T with cst:=(x,d)::T.cst }
theorem look_cons{β:Type}{x y:Str}{F G:β}{l:List (Str×β)}(h:((x,F)::l).lookup y=some G):(y=x/\G=F)\/l.lookup y=some G:=by
 rw[List.lookup_cons]at h
 cases e:y == x with
 | true=>rw[e]at h;cases h;exact .inl ⟨eq_of_beq e,rfl⟩
 | false=>rw[e]at h;exact .inr h
section
variable{P:Program}{w:World}{K:PySem.W.Frag}{mg:Str->Option Value}{base:Heap}{T:TabO}{k:Nat}
theorem WldO.start(nb:∀ x∈bltNames,mg x=none):WldO P w K mg base {} 0:=
 ⟨nb,fun x F h=>(by cases h),fun x F h=>(by cases h),fun x d h=>(by cases h),fun m C F h=>(by cases h),fun C F h=>(by cases h),fun f Cs h=>(by cases h),fun j F h=>(by cases h)⟩
theorem WldO.addP(W:WldO P w K mg base T k){x:Str}{F:List D->Out Rs}{f:Addr}{fd:FuncData}{ps:List Str}{j:Nat}(hm:mg x=some (.ref f))(hk:PySem.W.keepIn K (.ref f)=true)(hb:Binds K fd ps [])(h:FnOk P w K mg base CX0 j f fd ps (pureSp F))(hj:j<=k) :
  WldO P w K mg base (T.addP x F) k:=
 ⟨W.blts,fun y G q=>by
  rcases look_cons q with ⟨rfl,rfl⟩ | q
  ·exact⟨f,fd,ps,hm,hk,hb,h.mono hj⟩
  ·exact W.pfn y G q,W.fn,W.cst,W.met,W.cls,W.fld,W.clo⟩
theorem WldO.addF(W:WldO P w K mg base T k){x:Str}{F:FnO}{f:Addr}{fd:FuncData}{ps:List Str}(hm:mg x=some (.ref f))(hk:PySem.W.keepIn K (.ref f)=true)(hb:Binds K fd ps [])(h:FnOk P w K mg base CX0 (k + 1) f fd ps (objSp (κof mg) F)) :
  WldO P w K mg base (T.addF x F) (k + 1):=by
 have W':=W.mono (Nat.le_succ k)
 exact⟨W'.blts,W'.pfn,fun y G q=>by
  rcases look_cons q with ⟨rfl,rfl⟩ | q
  ·exact⟨f,fd,ps,hm,hk,hb,h⟩
  ·exact W'.fn y G q,W'.cst,W'.met,W'.cls,W'.fld,W'.clo⟩
theorem WldO.addK(W:WldO P w K mg base T k){x:Str}{d:D}{v:V}{u:Value}(h1:mg x=some u)(h2:RelV v u)(h3:flatD d=some v):WldO P w K mg base (T.addK x d) k:=
 ⟨W.blts,W.pfn,W.fn,fun y G q=>by
  rcases look_cons q with ⟨rfl,rfl⟩ | q
  ·exact⟨v,u,h1,h2,h3⟩
  ·exact W.cst y G q,W.met,W.cls,W.fld,W.clo⟩
end
end Mir
namespace Mir
open PySem PySem.Spec PyProof.Rows L2
variable [CloTab]
end Mir
namespace Mir
open PySem
theorem all1{p:List Value->Prop}(h:∀ a,p [a]):∀ us:List Value,us.length=1->p us
 | [a],_=>h a
theorem all2{p:List Value->Prop}(h:∀ a b,p [a,b]):∀ us:List Value,us.length=2->p us
 | [a,b],_=>h a b
theorem all3{p:List Value->Prop}(h:∀ a b c,p [a,b,c]):∀ us:List Value,us.length=3->p us
 | [a,b,c],_=>h a b c
theorem all4{p:List Value->Prop}(h:∀ a b c d,p [a,b,c,d]):∀ us:List Value,us.length=4->p us
 | [a,b,c,d],_=>h a b c d
end Mir
namespace Mir
open PySem PySem.Spec PyProof.Rows L2
noncomputable def plB:D->Bool
 | .lst ds=>ds.all flatB
 | d=>flatB d
section
variable{α:List Addr}{Z Z1:Addr->Prop}{H H1:Hp}
theorem flat_to{d:D}{v:V}(hf:flatB d=true)(r:Rep Z H d v):RepO α Z1 H1 d v:=by
 cases d with
 | lst _=>cases hf
 | tup _=>cases hf
 | ref _=>cases hf
 | dct _ _=>cases hf
 | _=>simp only[Rep]at r;simp only[RepO];exact r
theorem flat_back{d:D}{v:V}(hf:flatB d=true)(r:RepO α Z1 H1 d v):Rep Z H d v:=by
 cases d with
 | lst _=>cases hf
 | tup _=>cases hf
 | ref _=>cases hf
 | dct _ _=>cases hf
 | _=>simp only[RepO]at r;simp only[Rep];exact r
theorem flats_to:∀ {ds:List D} {vs:List V},ds.all flatB=true->Reps Z H ds vs->RepOs α Z1 H1 ds vs
 | [],vs,_,r=>by simp only[Reps]at r;simp only[RepOs];exact r
 | d::ds,vs,h,r=>by
  simp only[List.all_cons,Bool.and_eq_true]at h
  simp only[Reps]at r
  obtain⟨v,r',e,h1,h2⟩:=r
  simp only[RepOs]
  exact⟨v,r',e,flat_to h.1 h1,flats_to h.2 h2⟩
theorem pl_to{d:D}{v:V}(h:plB d=true)(r:Rep Z H d v):RepO α Z H d v:=by
 cases d with
 | lst ds=>
  simp only[Rep]at r
  obtain⟨a,vs,e,z,hr,rs⟩:=r
  simp only[RepO]
  exact⟨a,vs,e,z,hr,flats_to h rs⟩
 | tup _=>cases h
 | ref _=>cases h
 | dct _ _=>cases h
 | _=>exact flat_to rfl r
theorem pls_to:∀ {ds:List D} {vs:List V},ds.all plB=true->Reps Z H ds vs->All2 (RepO α Z H) ds vs
 | [],vs,_,r=>by simp only[Reps]at r;subst r;exact .nil
 | d::ds,vs,h,r=>by
  simp only[List.all_cons,Bool.and_eq_true]at h
  simp only[Reps]at r
  obtain⟨v,r',rfl,h1,h2⟩:=r
  exact .cons (pl_to h.1 h1) (pls_to h.2 h2)
end
variable [CloTab]
noncomputable def pureOf(O:FnO):List D->Out Rs:=fun ds=>if ds.all plB=true then (match O ds [] with
  | .ok d _=>if flatB d=true then .ok (false,d) else .bad
  | _=>.bad) else .bad
section
variable{P:Program}{w:World}{K:PySem.W.Frag}{mg:Str->Option Value}{base:Heap}{k:Nat}{f:Addr}{fd:FuncData}{ps:List Str}{O:FnO}
theorem pure_of(h:FnOk P w K mg base CX0 k f fd ps (objSp (κof mg) O)):FnOk P w K mg base CX0 k f fd ps (pureSp (pureOf O)):=h.imp fun vs H Q E q=>by
 obtain⟨Z,ds,own,d,dom,r,e,g⟩:=q
 unfold pureOf at e
 by_cases q1:ds.all plB=true
 ·rw[if_pos q1]at e
  refine⟨[],Z,[],ds,⟨List.nodup_nil,.nil,fun a ha=>by simp at ha,dom⟩,pls_to q1 r,?_⟩
  cases q2:O ds [] with
  | exc x Ω=>rw[q2]at e;cases e
  | bad=>rw[q2]at e;cases e
  | ok d1 Ω=>
   rw[q2]at e
   dsimp only at e
   by_cases hf:flatB d1=true
   ·rw[if_pos hf]at e
    cases e
    intro v H' α' Z' gr st rv
    refine g v H' Z ⟨fun b o hb=>gr.frm b o hb (by simp),fun _ h=>h,fun _ h=>.inl h,fun a ha => ?_⟩ (.rep (flat_back hf rv))
    cases q3:H a with
    | none=>exact absurd q3 (dom a ha)
    | some o=>rw[gr.frm a o q3 (by simp)];simp
   ·rw[if_neg hf]at e;cases e
 ·rw[if_neg q1]at e;cases e
end
end Mir
namespace Mir
open PySem PySem.Spec PyProof.Rows L2
noncomputable def cloScB(ps cn:List Str)(sc:Scope):Bool:=
 sc.kind == .function && !sc.isCoroutine && !sc.isGenerator && decide (ps++cn).Nodup && ps.all (fun x=>sc.names.lookup x == some .local) && cn.all (fun x=>sc.names.lookup x == some .free) && sc.names.all (fun y => !(y.2 == .free) || cn.contains y.1) && sc.names.all fun y => !(y.2 == .cell)
theorem cloSc_ok{ps cn:List Str}{sc:Scope}(h:cloScB ps cn sc=true):CloScope ps cn sc:=by
 simp only[cloScB,Bool.and_eq_true,Bool.not_eq_true',decide_eq_true_eq,List.all_eq_true,beq_iff_eq,Bool.or_eq_true]at h
 obtain⟨⟨⟨⟨⟨⟨⟨h1,h2⟩,h3⟩,h4⟩,h5⟩,h6⟩,h7⟩,h8⟩:=h
 refine⟨h1,h2,h3,h4,h5,h6,fun y hy e => ?_,fun y hy e => ?_⟩
 ·rcases h7 y hy with q | q
  ·rw[e]at q;exact absurd q (by decide)
  ·exact List.contains_iff_mem.mp q
 ·have:=h8 y hy
  rw[e]at this;exact absurd this (by decide)
variable [CloTab]
noncomputable def codeC(T:TabO)(d:CloD):Option SM:=trSsO (trSx T [] 60 d.scope (d.ps++d.cn) 30) d.body
noncomputable def cloO(k:Nat)(c:SM)(caps:List D):FnO:=fun ds Ω=>if ds.length=k then finO (c ((ds++caps).map some) Ω) else .bad
noncomputable def TabO.addL(T:TabO)(F:List D->FnO):TabO:={ T with clo:=T.clo++[F] }
section
variable{P:Program}{w:World}{K:PySem.W.Frag}{mg:Str->Option Value}{base:Heap}{T:TabO}{k:Nat}
theorem clo_ok(W:WldO P w K mg base T k){j:Nat}{d:CloD}{c:SM}(hj:CloTab.tab j=d)(hs:cloScB d.ps d.cn d.scope=true)(hc:codeC T d=some c)
    (hb:∀ (cl:List (Str×Addr)) (doc pm:Value) (c':Addr) (ctv:Value) (us:List Value),us.length=d.ps.length->bindArgs (PySem.W.fnX d.name d.qual d.params d.body d.scope cl .none .none doc pm none (.ref c') ctv) ⟨us,[]⟩=pure (d.ps.zip us)) :
    CloOk P w K mg base (κof mg) (k + 1) j (cloO d.ps.length c):=by
  refine⟨fun X f vs σ H Q α Z Ω caps ds n e1 e2 e3 e4 e5 hr S hn ho r g => ?_⟩
  subst e1 e2 e3 e4 e5 hj
  obtain⟨a,ha,c',cl,cv,C,O,rc⟩:=S.cell ho
  rw[hn]at ha
  cases ha
  have Sc:=cloSc_ok hs
  unfold cloO at g
  split at g
  · rename_i hl
    refine clo_call (CX:=CX0) (E:=E0) C Sc O hr pass0 (by rw[r.length];exact hl) (fun doc pm ctv us=>hb cl doc pm c' ctv us) fun outer s hr' => ?_
    have G:GoodSO (cxClo CX0 X.prog X.w X.K X.mg X.base ((CloTab.tab j).ps++(CloTab.tab j).cn) (CloTab.tab j).qual (CloTab.tab j).scope f (.ref c') cl X.A outer s H E0).nox (κof X.mg) T k (CloTab.tab j).scope ((CloTab.tab j).ps++(CloTab.tab j).cn):=
      { scope:=rfl,names:=rfl,calm:=rfl,room:=hr',blts:=W.blts,own:=PassesOwn.never,nod:=Sc.nd,kind:=Sc.kind,nox:=fun _ _ _ h=>h,fld:=W.fld,cst:=W.cst
        fnn:=fun x h _=>by
          right
          show(CloTab.tab j).scope.names.lookup x=some .local
          unfold locB at h
          split at h
          · assumption
          · rename_i q;exact absurd rfl (Sc.cell _ (PySem.mem_of_lookup q))
          · cases h
        pfn:=fun x F h=>⟨W.pfn x F h⟩,fn:=fun x F h=>⟨W.fn x F h⟩,met:=fun m C F h=>⟨W.met m C F h⟩,cls:=fun C F h=>let ⟨j,h1,h2⟩:=W.cls C F h;⟨j,h1,⟨h2⟩⟩,clo:=W.clo }
    refine⟨tSO (κof X.mg) Φ0 α Z H c ((ds++caps).map some) Ω,PSs.nox (trSsO_ok (trSx_ok G 30 60) hc α Z H ((ds++caps).map some) Ω),α,Z,⟨S,GrO.refl S.has,by simp[r.length,rc.length],fun i d hi => ?_⟩,?_⟩
    · rw[List.getElem?_map]at hi
      obtain⟨d',h1,h2⟩:=Option.map_eq_some_iff.mp hi
      cases h2
      obtain⟨v,h3,h4⟩:=(r.append rc).get h1
      exact⟨v,by rw[List.getElem?_map,h3];rfl,h4⟩
    · cases q:c ((ds++caps).map some) Ω with
      | rt d Ω'=>rw[q]at g;exact fun v H' α' Z' gr st r=>g v H' α' Z' gr st r
      | nx ρ Ω'=>rw[q]at g;exact fun σ H' α' Z' S'=>g .non H' α' Z' S'.gr S'.st (repO_flat rfl)
      | bk ρ Ω'=>rw[q]at g;exact g.elim
      | ct ρ Ω'=>rw[q]at g;exact g.elim
      | exc x Ω'=>rw[q]at g;exact g
      | bad=>rw[q]at g;exact g.elim
  · exact g.elim
theorem WldO.addL(W:WldO P w K mg base T k){F:List D->FnO}{j:Nat}(hj:T.clo.length=j)(h:CloOk P w K mg base (κof mg) (k + 1) j F):WldO P w K mg base (T.addL F) (k + 1):=by
 have W':=W.mono (Nat.le_succ k)
 refine⟨W'.blts,W'.pfn,W'.fn,W'.cst,W'.met,W'.cls,W'.fld,fun i G q => ?_⟩
 have q:(T.clo++[F])[i]?=some G:=q
 by_cases hi:i < T.clo.length
 ·rw[List.getElem?_append_left hi]at q
  exact W'.clo i G q
 ·rw[List.getElem?_append_right (by omega)]at q
  have:i=j:=by
   have:=(List.getElem?_eq_some_iff.mp q).1
   simp at this
   omega
  subst this
  rw[hj]at q
  simp at q
  subst q
  exact h
end
end Mir
namespace Mir
open PySem PySem.Spec PyProof.Rows L2
section
variable{X:Cx}{pins:List (Addr×Obj)}{σ:L2.St}{s:Shared}
theorem freezeAll:∀ (ys xs:List Str) (H:Hp),Inv (X.fz xs) pins σ H s->ys.Nodup->(∀ y∈ys,X.fn y=true/\y∉xs/\∃ c o val,X.env.cells.lookup y=some c/\s.heap.get? c=some o/\o.data=.cell (some val)) ->
  ∃ H',Inv (X.fz (ys.reverse++xs)) pins σ H' s/\(∀ b o,H b=some o->H' b=some o)/\∀ y∈ys,∀ c o,X.env.cells.lookup y=some c->s.heap.get? c=some o->H' c=some (stayO c o)
 | [],xs,H,I,_,_=>⟨H,I,fun _ _ e=>e,fun y hy=>absurd hy (by simp)⟩
 | y::ys,xs,H,I,nd,h=>by
  obtain⟨h1,h2,c,o,val,hc,ho,hd⟩:=h y (by simp)
  have hf:(X.fz xs).fn y=true:=by
   show(X.fn y && !(xs.contains y))=true
   simp[h1,h2]
  have hn:H c=none:=(I.freeC y c hc).2 hf
  have nd':=List.nodup_cons.mp nd
  obtain⟨H',I',k1,k2⟩:=freezeAll ys (y::xs) _ (I.freeze hc hf ho hd) nd'.2 fun z hz=>by
   obtain⟨q1,q2,q3⟩:=h z (by simp[hz])
   exact⟨q1,fun w=>by
    rcases List.mem_cons.mp w with e | w
    ·subst e;exact nd'.1 hz
    ·exact q2 w,q3⟩
  refine⟨H',?_,fun b u e=>k1 b u ?_,fun z hz c' o' e1 e2 => ?_⟩
  ·rw[show(y::ys).reverse++xs=ys.reverse++(y::xs) by simp]
   exact I'
  ·rw[upd_ne (ne_of_none e hn)];exact e
  ·rcases List.mem_cons.mp hz with rfl | hz
   ·rw[hc]at e1;cases e1
    rw[ho]at e2;cases e2
    exact k1 _ _ upd_same
   ·exact k2 z hz c' o' e1 e2
end
variable [CloTab]
noncomputable def slotsO(ρ:OEnv):List Nat->Option (List D)
 | []=>some []
 | i::is=>match ρ[i]?,slotsO ρ is with
  | some (some d),some ds=>some (d::ds)
  | _,_=>none
noncomputable def sDef(i j:Nat)(is:List Nat):SM:=fun ρ Ω=>match slotsO ρ is with
 | some ds=>.nx (ρ.set i (some (.ref Ω.length))) (Ω++[.fn j ds])
 | none=>.bad
noncomputable def lawD(n:Nat)(c1:SM)(i j:Nat)(is:List Nat)(c2:SM):FnO:=fun ds Ω=>finO (sSeq c1 (sSeq (sDef i j is) c2) (entryO n ds) Ω)
noncomputable def lawTSp(T0:Addr)(α0:List Addr)(Ω0:Sto)(F:FnO):Sp:=fun vs H Q _=>H T0=some (.tbl #[])/\T0∉α0/\∃ (a:Addr) (ns:List Int) (Ω':Sto),vs=[.ref a]/\a≠T0/\(∀ κ,StO κ α0 (fun b=>b=a) Ω0 H)/\Rd H a (.lst (ns.map V.int))/\F [.lst (ns.map D.int)] Ω0=.ok (.bl true) Ω'/\∀ H',Q (.bl true) H'
section
variable{κ:Str->Addr->Prop}{α α0:List Addr}{Z Z0:Addr->Prop}{Ω:Sto}{H H0 H2:Hp}{ρ:OEnv}{σ:L2.St}
theorem All2.impR{α β:Type}{R S:α->β->Prop}:∀ {as:List α} {bs:List β},All2 R as bs->(∀ a b,b∈bs->R a b->S a b)->All2 S as bs
 | _,_,.nil,_=>.nil
 | _,_,.cons r t,h=>.cons (h _ _ (by simp) r) (All2.impR t fun a b m=>h a b (by simp[m]))
theorem StO.made(S:StO κ α Z Ω H){T0 f:Addr}{ps:Array Value}{c:Cell}(hT:H T0=some (.tbl ps))(hTZ:¬ Z T0)(hTα:T0∉α)(keep:∀ b o,H b=some o->b≠T0->H2 b=some o)(hf:H f=none)
  (hc:∀ R:D->V->Prop,(∀ d v,RepO α Z H d v->R d v)->CelR κ R H2 f c):StO κ (α++[f]) Z (Ω++[c]) H2/\∀ d v,RepO α Z H d v->RepO (α++[f]) Z H2 d v:=by
 have hne:∀ a∈α,a≠f:=fun a ha e=>S.has a ha (e▸hf)
 have rp:∀ d v,RepO α Z H d v->RepO (α++[f]) Z H2 d v:=fun d v r=>r.mono (fun n a e=>by rw[List.getElem?_append_left (List.getElem?_eq_some_iff.mp e).1];exact e) (fun a o z e=>keep a o e fun q=>hTZ (q▸z)) fun _ h=>h
 refine⟨⟨?_,?_,fun a ha hz => ?_,fun a ha => ?_⟩,rp⟩
 ·refine List.nodup_append.mpr ⟨S.nod,by simp,fun a ha b hb => ?_⟩
  rw[List.mem_singleton.mp hb];exact hne a ha
 ·refine All2.append (S.cel.impR fun c a ha hc => ?_) (.one (hc _ rp))
  exact hc.imp rp (fun u e=>keep a u e fun q=>hTα (q▸ha)) fun b o' u' e=>keep b _ e fun q=>by rw[q,hT]at e;cases e
 ·rcases List.mem_append.mp ha with ha | ha
  ·exact S.sep a ha hz
  ·rw[List.mem_singleton.mp ha]at hz;exact S.dom _ hz hf
 ·cases q:H a with
  | none=>exact absurd q (S.dom a ha)
  | some o=>rw[keep a o q fun e=>hTZ (e▸ha)];simp
theorem slotsO_ok(S:SimO κ α0 Z0 H0 α Z Ω ρ σ H):∀ {is:List Nat} {ds:List D},slotsO ρ is=some ds->∃ cv,All2 (RepO α Z H) ds cv/\cv.length=is.length/\∀ (m i:Nat) (v:V),is[m]?=some i->cv[m]?=some v->σ[i]?=some (some v)
 | [],ds,h=>by cases h;exact⟨[],.nil,rfl,fun m i v h=>by simp at h⟩
 | i::is,ds,h=>by
  unfold slotsO at h
  split at h
  ·rename_i d ds' h1 h2
   cases h
   obtain⟨cv,r,hl,hg⟩:=slotsO_ok S h2
   obtain⟨v,e,rv⟩:=S.val i d h1
   refine⟨v::cv,.cons rv r,by simp[hl],fun m i' v' e1 e2 => ?_⟩
   cases m with
   | zero=>simp at e1 e2;subst e1;subst e2;exact e
   | succ m=>exact hg m i' v' (by simpa using e1) (by simpa using e2)
  ·cases h
noncomputable def AfterO(X:Cx)(κ:Str->Addr->Prop)(α0:List Addr)(Z0:Addr->Prop)(H0:Hp)(rest:List Stmt)(Q:Flow->Shared->Prop):ResO->Prop
 | .nx ρ Ω=>∀ σ H α Z s',SimO κ α0 Z0 H0 α Z Ω ρ σ H->Inv X [] σ H s'->wpAny (model X.prog X.w) X.A (execs rest X.env) Q X.xe s'
 | .rt d Ω=>∀ v u σ H α Z s',GrO α0 Z0 H0 α Z H->StO κ α Z Ω H->RepO α Z H d v->Inv X [] σ H s'->RelV v u->Q (.ret u) s'
 | _=>False
theorem run_pre{X:Cx}{f:Stmt->Option SM}{rest:List Stmt}{Q:Flow->Shared->Prop}(hf:∀ s c,f s=some c->PSo X κ Φ0 s c):∀ {ss:List Stmt} {c:SM},trSsO f ss=some c->∀ {ρ:OEnv} {Ω:Sto} {σ:L2.St} {H:Hp} {s:Shared} {α:List Addr} {Z:Addr->Prop},
  SimO κ α0 Z0 H0 α Z Ω ρ σ H->Inv X [] σ H s->AfterO X κ α0 Z0 H0 rest Q (c ρ Ω)->wpAny (model X.prog X.w) X.A (execs (ss++rest) X.env) Q X.xe s
 | [],c,h,ρ,Ω,σ,H,s,α,Z,S,I,g=>by cases h;exact g σ H α Z s S I
 | st::ss,c,h,ρ,Ω,σ,H,s,α,Z,S,I,g=>by
  obtain⟨a,b,h1,h2,rfl⟩:=o2_inv h
  have P1:=hf st a h1 α0 Z0 H0 ρ Ω
  refine wpAny_execs_cons ?_
  cases q:a ρ Ω with
  | nx ρ1 Ω1=>
   have g':AfterO X κ α0 Z0 H0 rest Q (b ρ1 Ω1):=by
    have:sSeq a b ρ Ω=b ρ1 Ω1:=by unfold sSeq;rw[q]
    rw[← this];exact g
   refine thn (P1 [] s σ H { nx:=fun σ H=>∃ α Z,SimO κ α0 Z0 H0 α Z Ω1 ρ1 σ H,rt:=fun _ _=>False } I ⟨α,Z,S,by rw[q];exact fun σ H α Z S=>⟨α,Z,S⟩⟩) fun fl s1 z => ?_
   cases fl with
   | next=>obtain⟨σ',H',I',α',Z',S'⟩:=z;exact run_pre hf h2 S' I' g'
   | ret u=>obtain⟨_,_,_,_,_,z⟩:=z;exact z.elim
   | brk=>obtain⟨_,_,_,z⟩:=z;exact z.elim
   | cont=>obtain⟨_,_,_,z⟩:=z;exact z.elim
  | rt d Ω1=>
   have g':AfterO X κ α0 Z0 H0 rest Q (.rt d Ω1):=by
    have:sSeq a b ρ Ω=.rt d Ω1:=by unfold sSeq;rw[q]
    rw[← this];exact g
   refine thn (P1 [] s σ H { nx:=fun _ _=>False,rt:=fun v H=>∃ α Z,GrO α0 Z0 H0 α Z H/\StO κ α Z Ω1 H/\RepO α Z H d v } I ⟨α,Z,S,by rw[q];exact fun v H α Z h1 h2 h3=>⟨α,Z,h1,h2,h3⟩⟩) fun fl s1 z => ?_
   cases fl with
   | next=>obtain⟨_,_,_,z⟩:=z;exact z.elim
   | ret u=>obtain⟨v,σ',H',I',rv,α',Z',z1,z2,z3⟩:=z;exact g' v u σ' H' α' Z' s1 z1 z2 z3 I' rv
   | brk=>obtain⟨_,_,_,z⟩:=z;exact z.elim
   | cont=>obtain⟨_,_,_,z⟩:=z;exact z.elim
  | bk ρ1 Ω1=>unfold sSeq at g;rw[q]at g;exact g.elim
  | ct ρ1 Ω1=>unfold sSeq at g;rw[q]at g;exact g.elim
  | exc x Ω1=>unfold sSeq at g;rw[q]at g;exact g.elim
  | bad=>unfold sSeq at g;rw[q]at g;exact g.elim
end
section
variable{P:Program}{w:World}{K:PySem.W.Frag}{mg:Str->Option Value}{base:Heap}{T T2:TabO}{k:Nat}
structure DefIn(qual:Str)(sc:Scope)(N:List Str)(d:CloD)(i:Nat)(is:List Nat)(cl:Nat->List (Str×Addr)):Prop where
 slot:N[i]?=some d.name
 loc:sc.names.lookup d.name=some .local
 caps:is.map (fun m=>N[m]?)=d.cn.map some
 cell:∀ y∈d.cn,sc.names.lookup y=some .cell
 nd:d.cn.Nodup
 qn:∀ (L f c:Addr),qualnameIn (envOfC qual sc L f (.ref c)) d.name d.name=d.qual
 df:d.params.defaults=[]
 kd:d.params.kw_defaults=[]
 ann:∀ env,annTrees d.params none env=[]
 clos:∀ (L f c:Addr),closureFor d.scope (envOfC qual sc L f (.ref c))=pure (cl L)
 only:∀ (L:Addr) y cc,(cl L).lookup y=some cc->y∈d.cn/\(cellsFrom (L + 1) sc.names []).lookup y=some cc
 has:∀ (L:Addr),∀ y∈d.cn,∃ cc,(cl L).lookup y=some cc
theorem lawD_ok{α0:List Addr}{Ω0:Sto}(W:WldO P w K mg base T k)(W2:WldO P w K mg base T2 k){x qual x0:Str}{st:Stmt}{f c T0:Addr}{fd:FuncData}(F:Fun K x qual st f fd)(hcv:fd.code=.ref c){N td:List Str}(hs:fnScB N [x0] (defScope st)=true)
    {ss1 ss2:List Stmt} {d:CloD} {pos:Pos} (hb:defBody st=ss1++.FunctionDef d.name d.params d.body [] none [] d.scope none d.name pos::ss2) {c1 c2:SM} (h1:trSsO (trSx T td 60 (defScope st) N 30) ss1=some c1) (h2:trSsO (trSx T2 td 60 (defScope st) N 30) ss2=some c2)
    {i j:Nat} {is:List Nat} {cl:Nat->List (Str×Addr)} (hj:CloTab.tab j=d) (hfz:T2.fz=d.cn) (A:DefIn qual (defScope st) N d i is cl) (hC:PySem.W.CodeHd base c T0) (hB:∃ Pl,base.BuiltinsAt mg Pl) :
    FnOk P w K mg base CX0 (k + 1) f fd [x0] (lawTSp T0 α0 Ω0 (lawD N.length c1 i j is c2)):=by
  have Sc:=fnSc_ok hs
  subst hj
  refine F.okW hcv Sc (fun vs H Q E h => ?_) fun Ar outer s s1 H vs Q E hr h I => ?_
  · obtain⟨_,_,a,ns,Ω',rfl,_⟩:=h;rfl
  obtain⟨hT,hTα,a,ns,Ωe,rfl,haT,S0',hR,hF,hQ⟩:=h
  have S0:=S0' (κof mg)
  generalize hX:(cxOf CX0 P w K mg base N qual (defScope st) f (.ref c) Ar outer s H E).nox=X at *
  have r0:All2 (RepO α0 (fun b=>b=a) H) [.lst (ns.map D.int)] [.ref a]:=.one (by
    simp only[RepO]
    refine⟨a,ns.map V.int,rfl,rfl,hR,?_⟩
    clear hF hR S0 S0'
    induction ns with
    | nil=>exact repOs_iff.mpr .nil
    | cons n ns ih=>exact repOs_iff.mpr (.cons (by simp only[RepO]) (repOs_iff.mp ih)))
  have fin:∀ {α:List Addr} {Z:Addr->Prop} {H':Hp} {Ω:Sto} {dd:D} {v:V},dd=.bl true->RepO α Z H' dd v->Q v H':=fun {α Z H' Ω dd v} e r=>by
    subst e
    simp only[RepO]at r
    subst r;exact hQ _
  have G:GoodSO X (κof mg) T k (defScope st) N:=by
    subst hX
    exact
      { scope:=rfl,names:=rfl,calm:=rfl,room:=hr,blts:=W.blts,own:=PassesOwn.never,fnn:=fun _ _ _=>.inl rfl,nod:=Sc.nd,kind:=Sc.kind,nox:=fun _ _ _ h=>h,fld:=W.fld,cst:=W.cst
        pfn:=fun x F h=>⟨W.pfn x F h⟩,fn:=fun x F h=>⟨W.fn x F h⟩,met:=fun m C F h=>⟨W.met m C F h⟩,cls:=fun C F h=>let ⟨j,h1,h2⟩:=W.cls C F h;⟨j,h1,⟨h2⟩⟩,clo:=W.clo }
  have G2:GoodSO (X.fz ((CloTab.tab j).cn.reverse++[])) (κof mg) T2 k (defScope st) N:=by
    subst hX
    exact
      { scope:=rfl,names:=rfl,calm:=rfl,room:=hr,blts:=W2.blts,own:=PassesOwn.never,nod:=Sc.nd,kind:=Sc.kind,nox:=fun _ _ _ h=>h,fld:=W2.fld,cst:=W2.cst
        fnn:=fun y _ hy=>.inl (by
            show(true && !(((CloTab.tab j).cn.reverse++[]).contains y))=true
            rw[hfz]at hy
            simpa using hy)
        pfn:=fun x F h=>⟨W2.pfn x F h⟩,fn:=fun x F h=>⟨W2.fn x F h⟩,met:=fun m C F h=>⟨W2.met m C F h⟩,cls:=fun C F h=>let ⟨j,h1,h2⟩:=W2.cls C F h;⟨j,h1,⟨h2⟩⟩,clo:=W2.clo }
  have eP:X.prog=P:=by subst hX;rfl
  have ew:X.w=w:=by subst hX;rfl
  have eA:X.A=Ar.deeper (envOfC qual (defScope st) s.heap.objs.size f (.ref c)):=by subst hX;rfl
  have ee:X.env=envOfC qual (defScope st) s.heap.objs.size f (.ref c):=by subst hX;rfl
  have eN:X.N=N:=by subst hX;rfl
  have ex:X.xe=fun _ _=>False:=by subst hX;rfl
  have eb:X.base=base:=by subst hX;rfl
  have em:X.mg=mg:=by subst hX;rfl
  have ef:∀ y,X.fn y=true:=by subst hX;exact fun _=>rfl
  rw[hb,← eP,← ew,← eA,← ee,← ex]
  unfold lawD at hF
  refine run_pre (κ:=κof mg) (α0:=α0) (Z0:=fun b=>b=a) (H0:=H) (fun s c h=>trSx_ok G 30 60 s c h) h1 (simO_entry S0 r0) I ?_
  cases q1:c1 (entryO N.length [.lst (ns.map D.int)]) Ω0 with
  | bk ρ1 Ω1=>unfold sSeq at hF;rw[q1]at hF;cases hF
  | ct ρ1 Ω1=>unfold sSeq at hF;rw[q1]at hF;cases hF
  | exc x1 Ω1=>unfold sSeq at hF;rw[q1]at hF;cases hF
  | bad=>unfold sSeq at hF;rw[q1]at hF;cases hF
  | rt dd Ω1=>
    have hd:dd=.bl true:=by unfold sSeq at hF;rw[q1]at hF;cases hF;rfl
    intro v u σ' H' α' Z' s' g1 g2 g3 I' rv
    exact⟨[],v,u,σ',H',.inl rfl,I'.fz_nil,rv,fin (Ω:=Ω1) hd g3⟩
  | nx ρ1 Ω1=>
    have hF:finO (sSeq (sDef i j is) c2 ρ1 Ω1)=.ok (.bl true) Ωe:=by
      have:sSeq c1 (sSeq (sDef i j is) c2) (entryO N.length [.lst (ns.map D.int)]) Ω0=sSeq (sDef i j is) c2 ρ1 Ω1:=(fun b=>by unfold sSeq;rw[q1]:∀ b:SM,sSeq c1 b (entryO N.length [.lst (ns.map D.int)]) Ω0=b ρ1 Ω1) _
      rw[← this];exact hF
    intro σ1 H1 α1 Z1 s2 S1 I1
    have hT1:H1 T0=some (.tbl #[]):=S1.gr.frm T0 _ hT hTα
    have hα1:T0∉α1:=fun z=>by
      rcases S1.gr.fre T0 z with z | z
      · exact hTα z
      · rw[hT]at z;cases z
    have hZ1:¬ Z1 T0:=fun z=>by
      rcases S1.gr.new T0 z with z | z
      · exact haT z.symm
      · rw[hT]at z;cases z
    cases q2:slotsO ρ1 is with
    | none=>unfold sSeq sDef at hF;rw[q2]at hF;cases hF
    | some ds=>
      have hF:finO (c2 (ρ1.set i (some (.ref Ω1.length))) (Ω1++[.fn j ds]))=.ok (.bl true) Ωe:=by
        have:sSeq (sDef i j is) c2 ρ1 Ω1=c2 (ρ1.set i (some (.ref Ω1.length))) (Ω1++[.fn j ds]):=by unfold sSeq sDef;rw[q2]
        rw[← this];exact hF
      obtain⟨cv,rc,lc,gc⟩:=slotsO_ok S1 q2
      have lis:is.length=(CloTab.tab j).cn.length:=by simpa using congrArg List.length A.caps
      have at':∀ (m:Nat) (y:Str),(CloTab.tab j).cn[m]?=some y->∃ mi v,is[m]?=some mi/\N[mi]?=some y/\cv[m]?=some v/\σ1[mi]?=some (some v)/\mi≠i:=fun m y hm=>by
        have hlt:m < (CloTab.tab j).cn.length:=(List.getElem?_eq_some_iff.mp hm).1
        have e1:is[m]?=some is[m]:=List.getElem?_eq_getElem (by omega)
        have e2:=congrArg (fun l=>l[m]?) A.caps
        simp only[List.getElem?_map,e1,hm,Option.map_some]at e2
        have e2:N[is[m]]?=some y:=Option.some.inj e2
        have e3:cv[m]?=some cv[m]:=List.getElem?_eq_getElem (by omega)
        refine⟨_,_,e1,e2,e3,gc m _ _ e1 e3,fun z => ?_⟩
        rw[z,A.slot]at e2
        have:=A.cell y (List.mem_of_getElem? hm)
        rw[← Option.some.inj e2,A.loc]at this
        cases this
      refine wpAny_execs_cons (def_run (qual:=(CloTab.tab j).qual) (i:=i) (cl:=cl s.heap.objs.size) I1 hT1 trivial rfl (by rw[ee];rfl) (by rw[eb];exact hC) (by rw[eb,em];exact hB) (by rw[ee];exact A.qn _ _ _) A.df A.kd (A.ann _) (by rw[ee];exact A.clos _ _ _) (by rw[eN];exact Sc.nd) (by rw[eN];exact A.slot) (by rw[ee];exact A.loc) ?_)
      intro fn c' oc doc pm ctv vs' t s3 n1 n2 ncf ncP nfP _ _ hoc hv I3
      have cells:∀ (m:Nat) (y:Str),(CloTab.tab j).cn[m]?=some y->∃ cc o val v,X.env.cells.lookup y=some cc/\s3.heap.get? cc=some o/\o.data=.cell (some val)/\cv[m]?=some v/\RelV v val:=fun m y hm=>by
        obtain⟨mi,v,e1,e2,e3,e4,ne⟩:=at' m y hm
        obtain⟨mm,_,hl⟩:=I3.loc
        have hc:=A.cell y (List.mem_of_getElem? hm)
        obtain⟨u,rv,lk⟩:=hl mi y v (by rw[eN];exact e2) (by rw[List.getElem?_set_ne (Ne.symm ne)];exact e4) (.inr (.inl (by rw[ee];exact hc)))
        rcases lk with ⟨lk,_⟩ | ⟨_,cc,h3,o,h4,h5⟩
        · rw[ee]at lk
          have lk:(defScope st).names.lookup y=some (.local):=lk
          rw[hc]at lk;cases lk
        · exact⟨cc,o,u,v,h3,h4,h5,e3,rv⟩
      obtain⟨H4,I4,k4,z4⟩:=freezeAll (CloTab.tab j).cn [] _ I3.fz_nil A.nd fun y hy=>by
        obtain⟨m,hm⟩:=List.mem_iff_getElem?.mp hy
        obtain⟨cc,o,val,v,q3,q4,q5,_⟩:=cells m y hm
        exact⟨ef y,by simp,cc,o,val,q3,q4,q5⟩
      have keep:∀ b o,H1 b=some o->b≠T0->H4 b=some o:=fun b o e hb=>k4 b o (by
        unfold madeH
        rw[upd_ne (ne_of_none e n2),upd_ne (ne_of_none e n1),upd_ne hb];exact e)
      obtain⟨S4,rp⟩:=S1.st.made (c:=.fn j ds) hT1 hZ1 hα1 keep n2 fun R hR=>by
        refine⟨c',cl s.heap.objs.size,cv,⟨⟨doc,pm,ctv,_,k4 _ _ madeH_f⟩,oc,_,vs',t,k4 _ _ (madeH_c ncf),hoc,hv⟩,⟨by omega,fun m y v e1 e2 => ?_,fun y cc e=>(A.only _ _ _ e).1,fun y z cc e1 e2 => ?_⟩,rc.imp hR⟩
        · obtain⟨cc,o,val,v',q3,q4,q5,q6,q7⟩:=cells m y e1
          rw[e2]at q6;cases q6
          obtain⟨c3,hc3⟩:=A.has s.heap.objs.size y (List.mem_of_getElem? e1)
          have q8:=(A.only _ _ _ hc3).2
          have q3':=q3
          rw[ee]at q3'
          have q3':(cellsFrom (s.heap.objs.size + 1) (defScope st).names []).lookup y=some cc:=q3'
          rw[q8]at q3';cases q3'
          exact⟨_,o,_,val,hc3,z4 y (List.mem_of_getElem? e1) _ o q3 q4,q5,q7⟩
        · have o1:=(A.only _ _ _ e1).2
          have o2:=(A.only _ _ _ e2).2
          exact I1.ok.inj y z cc (by rw[ee];exact o1) (by rw[ee];exact o2)
      have R4:=trSsO_ok (fun s c h=>trSx_ok (Φ:=Φ0) G2 30 60 s c h) h2 (α1++[fn]) Z1 H4 (ρ1.set i (some (.ref Ω1.length))) (Ω1++[.fn j ds])
      have lα:=S1.st.len
      have S5:SimO (κof mg) (α1++[fn]) Z1 H4 (α1++[fn]) Z1 (Ω1++[.fn j ds]) (ρ1.set i (some (.ref Ω1.length))) (σ1.set i (some (.ref fn))) H4:=by
        refine⟨S4,GrO.refl S4.has,by simp[S1.len],fun n dd e => ?_⟩
        by_cases hni:n=i
        · subst hni
          have hlt:n < ρ1.length:=by
            have:=(List.getElem?_eq_some_iff.mp e).1
            simpa using this
          rw[List.getElem?_set_self hlt]at e
          cases e
          refine⟨.ref fn,List.getElem?_set_self (by rw[S1.len];exact hlt),?_⟩
          simp only[RepO]
          exact⟨fn,by rw[← lα];simp,rfl⟩
        · rw[List.getElem?_set_ne (Ne.symm hni)]at e
          obtain⟨v,e1,e2⟩:=S1.val n dd e
          exact⟨v,by rw[List.getElem?_set_ne (Ne.symm hni)];exact e1,rp _ _ e2⟩
      refine thn (R4 [] s3 _ H4 { nx:=fun _ _=>False,rt:=fun v H'=>Q v H' } I4 ⟨α1++[fn],Z1,S5,?_⟩) fun fl s' z => ?_
      · cases q3:c2 (ρ1.set i (some (.ref Ω1.length))) (Ω1++[.fn j ds]) with
        | rt dd Ω3=>rw[q3]at hF;cases hF;exact fun v H' α' Z' _ _ r=>fin (Ω:=[]) rfl r
        | nx _ _=>rw[q3]at hF;cases hF
        | bk _ _=>rw[q3]at hF;cases hF
        | ct _ _=>rw[q3]at hF;cases hF
        | exc _ _=>rw[q3]at hF;cases hF
        | bad=>rw[q3]at hF;cases hF
      · cases fl with
        | next=>obtain⟨_,_,_,z⟩:=z;exact z.elim
        | ret u=>obtain⟨v,σ',H',I',rv,z⟩:=z;exact⟨_,v,u,σ',H',.inl rfl,I',rv,z⟩
        | brk=>obtain⟨_,_,_,z⟩:=z;exact z.elim
        | cont=>obtain⟨_,_,_,z⟩:=z;exact z.elim
end
noncomputable def cclO(cn:List Str)(sc:Scope)(L:Nat):List (Str×Addr):=cn.reverse.filterMap fun y=>((cellsFrom (L + 1) sc.names []).lookup y).map fun c=>(y,c)
theorem cclO_only{cn:List Str}{sc:Scope}{L:Addr}{y:Str}{cc:Addr}(h:(cclO cn sc L).lookup y=some cc):y∈cn/\(cellsFrom (L + 1) sc.names []).lookup y=some cc:=by
 obtain⟨z,hz,e⟩:=List.mem_filterMap.mp (PySem.mem_of_lookup h)
 obtain⟨c,e1,e2⟩:=Option.map_eq_some_iff.mp e
 cases e2
 exact⟨List.mem_reverse.mp hz,e1⟩
theorem look_has{l:List (Str×Addr)}{y:Str}{c:Addr}(h:(y,c)∈l):∃ c',l.lookup y=some c':=by
 induction l with
 | nil=>cases h
 | cons p r ih=>
  obtain⟨z,k⟩:=p
  rw[List.lookup_cons]
  cases e:y == z with
  | true=>exact⟨k,rfl⟩
  | false=>
   rcases List.mem_cons.mp h with q | q
   ·cases q;simp at e
   ·exact ih q
theorem cclO_has{cn:List Str}{sc:Scope}(hc:∀ y∈cn,sc.names.lookup y=some .cell)(L:Addr){y:Str}(h:y∈cn):∃ cc,(cclO cn sc L).lookup y=some cc:=by
 obtain⟨c,e⟩:=cell_has (n:=L + 1) (hc y h)
 refine look_has (c:=c) (List.mem_filterMap.mpr ⟨y,List.mem_reverse.mpr h,?_⟩)
 rw[e];rfl
noncomputable def defInB(sc:Scope)(N:List Str)(d:CloD)(i:Nat)(is:List Nat):Bool:=
 N[i]? == some d.name && sc.names.lookup d.name == some .local && is.map (fun m=>N[m]?) == d.cn.map some && d.cn.all (fun y=>sc.names.lookup y == some .cell) && decide d.cn.Nodup && d.params.defaults.isEmpty && d.params.kw_defaults.isEmpty
theorem defIn_of{qual:Str}{sc:Scope}{N:List Str}{d:CloD}{i:Nat}{is:List Nat}(h:defInB sc N d i is=true)(qn:∀ (L f c:Addr),qualnameIn (envOfC qual sc L f (.ref c)) d.name d.name=d.qual)(ann:∀ env,annTrees d.params none env=[])
  (clos:∀ (L f c:Addr),closureFor d.scope (envOfC qual sc L f (.ref c))=pure (cclO d.cn sc L)):DefIn qual sc N d i is (cclO d.cn sc):=by
 simp only[defInB,Bool.and_eq_true,beq_iff_eq,List.all_eq_true,decide_eq_true_eq,List.isEmpty_iff]at h
 obtain⟨⟨⟨⟨⟨⟨h1,h2⟩,h3⟩,h4⟩,h5⟩,h6⟩,h7⟩:=h
 exact⟨h1,h2,h3,h4,h5,qn,h6,h7,ann,clos,fun L y cc e=>cclO_only e,fun L y hy=>cclO_has h4 L hy⟩
noncomputable def defPos:Stmt->Pos
 | .FunctionDef _ _ _ _ _ _ _ _ _ p=>p
 | _=>⟨0,0,0,0⟩
section
variable{P:Program}{w:World}{K:PySem.W.Frag}{mg:Str->Option Value}{base:Heap}{T:TabO}{k:Nat}
theorem WldO.withFz(W:WldO P w K mg base T k)(fz:List Str):WldO P w K mg base { T with fz:=fz } k:=⟨W.blts,W.pfn,W.fn,W.cst,W.met,W.cls,W.fld,W.clo⟩
theorem no_list{K:PySem.W.Frag}(hK:noListIn K=true){a:Addr}{o:Obj}(h:K.lookup a=some o):o.cls≠.type "list":=fun z=>by
 have:=List.all_eq_true.mp hK _ (mem_frag h)
 rw[z]at this
 exact absurd this (by decide)
end
end Mir
namespace Mir
open PySem L2
section
variable{α β:Type}{Ω Ω':Sto}{ρ:OEnv}{d x y:D}{ma mb mc mi:EM}{as:AM}{a b:SM}
@[simp] theorem ob_ok{a:α}{f:α->Sto->OutO β}:(OutO.ok a Ω).bind f=f a Ω:=rfl
@[simp] theorem ob_exc{f:α->Sto->OutO β}:(OutO.exc x Ω:OutO α).bind f=.exc x Ω:=rfl
@[simp] theorem ob_bad{f:α->Sto->OutO β}:(OutO.bad:OutO α).bind f=.bad:=rfl
@[simp] theorem lo_ok{a:α}{k:α->Sto->ResO}:liftO (.ok a Ω) k=k a Ω:=rfl
@[simp] theorem lo_exc{k:α->Sto->ResO}:liftO (.exc x Ω:OutO α) k=.exc x Ω:=rfl
@[simp] theorem lo_bad{k:α->Sto->ResO}:liftO (.bad:OutO α) k=.bad:=rfl
@[simp] theorem oo_ok{b:OutO D}:orO (.ok d Ω) b=.ok d Ω:=rfl
@[simp] theorem oo_exc{b:OutO D}:orO (.exc d Ω) b=.exc d Ω:=rfl
@[simp] theorem oo_bad{b:OutO D}:orO .bad b=b:=rfl
@[simp] theorem m1_eq{f:D->Sto->OutO D}:m1 f ma ρ Ω=(ma ρ Ω).bind f:=rfl
@[simp] theorem m2_eq{f:D->D->Sto->OutO D}:m2 f ma mb ρ Ω=(ma ρ Ω).bind fun x Ω1=>(mb ρ Ω1).bind fun y Ω2=>f x y Ω2:=rfl
@[simp] theorem mN_eq{f:List D->Sto->OutO D}:mN f as ρ Ω=(as ρ Ω).bind f:=rfl
@[simp] theorem mNil_eq:mNil ρ Ω=.ok [] Ω:=rfl
@[simp] theorem mCons_eq:mCons ma as ρ Ω=(ma ρ Ω).bind fun x Ω1=>(as ρ Ω1).bind fun xs Ω2=>.ok (x::xs) Ω2:=rfl
noncomputable def vr:Option (Option D)->Sto->OutO D
 | some (some d),Ω=>.ok d Ω
 | _,_=>.bad
@[simp] theorem vr_some:vr (some (some d)) Ω=.ok d Ω:=rfl
@[simp] theorem mVar_eq{i:Nat}:mVar i ρ Ω=vr ρ[i]? Ω:=by
 unfold mVar
 cases ρ[i]? with
 | none=>rfl
 | some o=>cases o<;>rfl
@[simp] theorem mCst_eq:mCst d ρ Ω=.ok d Ω:=rfl
@[simp] theorem newC_eq{c:Cell}:newC Ω c=.ok (.ref Ω.length) (Ω++[c]):=rfl
noncomputable def tb(Ω:Sto):Option Bool->OutO Bool
 | some b=>.ok b Ω
 | none=>.bad
@[simp] theorem tb_some{t:Bool}:tb Ω (some t)=.ok t Ω:=rfl
@[simp] theorem tstO_ok:tstO (.ok d Ω)=tb Ω (truO Ω d):=by simp only[tstO];cases truO Ω d<;>rfl
@[simp] theorem truO_bl{t:Bool}:truO Ω (.bl t)=some t:=rfl
@[simp] theorem truO_non:truO Ω .non=some false:=rfl
@[simp] theorem truO_int{i:Int}:truO Ω (.int i)=some (i != 0):=rfl
noncomputable def tIf(t:Option Bool)(a b:OutO D):OutO D:=match t with
 | some true=>a
 | some false=>b
 | none=>.bad
@[simp] theorem tIf_t{a b:OutO D}:Mir.tIf (some true) a b=a:=rfl
@[simp] theorem tIf_f{a b:OutO D}:Mir.tIf (some false) a b=b:=rfl
@[simp] theorem mAnd_eq:mAnd ma mb ρ Ω=(ma ρ Ω).bind fun x Ω1=>Mir.tIf (truO Ω1 x) (mb ρ Ω1) (.ok x Ω1):=by
 unfold mAnd
 cases ma ρ Ω with
 | ok x Ω1=>
  simp only[ob_ok]
  cases truO Ω1 x with
  | none=>rfl
  | some t=>cases t<;>rfl
 | exc x Ω1=>rfl
 | bad=>rfl
@[simp] theorem mOr_eq:mOr ma mb ρ Ω=(ma ρ Ω).bind fun x Ω1=>Mir.tIf (truO Ω1 x) (.ok x Ω1) (mb ρ Ω1):=by
 unfold mOr
 cases ma ρ Ω with
 | ok x Ω1=>
  simp only[ob_ok]
  cases truO Ω1 x with
  | none=>rfl
  | some t=>cases t<;>rfl
 | exc x Ω1=>rfl
 | bad=>rfl
@[simp] theorem mNot_eq:mNot ma ρ Ω=(tstO (ma ρ Ω)).bind fun t Ω1=>.ok (.bl (!t)) Ω1:=rfl
@[simp] theorem mIf_eq:mIf mc ma mb ρ Ω=(tstO (mc ρ Ω)).bind fun t Ω1=>if t=true then ma ρ Ω1 else mb ρ Ω1:=rfl
@[simp] theorem alt1_eq{f g:D->Sto->OutO D}:alt1 f g x Ω=orO (f x Ω) (g x Ω):=rfl
@[simp] theorem alt2_eq{f g:D->D->Sto->OutO D}:alt2 f g x y Ω=orO (f x y Ω) (g x y Ω):=rfl
@[simp] theorem altN_eq{f g:List D->Sto->OutO D}{xs:List D}:altN f g xs Ω=orO (f xs Ω) (g xs Ω):=rfl
@[simp] theorem altM_eq{f g:EM}:altM f g ρ Ω=orO (f ρ Ω) (g ρ Ω):=rfl
@[simp] theorem rei_non{n:Nat}:rei Ω n .non=some .non:=by cases n<;>rfl
@[simp] theorem rei_bl{n:Nat}{t:Bool}:rei Ω n (.bl t)=some (.bl t):=by cases n<;>rfl
@[simp] theorem rei_int{n:Nat}{i:Int}:rei Ω n (.int i)=some (.int i):=by cases n<;>rfl
@[simp] theorem rei_str{n:Nat}{z:Str}:rei Ω n (.str z)=some (.str z):=by cases n<;>rfl
@[simp] theorem oa_nil{f:α->Option β}:optAll f []=some []:=rfl
noncomputable def oc:Option α->Option (List α)->Option (List α)
 | some y,some ys=>some (y::ys)
 | _,_=>none
@[simp] theorem oc_some{y:α}{ys:List α}:oc (some y) (some ys)=some (y::ys):=rfl
@[simp] theorem oa_cons{f:α->Option β}{x:α}{xs:List α}:optAll f (x::xs)=oc (f x) (optAll f xs):=by
 simp only[optAll];cases f x<;>cases optAll f xs<;>rfl
theorem oa_map{γ:Type}{f:β->Option γ}{g:α->β}{h:α->γ}(e:∀ x,f (g x)=some (h x)):∀ xs:List α,optAll f (xs.map g)=some (xs.map h)
 | []=>rfl
 | x::xs=>by rw[List.map_cons,oa_cons,e,oa_map e xs];rfl
@[simp] theorem oa_strs{n:Nat}{xs:List Str}:optAll (rei Ω n) (xs.map .str)=some (xs.map .str):=oa_map (fun _=>rei_str) xs
@[simp] theorem oa_ints{n:Nat}{xs:List Int}:optAll (rei Ω n) (xs.map .int)=some (xs.map .int):=oa_map (fun _=>rei_int) xs
theorem rei_lst{n:Nat}{ds es:List D}(h:optAll (rei Ω n) ds=some es):rei Ω (n + 1) (.lst ds)=some (.lst es):=by simp only[rei,h,Option.map_some]
theorem rei_tup{n:Nat}{ds es:List D}(h:optAll (rei Ω n) ds=some es):rei Ω (n + 1) (.tup ds)=some (.tup es):=by simp only[rei,h,Option.map_some]
theorem rei_ref{n k:Nat}{ds es:List D}(hk:Ω[k]?=some (.lst ds))(h:optAll (rei Ω n) ds=some es):rei Ω (n + 1) (.ref k)=some (.lst es):=by simp only[rei,hk,h,Option.map_some]
theorem rei_strs{n k:Nat}{xs:List Str}(hk:Ω[k]?=some (.lst (xs.map .str))):rei Ω (n + 1) (.ref k)=some (L1 xs):=rei_ref hk oa_strs
@[simp] theorem rei_SC{n:Nat}{ns:List Int}:rei Ω (n + 1) (SC ns)=some (SC ns):=rei_lst oa_ints
@[simp] theorem out_int{o:Bool}{i:Int}:outO Ω (.ok (o,.int i))=.ok (.int i) Ω:=rfl
@[simp] theorem out_bl{o:Bool}{t:Bool}:outO Ω (.ok (o,.bl t))=.ok (.bl t) Ω:=rfl
@[simp] theorem out_str{o:Bool}{z:Str}:outO Ω (.ok (o,.str z))=.ok (.str z) Ω:=rfl
@[simp] theorem out_non{o:Bool}:outO Ω (.ok (o,.non))=.ok .non Ω:=rfl
@[simp] theorem out_bad:outO Ω .bad=.bad:=rfl
noncomputable def vN(Ω:Sto)(f:List D->Out Rs):Option (List D)->OutO D
 | some ds=>outO Ω (f ds)
 | none=>.bad
@[simp] theorem vN_some{f:List D->Out Rs}{ds:List D}:vN Ω f (some ds)=outO Ω (f ds):=rfl
@[simp] theorem viaN_eq{f:List D->Out Rs}{xs:List D}:viaN f xs Ω=vN Ω f (optAll (rei Ω 8) xs):=by unfold viaN;cases optAll (rei Ω 8) xs<;>rfl
noncomputable def v1(Ω:Sto)(f:D->Out Rs):Option D->OutO D
 | some d=>outO Ω (f d)
 | none=>.bad
@[simp] theorem v1_some{f:D->Out Rs}:v1 Ω f (some d)=outO Ω (f d):=rfl
@[simp] theorem via1_eq{f:D->Out Rs}:via1 f x Ω=v1 Ω f (rei Ω 8 x):=by unfold via1;cases rei Ω 8 x<;>rfl
noncomputable def v2(Ω:Sto)(f:D->D->Out Rs):Option D->Option D->OutO D
 | some d,some e=>outO Ω (f d e)
 | _,_=>.bad
@[simp] theorem v2_some{f:D->D->Out Rs}{e:D}:v2 Ω f (some d) (some e)=outO Ω (f d e):=rfl
@[simp] theorem via2_eq{f:D->D->Out Rs}:via2 f x y Ω=v2 Ω f (rei Ω 8 x) (rei Ω 8 y):=by unfold via2;cases rei Ω 8 x<;>cases rei Ω 8 y<;>rfl
@[simp] theorem lenE_str{z:Str}:bltE .len [.str z]=if small z.length=true then .ok (false,.int z.length) else .bad:=rfl
@[simp] theorem allE_lst{xs:List D}:bltE .all [.lst xs]=blsR (fun bs=>bs.all id) (blsD xs):=rfl
@[simp] theorem minE_int{i j:Int}:bltE .min [.int i,.int j]=.ok (false,.int (if j < i then j else i)):=rfl
@[simp] theorem callO_eq{F:FnO}{xs:List D}:callO F xs Ω=okO (F xs Ω):=rfl
@[simp] theorem okO_ok:okO (.ok d Ω)=.ok d Ω:=rfl
@[simp] theorem cmpV_eq{op:CmpOp}:cmpV op x y Ω=v2 Ω (fun x y=>do let r ← cmpD op x y;Out.ok (false,D.bl r)) (rei Ω 8 x) (rei Ω 8 y):=by unfold cmpV;rw[via2_eq]
@[simp] theorem cmpO_Eq:cmpO .Eq x y Ω=cmpV .Eq x y Ω:=rfl
@[simp] theorem cmpO_Ne:cmpO .NotEq x y Ω=cmpV .NotEq x y Ω:=rfl
@[simp] theorem cmpO_Lt:cmpO .Lt x y Ω=cmpV .Lt x y Ω:=rfl
@[simp] theorem cmpO_Le:cmpO .LtE x y Ω=cmpV .LtE x y Ω:=rfl
@[simp] theorem cmpO_Gt:cmpO .Gt x y Ω=cmpV .Gt x y Ω:=rfl
@[simp] theorem cmpO_Ge:cmpO .GtE x y Ω=cmpV .GtE x y Ω:=rfl
@[simp] theorem cmpO_In:cmpO .In x y Ω=orO (cmpV .In x y Ω) (inDO false x y Ω):=rfl
@[simp] theorem cmpO_NotIn:cmpO .NotIn x y Ω=orO (cmpV .NotIn x y Ω) (inDO true x y Ω):=rfl
@[simp] theorem cmpO_Is:cmpO .Is x y Ω=orO (isNO false x y Ω) (cmpV .Is x y Ω):=rfl
@[simp] theorem cmpO_IsNot:cmpO .IsNot x y Ω=orO (isNO true x y Ω) (cmpV .IsNot x y Ω):=rfl
@[simp] theorem isNO_ref{n:Bool}{k:Nat}:isNO n (.ref k) .non Ω=.ok (.bl n) Ω:=rfl
@[simp] theorem isNO_int'{n:Bool}{i:Int}:isNO n (.int i) y Ω=.bad:=rfl
@[simp] theorem isNO_non'{n:Bool}:isNO n .non y Ω=.bad:=rfl
@[simp] theorem isNO_bl'{n:Bool}{t:Bool}:isNO n (.bl t) y Ω=.bad:=rfl
@[simp] theorem isNO_str'{n:Bool}{z:Str}:isNO n (.str z) y Ω=.bad:=rfl
@[simp] theorem binO_Add:binO .Add x y Ω=orO (catO x y Ω) (orO (catT x y Ω) (via2 (binD .Add) x y Ω)):=rfl
@[simp] theorem catT_int{i:Int}:catT (.int i) y Ω=.bad:=rfl
@[simp] theorem catT_str{z:Str}:catT (.str z) y Ω=.bad:=rfl
@[simp] theorem catT_ref{k:Nat}:catT (.ref k) y Ω=.bad:=rfl
@[simp] theorem catT_tup{xs ys:List D}:catT (.tup xs) (.tup ys) Ω=if small (xs.length + ys.length) then .ok (.tup (xs++ys)) Ω else .bad:=rfl
@[simp] theorem binO_Sub:binO .Sub x y Ω=via2 (binD .Sub) x y Ω:=rfl
@[simp] theorem binO_Mult:binO .Mult x y Ω=via2 (binD .Mult) x y Ω:=rfl
@[simp] theorem binO_Mod:binO .Mod x y Ω=via2 (binD .Mod) x y Ω:=rfl
@[simp] theorem binO_Fd:binO .FloorDiv x y Ω=via2 (binD .FloorDiv) x y Ω:=rfl
@[simp] theorem lst_int{i:Int}:lstO Ω (.int i)=none:=rfl
@[simp] theorem lst_str{z:Str}:lstO Ω (.str z)=none:=rfl
@[simp] theorem lst_tup{ds:List D}:lstO Ω (.tup ds)=none:=rfl
@[simp] theorem lst_lst{ds:List D}:lstO Ω (.lst ds)=some ds:=rfl
theorem lst_ref{k:Nat}{ds:List D}(h:Ω[k]?=some (.lst ds)):lstO Ω (.ref k)=some ds:=by simp only[lstO,h]
theorem own_ref{k:Nat}{ds:List D}(h:Ω[k]?=some (.lst ds)):ownO Ω (.ref k)=some (k,ds):=by simp only[ownO,h]
noncomputable def ct(Ω:Sto):Option (List D)->Option (List D)->OutO D
 | some xs,some ys=>if small (xs.length + ys.length) then .ok (.ref Ω.length) (Ω++[.lst (xs++ys)]) else .bad
 | _,_=>.bad
@[simp] theorem ct_some{xs ys:List D}:ct Ω (some xs) (some ys)=if small (xs.length + ys.length) then .ok (.ref Ω.length) (Ω++[.lst (xs++ys)]) else .bad:=rfl
@[simp] theorem ct_n1{o:Option (List D)}:ct Ω none o=.bad:=rfl
@[simp] theorem catO_eq:catO x y Ω=ct Ω (lstO Ω x) (lstO Ω y):=by unfold catO;cases lstO Ω x<;>cases lstO Ω y<;>rfl
@[simp] theorem seq_tup{ds:List D}:seqO Ω (.tup ds)=some ds:=rfl
@[simp] theorem seq_ref{k:Nat}:seqO Ω (.ref k)=lstO Ω (.ref k):=rfl
@[simp] theorem seq_lst{ds:List D}:seqO Ω (.lst ds)=some ds:=rfl
noncomputable def ixs(Ω:Sto):Option (List D)->D->OutO D
 | some ds,.int i=>match L2.atI ds i with
  | some d=>.ok d Ω
  | none=>.bad
 | _,_=>.bad
theorem idxS_eq:idxS x y Ω=ixs Ω (seqO Ω x) y:=by unfold idxS;cases seqO Ω x<;>cases y<;>rfl
theorem ixs_at{ds:List D}{i:Int}(h:L2.atI ds i=some d):ixs Ω (some ds) (.int i)=.ok d Ω:=by simp only[ixs,h]
theorem idxO_ref{k:Nat}{ds:List D}{i:Int}(h:Ω[k]?=some (.lst ds))(hi:L2.atI ds i=some d):idxO (.ref k) (.int i) Ω=.ok d Ω:=by
 unfold idxO;rw[alt2_eq,idxS_eq,seq_ref,lst_ref h,ixs_at hi];rfl
theorem idxO_tup{ds:List D}{i:Int}(hi:L2.atI ds i=some d):idxO (.tup ds) (.int i) Ω=.ok d Ω:=by
 unfold idxO;rw[alt2_eq,idxS_eq,seq_tup,ixs_at hi];rfl
@[simp] theorem lstN_eq{xs:List D}:lstN xs Ω=if small xs.length then .ok (.ref Ω.length) (Ω++[.lst xs]) else .bad:=rfl
@[simp] theorem tupN_eq{xs:List D}:tupN xs Ω=if small xs.length then .ok (.tup xs) Ω else .bad:=rfl
noncomputable def fl(Ω:Sto)(Cs:List Str)(f:Str):Option (Nat×Str×List (Str×D))->OutO D
 | some (_,C,fs)=>if Cs.contains C then (match fs.lookup f with
  | some d=>.ok d Ω
  | none=>.bad) else .bad
 | none=>.bad
noncomputable def sq(r:ResO)(b:SM):ResO:=match r with
 | .nx ρ' Ω'=>b ρ' Ω'
 | r=>r
@[simp] theorem sq_nx:sq (.nx ρ Ω) b=b ρ Ω:=rfl
@[simp] theorem sq_rt:sq (.rt d Ω) b=.rt d Ω:=rfl
@[simp] theorem sq_bk:sq (.bk ρ Ω) b=.bk ρ Ω:=rfl
@[simp] theorem sq_ct:sq (.ct ρ Ω) b=.ct ρ Ω:=rfl
@[simp] theorem sq_exc:sq (.exc d Ω) b=.exc d Ω:=rfl
@[simp] theorem sq_bad:sq .bad b=.bad:=rfl
@[simp] theorem sSeq_eq:sSeq a b ρ Ω=sq (a ρ Ω) b:=by unfold sSeq;cases a ρ Ω<;>rfl
@[simp] theorem sSkip_eq:sSkip ρ Ω=.nx ρ Ω:=rfl
@[simp] theorem sAsg_eq{i:Nat}:sAsg i ma ρ Ω=liftO (ma ρ Ω) fun d Ω1=>.nx (ρ.set i (some d)) Ω1:=rfl
@[simp] theorem sExp_eq:sExp ma ρ Ω=liftO (ma ρ Ω) fun _ Ω1=>.nx ρ Ω1:=rfl
@[simp] theorem sRet_eq:sRet ma ρ Ω=liftO (ma ρ Ω) fun d Ω1=>.rt d Ω1:=rfl
@[simp] theorem sIf_eq:sIf ma a b ρ Ω=liftO (tstO (ma ρ Ω)) fun t Ω1=>if t=true then a ρ Ω1 else b ρ Ω1:=rfl
@[simp] theorem sUnp_eq{is:List Nat}:sUnp is ma ρ Ω=liftO (ma ρ Ω) fun d Ω1=>match putOT is d ρ with | some ρ'=>.nx ρ' Ω1 | none=>.bad:=rfl
@[simp] theorem putOT_tup{is:List Nat}{ds:List D}:putOT is (.tup ds) ρ=if ds.length=is.length then some (putAllO is ds ρ) else none:=rfl
@[simp] theorem putAllO_cons{i:Nat}{is:List Nat}{ds:List D}:putAllO (i::is) (d::ds) ρ=putAllO is ds (ρ.set i (some d)):=rfl
@[simp] theorem putAllO_nil{ds:List D}:putAllO [] ds ρ=ρ:=by cases ds<;>rfl
@[simp] theorem finO_rt:finO (.rt d Ω)=.ok d Ω:=rfl
@[simp] theorem finO_nx:finO (.nx ρ Ω)=.ok .non Ω:=rfl
theorem fnO_eq{n k:Nat}{c:SM}{ds:List D}(h:ds.length=k):fnO n k c ds Ω=finO (c (entryO n ds) Ω):=by unfold fnO;rw[if_pos h]
@[simp] theorem mSrc_eq:mSrc ma ρ Ω=(ma ρ Ω).bind fun x Ω1=>srcOf Ω1 x:=rfl
theorem srcOf_seq{ds:List D}(h:seqO Ω x=some ds):srcOf Ω x=.ok (.seq x) Ω:=by unfold srcOf;rw[h]
@[simp] theorem mRng1_eq:mRng1 as ρ Ω=(as ρ Ω).bind rng1O:=rfl
@[simp] theorem rng1_eq{j:Int}:rng1O [.int j] Ω=if in62 j then .ok (.ints 0 j.toNat) Ω else .bad:=rfl
@[simp] theorem src_seq:srcO (.seq x) Ω=seqO Ω x:=rfl
@[simp] theorem src_ints{lo:Int}{n:Nat}:srcO (.ints lo n) Ω=some (intsFrom lo n):=rfl
@[simp] theorem sFor_eq{put:D->OEnv->Option OEnv}{mi:IM}:sFor put mi b ρ Ω=liftO (mi ρ Ω) fun s Ω1=>loopO put s b fuel 0 ρ Ω1:=rfl
noncomputable def OutO'(r:ResO)(I:OEnv->Sto->Prop)(R:ResO->Prop):Prop:=match r with
 | .nx ρ Ω=>I ρ Ω
 | .ct ρ Ω=>I ρ Ω
 | .bk ρ Ω=>R (.nx ρ Ω)
 | r=>R r
theorem loopO_ix{put:D->OEnv->Option OEnv}{src:Src}{b:SM}{ds:List D}(I:Nat->OEnv->Sto->Prop){R:ResO->Prop}(hsrc:∀ i ρ Ω,I i ρ Ω->srcO src Ω=some ds)
  (h:∀ (i:Nat) (d:D) ρ Ω,ds[i]?=some d->I i ρ Ω->∃ ρ1,put d ρ=some ρ1/\OutO' (b ρ1 Ω) (I (i + 1)) R) (hR:∀ ρ Ω,I ds.length ρ Ω->R (.nx ρ Ω)) :
  ∀ (f i:Nat) ρ Ω,ds.length - i < f->i<=ds.length->I i ρ Ω->R (loopO put src b f i ρ Ω):=by
 intro f
 induction f with
 | zero=>intro i ρ Ω hf;omega
 | succ f ih=>
  intro i ρ Ω hf hi h0
  simp only[loopO,hsrc i ρ Ω h0]
  by_cases hlt:i < ds.length
  ·have hd:ds[i]?=some ds[i]:=List.getElem?_eq_getElem hlt
   rw[hd]
   dsimp only
   obtain⟨ρ1,e1,e2⟩:=h i ds[i] ρ Ω hd h0
   rw[e1]
   dsimp only
   cases q:b ρ1 Ω with
   | nx ρ' Ω'=>rw[q]at e2;exact ih (i + 1) ρ' Ω' (by omega) hlt e2
   | ct ρ' Ω'=>rw[q]at e2;exact ih (i + 1) ρ' Ω' (by omega) hlt e2
   | bk ρ' Ω'=>rw[q]at e2;exact e2
   | rt d Ω'=>rw[q]at e2;exact e2
   | exc x Ω'=>rw[q]at e2;exact e2
   | bad=>rw[q]at e2;exact e2
  ·have hd:ds[i]?=none:=List.getElem?_eq_none (by omega)
   rw[hd]
   have:i=ds.length:=by omega
   subst this
   exact hR ρ Ω h0
theorem go_pure{nc:Bool}{mc me:EM}{τ:OEnv}{src:Src}{ds:List D}{p:D->Bool}{g:D->D}(hs:srcO src Ω=some ds)(hc:∀ d∈ds,cndO nc mc ([some d]++τ) Ω=.ok (p d) Ω)(he:∀ d∈ds,p d=true->me ([some d]++τ) Ω=.ok (g d) Ω) :
  ∀ (f i:Nat) (acc:List D),ds.length - i < f->i<=ds.length->acc.length + ds.length<=100000 + i->goO nc mc me 0 τ src f i acc Ω=.ok (acc++((ds.drop i).filter p).map g) Ω:=by
 intro f
 induction f with
 | zero=>intro i acc hf;omega
 | succ f ih=>
  intro i acc hf hi ha
  simp only[goO,hs]
  by_cases hlt:i < ds.length
  ·have hd:ds[i]?=some ds[i]:=List.getElem?_eq_getElem hlt
   have hm:ds[i]∈ds:=List.getElem_mem hlt
   rw[hd]
   have ht:tarO 0 ds[i]=some [some ds[i]]:=rfl
   simp only[ht]
   rw[if_pos (small_of (n:=acc.length + 1) (by omega)),hc _ hm,List.drop_eq_getElem_cons hlt,List.filter_cons]
   cases hp:p ds[i] with
   | true=>
    dsimp only
    rw[he _ hm hp]
    dsimp only
    rw[ih (i + 1) _ (by omega) hlt (by rw[List.length_append];simp;omega)]
    simp
   | false=>
    dsimp only
    rw[ih (i + 1) _ (by omega) hlt (by omega)]
    simp
  ·have hd:ds[i]?=none:=List.getElem?_eq_none (by omega)
   rw[hd,List.drop_of_length_le (by omega)]
   simp
theorem cpr_pure{me mc:EM}{nc:Bool}{mi:IM}{cap:List Nat}{src:Src}{ds:List D}{p:D->Bool}{g:D->D}(hi:mi ρ Ω=.ok src Ω')(hs:srcO src Ω'=some ds)(hc:∀ d∈ds,cndO nc mc ([some d]++capO cap ρ) Ω'=.ok (p d) Ω')(he:∀ d∈ds,p d=true->me ([some d]++capO cap ρ) Ω'=.ok (g d) Ω')(hl:ds.length<=90000) :
  mCpr me nc mc mi 0 cap ρ Ω=.ok (.ref Ω'.length) (Ω'++[.lst ((ds.filter p).map g)]):=by
 unfold mCpr
 rw[hi]
 dsimp only
 rw[go_pure hs hc he fuel 0 [] (by unfold fuel;omega) (Nat.zero_le _) (by simp;omega)]
 rfl
theorem get_app{k:Nat}{c:Cell}{l:Sto}(h:Ω[k]?=some c):(Ω++l)[k]?=some c:=by rw[List.getElem?_append_left (List.getElem?_eq_some_iff.mp h).1];exact h
theorem get_new{c:Cell}{l:Sto}:(Ω++c::l)[Ω.length]?=some c:=by rw[List.getElem?_append_right (Nat.le_refl _)];simp
theorem get_set_ne{j k:Nat}{c e:Cell}(h:Ω[k]?=some c)(hn:k≠j):(Ω.set j e)[k]?=some c:=by rw[List.getElem?_set_ne (Ne.symm hn)];exact h
theorem get_set_eq{k:Nat}{c e:Cell}(h:Ω[k]?=some c):(Ω.set k e)[k]?=some e:=List.getElem?_set_self (List.getElem?_eq_some_iff.mp h).1
theorem get_lt{k:Nat}{c:Cell}(h:Ω[k]?=some c):k < Ω.length:=(List.getElem?_eq_some_iff.mp h).1
structure Keep(fp:List Nat)(Ω Ω':Sto):Prop where
 len:Ω.length<=Ω'.length
 get:∀ k c,Ω[k]?=some c->k∉fp->Ω'[k]?=some c
theorem Keep.refl{fp:List Nat}:Keep fp Ω Ω:=⟨Nat.le_refl _,fun _ _ h _=>h⟩
theorem Keep.trans{fp:List Nat}{Ω1 Ω2 Ω3:Sto}(h:Keep fp Ω1 Ω2)(h':Keep fp Ω2 Ω3):Keep fp Ω1 Ω3:=⟨Nat.le_trans h.len h'.len,fun k c q n=>h'.get k c (h.get k c q n) n⟩
theorem Keep.app{fp:List Nat}{l:Sto}:Keep fp Ω (Ω++l):=⟨by simp,fun k c h _=>get_app h⟩
theorem Keep.set{fp:List Nat}{j:Nat}{c:Cell}(h:j∈fp):Keep fp Ω (Ω.set j c):=⟨by simp,fun k e q n=>get_set_ne q fun z=>n (z▸h)⟩
theorem Keep.sub{fp fq:List Nat}(h:Keep fp Ω Ω')(hs:∀ k∈fp,k∈fq):Keep fq Ω Ω':=⟨h.len,fun k c q n=>h.get k c q fun z=>n (hs k z)⟩
end
end Mir
namespace Mir
open PySem L2
section
variable{Ω Ω':Sto}{ρ:OEnv}{d x y:D}{k:Nat}{ws:List Str}{w:Str}{L:List (List Str)}{rs:List Nat}
theorem get_dT{y:D}{ks:List Key}{kvs:List (List Key×D)}(h:Ω[k]?=some (.dT kvs))(hy:keysD y=some ks):getO Ω (.ref k) y=some (valG kvs ks):=by simp only[getO,h,hy,Option.map_some]
theorem tuple_ref{ds:List D}(h:Ω[k]?=some (.lst ds)):bltO .tuple [.ref k] Ω=.ok (.tup ds) Ω:=by
 show tupleN [.ref k] Ω=_
 simp only[tupleN,lst_ref h]
theorem len_ref{ds:List D}(h:Ω[k]?=some (.lst ds)):bltO .len [.ref k] Ω=.ok (.int ds.length) Ω:=by
 show orO (lenS [.ref k] Ω) _=_
 simp only[lenS,seq_ref,lst_ref h]
 rfl
theorem append_ref{ds:List D}{d:D}(h:Ω[k]?=some (.lst ds))(hs:ds.length<=1000):appendO (.ref k) [d] Ω=.ok .non (Ω.set k (.lst (ds++[d]))):=by
 simp only[appendO,own_ref h]
 rw[if_pos (small_of (by omega))]
theorem isL_ref{ds:List D}(h:Ω[k]?=some (.lst ds)):isL Ω (.ref k)=true:=by simp only[isL,lst_ref h];rfl
theorem list_ref{ds:List D}(h:Ω[k]?=some (.lst ds))(hs:ds.length<=1000):bltO .list [.ref k] Ω=.ok (.ref Ω.length) (Ω++[.lst ds]):=by
 show listN [.ref k] Ω=_
 simp only[listN,seq_ref,lst_ref h]
 rfl
theorem nin_ref(h:Ω[k]?=some (.lst (ws.map .str))):cmpO .NotIn (.str w) (.ref k) Ω=.ok (.bl (!decide (w∈ws))) Ω:=by
 simp[rei_strs (n:=7) h]
theorem fidx{α β:Type}[BEq α][LawfulBEq α]{f:α->β}{p:β->Bool}{a:α}(hp:∀ b,p (f b)=(b == a)):∀ (xs:List α),a∈xs->(xs.map f).findIdx? p=some (xs.idxOf a)
 | [],h=>by simp at h
 | b::xs,h=>by
  rw[List.map_cons,List.findIdx?_cons,hp,List.idxOf_cons]
  cases e:b == a with
  | true=>rfl
  | false=>
   have hm:a∈xs:=by
    rcases List.mem_cons.mp h with z | z
    ·rw[z,beq_self_eq_true]at e;cases e
    ·exact z
   simp[fidx hp xs hm]
theorem index_strs(h:w∈ws):mthD .index (.lst (ws.map .str)) (.tup [.str w])=.ok (false,.int (ws.idxOf w:Nat)):=by
 have e:(ws.map D.str).findIdx? (fun y=>eqD y (.str w))=some (ws.idxOf w):=fidx (fun b=>rfl) ws h
 simp only[mthD,strs_ok 8 ws,e]
 rfl
theorem index_ref(h:Ω[k]?=some (.lst (ws.map .str)))(hw:w∈ws):indexO (.ref k) [.str w] Ω=.ok (.int (ws.idxOf w:Nat)) Ω:=by
 have:=index_strs hw
 simp only[indexO,via2_eq,rei_strs (n:=7) h,rei_str,v2_some,L1,this]
 rfl
theorem mth_at{isT:Sto->D->Bool}{f:D->List D->Sto->OutO D}{mo:EM}{as:AM}(ho:mo ρ Ω=.ok x Ω')(h:isT Ω' x=true):mMth isT f mo as ρ Ω=(as ρ Ω').bind fun xs Ω2=>f x xs Ω2:=by
 unfold mMth
 rw[ho]
 show(if isT Ω' x=true then _ else _)=_
 rw[if_pos h]
end
end Mir
namespace Mir
open PySem L2
noncomputable def DrawnAt(F:List D->Out Rs):Prop:=∀ (ns:List Int) (k m:Int),ns.length<=63->0<=k->k < 100000->0 < m->∃ r,0<=r/\r < m/\F [SC ns,.int k,.int m]=.ok (false,.int r)
noncomputable def DrwAt(δ:List Int->Int->Int->Int)(F:List D->Out Rs):Prop:=∀ (ns:List Int) (k m:Int),ns.length<=63->0<=k->k < 100000->0 < m->0<=δ ns k m/\δ ns k m < m/\F [SC ns,.int k,.int m]=.ok (false,.int (δ ns k m))
theorem drw_at{F:List D->Out Rs}(h:DrawnAt F):∃ δ,DrwAt δ F:=by
 have h':∀ (ns:List Int) (k m:Int),∃ r,ns.length<=63->0<=k->k < 100000->0 < m->0<=r/\r < m/\F [SC ns,.int k,.int m]=.ok (false,.int r):=fun ns k m=>by
  by_cases hh:ns.length<=63/\0<=k/\k < 100000/\0 < m
  ·obtain⟨r,h1⟩:=h ns k m hh.1 hh.2.1 hh.2.2.1 hh.2.2.2
   exact⟨r,fun _ _ _ _=>h1⟩
  ·exact⟨0,fun a b c d=>absurd ⟨a,b,c,d⟩ hh⟩
 exact⟨fun ns k m=>(h' ns k m).choose,fun ns k m=>(h' ns k m).choose_spec⟩
variable [CloTab]
section
variable{Ω Ω' Ω1 Ω2:Sto}{ρ:OEnv}{k q:Nat}{x y:D}
theorem Keep.new{fp:List Nat}(h:Keep [] Ω Ω1)(h':Keep fp Ω1 Ω2)(hf:∀ j∈fp,Ω.length<=j):Keep [] Ω Ω2:=⟨Nat.le_trans h.len h'.len,fun k c e _=>h'.get k c (h.get k c e (by simp)) fun z=>by have:=hf k z;have:=get_lt e;omega⟩
theorem Keep0.up{fp:List Nat}(h:Keep [] Ω Ω'):Keep fp Ω Ω':=h.sub (by simp)
@[simp] theorem idxO_str{z:Str}:idxO (.str z) y Ω=v2 Ω idxD (some (.str z)) (rei Ω 8 y):=by
 unfold idxO
 rw[alt2_eq,alt2_eq,idxS_eq,via2_eq]
 simp[seqO,lstO,ixs,idxK,getO]
@[simp] theorem slcO_str{z:Str}{l h:Option Int}:slcO (.str z) l h Ω=outO Ω (slcD (.str z) l h):=rfl
@[simp] theorem mSlc_all{ma ml mh:EM}{nl nh:Bool}:mSlc ma nl ml nh mh ρ Ω=(ma ρ Ω).bind fun x Ω1=>(mPart nl ml ρ Ω1).bind fun l Ω2=>(mPart nh mh ρ Ω2).bind fun h Ω3=>slcO x l h Ω3:=rfl
@[simp] theorem mPart_t{m:EM}:mPart true m ρ Ω=.ok none Ω:=rfl
noncomputable def pr1(Ω:Sto):D->OutO (Option Int)
 | .int i=>.ok (some i) Ω
 | _=>.bad
@[simp] theorem mPart_f{m:EM}:mPart false m ρ Ω=(m ρ Ω).bind fun d Ω1=>pr1 Ω1 d:=by
 simp only[mPart,Bool.false_eq_true,if_false]
 congr 1
@[simp] theorem pr1_int{i:Int}:pr1 Ω (.int i)=.ok (some i) Ω:=rfl
theorem reverse_ref{ds:List D}(h:Ω[k]?=some (.lst ds)):reverseO (.ref k) [] Ω=.ok .non (Ω.set k (.lst ds.reverse)):=by
 simp only[reverseO,own_ref h]
end
noncomputable def nB:SM:=(sSeq (sAsg 11 (m2 idxO (mVar 3) (m2 (binO .Mod) (m2 (binO .Add) (m2 (binO .Add) (mVar 4) (m2 (binO .Mult) (mVar 8) (mVar 5))) (mVar 10)) (mCst (.int 26)))))
 (sSeq (sExp (mMth isL appendO (mVar 9) (mCons (m2 (binO .Add) (m2 (binO .Add) (mSlc (mVar 6) true (mCst .non) false (mVar 8)) (mVar 11)) (mSlc (mVar 6) false (m2 (binO .Add) (mVar 8) (mCst (.int 1))) false (mVar 7))) mNil)))
 sSkip))
noncomputable def nC:EM:=mCpr (m2 idxO (mVar 2) (m2 (binO .Mod) (m2 (binO .Add) (mVar 1) (m2 (binO .Mult) (mVar 0) (mVar 3))) (mCst (.int 26)))) true (mCst .non) (mRng1 (mCons (mCst (.int 8)) mNil)) 0 [4,3,5]
noncomputable def nD:EM:=mCpr (mSlc (mVar 1) true (mCst .non) false (m2 (binO .Add) (mVar 0) (mCst (.int 1)))) true (mCst .non) (mRng1 (mCons (mVar 2) mNil)) 0 [6]
noncomputable def cNamesO(F:List D->Out Rs):SM:=
 (sSeq (sAsg 3 (mCst (.str "abcdefghijklmnopqrstuvwxyz")))
 (sSeq (sAsg 4 (mN (viaN F) (mCons (mVar 0) (mCons (mVar 1) (mCons (mCst (.int 26)) mNil)))))
 (sSeq (sAsg 5 (m2 (binO .Add) (mCst (.int 1)) (mN (viaN F) (mCons (mVar 0) (mCons (m2 (binO .Add) (mVar 1) (mCst (.int 1))) (mCons (mCst (.int 25)) mNil))))))
 (sSeq (sAsg 6 (mMth isSt joinO (mCst (.str "")) (mCons nC mNil)))
 (sSeq (sAsg 7 (m2 (binO .Add) (mCst (.int 1)) (mN (viaN F) (mCons (mVar 0) (mCons (m2 (binO .Add) (mVar 1) (mCst (.int 2))) (mCons (mCst (.int 8)) mNil))))))
 (sSeq (sAsg 8 (mN (viaN F) (mCons (mVar 0) (mCons (m2 (binO .Add) (mVar 1) (mCst (.int 3))) (mCons (mVar 7) mNil)))))
 (sSeq (sAsg 9 (mN lstN mNil))
 (sSeq (sFor (putO1 10) (mRng1 (mCons (mVar 2) mNil)) nB)
 (sSeq (sIf (mAnd (m2 (cmpO .Lt) (mVar 2) (mCst (.int 9))) (m2 (cmpO .Eq) (mN (viaN F) (mCons (mVar 0) (mCons (m2 (binO .Add) (mVar 1) (mCst (.int 4))) (mCons (mCst (.int 4)) mNil)))) (mCst (.int 1))))
 (sSeq (sAsg 9 nD)
 sSkip)
 sSkip)
 (sSeq (sIf (m2 (cmpO .Eq) (mN (viaN F) (mCons (mVar 0) (mCons (m2 (binO .Add) (mVar 1) (mCst (.int 5))) (mCons (mCst (.int 2)) mNil)))) (mCst (.int 1)))
 (sSeq (sExp (mMth isL reverseO (mVar 9) mNil))
 sSkip)
 sSkip)
 (sSeq (sRet (mVar 9))
 sSkip)))))))))))
section
variable{Ω:Sto}{F:List D->Out Rs}{δ:List Int->Int->Int->Int}{ns:List Int}
noncomputable def Ltr(x:Str):Prop:=x.length<=17/\∃ c∈x.cps.toList,97<=c
theorem Ltr.ne{x:Str}(h:Ltr x):x≠"-":=fun e=>by
 obtain⟨_,c,hc,h9⟩:=h
 subst e
 have:c∈[45]:=hc
 simp at this
 omega
theorem join8(c0 c1 c2 c3 c4 c5 c6 c7:Nat):∃ S:Str,S.length=8/\S.cps.toList.head?=some c0/\mthD .join (.str "") (.tup [.lst [.str (oneS c0),.str (oneS c1),.str (oneS c2),.str (oneS c3),.str (oneS c4),.str (oneS c5),.str (oneS c6),.str (oneS c7)]])=.ok (false,.str S):=
 ⟨⟨#[c0,c1,c2,c3,c4,c5,c6,c7]⟩,rfl,rfl,rfl⟩
theorem nC_ok{f st:Int}(hf0:0<=f)(hf:f < 26)(hs0:1<=st)(hs:st < 26){a0 a1 a2 a6 a7 a8 a9 a10 a11:Option D}:∃ S:Str,S.length=8/\(∃ c,S.cps.toList.head?=some c/\97<=c) /\
  mMth isSt joinO (mCst (.str "")) (mCons nC mNil) [a0,a1,a2,some (.str abc),some (.int f),some (.int st),a6,a7,a8,a9,a10,a11] Ω=.ok (.str S) (Ω++[.lst ((intsFrom 0 8).map fun d=>match d with | .int j=>.str (oneS (97 + ((f + j * st) % 26).toNat)) | _=>.non)]):=by
 have i1:in64 st=true:=in64_of (by omega) (by omega)
 have hin8:in62 8=true:=in62_of (by omega) (by omega)
 have h:=cpr_pure (Ω:=Ω) (Ω':=Ω) (ρ:=[a0,a1,a2,some (.str abc),some (.int f),some (.int st),a6,a7,a8,a9,a10,a11]) (me:=m2 idxO (mVar 2) (m2 (binO .Mod) (m2 (binO .Add) (mVar 1) (m2 (binO .Mult) (mVar 0) (mVar 3))) (mCst (.int 26)))) (nc:=true) (mc:=mCst .non) (mi:=mRng1 (mCons (mCst (.int 8)) mNil)) (cap:=[4,3,5]) (src:=.ints 0 8) (ds:=intsFrom 0 8) (p:=fun _=>true)
  (g:=fun d=>match d with | .int j=>.str (oneS (97 + ((f + j * st) % 26).toNat)) | _=>.non) (by simp[hin8]) rfl (fun d hd=>rfl) (fun d hd _=>by
   obtain⟨i,hi⟩:=List.mem_iff_getElem?.mp hd
   obtain⟨rfl,hlt⟩:=rng_get hi
   generalize hj:(0:Int) + (i:Int)=j
   have i2:in64 j=true:=in64_of (by omega) (by omega)
   have hab:=abc_idx (q:=(f + j * st) % 26) (by omega) (by omega)
   simp[capO,i1,i2,hab]) (by rw[rng_len];omega)
 rw[List.filter_eq_self.mpr (by simp)]at h
 obtain⟨S,hS,hS0,hj⟩:=join8 (97 + ((f + 0 * st) % 26).toNat) (97 + ((f + 1 * st) % 26).toNat) (97 + ((f + 2 * st) % 26).toNat) (97 + ((f + 3 * st) % 26).toNat) (97 + ((f + 4 * st) % 26).toNat) (97 + ((f + 5 * st) % 26).toNat) (97 + ((f + 6 * st) % 26).toNat) (97 + ((f + 7 * st) % 26).toNat)
 refine⟨S,hS,⟨_,hS0,Nat.le_add_right _ _⟩,?_⟩
 rw[mth_at (x:=.str "") (Ω':=Ω) rfl rfl]
 have hr:rei (Ω++[.lst ((intsFrom 0 8).map fun d=>match d with | .int j=>.str (oneS (97 + ((f + j * st) % 26).toNat)) | _=>.non)]) 8 (.ref Ω.length)=some (.lst [.str (oneS (97 + ((f + 0 * st) % 26).toNat)),.str (oneS (97 + ((f + 1 * st) % 26).toNat)),.str (oneS (97 + ((f + 2 * st) % 26).toNat)),.str (oneS (97 + ((f + 3 * st) % 26).toNat)),.str (oneS (97 + ((f + 4 * st) % 26).toNat)),.str (oneS (97 + ((f + 5 * st) % 26).toNat)),.str (oneS (97 + ((f + 6 * st) % 26).toNat)),.str (oneS (97 + ((f + 7 * st) % 26).toNat))]):=
  rei_ref get_new rfl
 unfold nC
 rw[mCons_eq,h]
 simp only[ob_ok,mNil_eq,joinO,via2_eq,rei_str,hr,v2_some,hj,out_str]
noncomputable abbrev EN(ns:List Int)(a:Int)(n:Nat)(f st:Int)(S:Str)(sz pl:Int)(q:Nat)(a10 a11:Option D):OEnv:=
 [some (SC ns),some (.int a),some (.int n),some (.str abc),some (.int f),some (.int st),some (.str S),some (.int sz),some (.int pl),some (.ref q),a10,a11]
noncomputable def nmS(S:Str)(f st sz pl:Int)(k:Nat):Str:=((⟨(cutL S.cps.toList none (some pl)).toArray⟩:Str)++oneS (97 + ((f + pl * st + (k:Int)) % 26).toNat))++(⟨(cutL S.cps.toList (some (pl + 1)) (some sz)).toArray⟩:Str)
theorem nmS_nd{S:Str}{f st sz pl:Int}{n:Nat}(hn:n<=20):((List.range n).map (nmS S f st sz pl)).Nodup:=by
 refine List.pairwise_map.mpr (List.Pairwise.imp_of_mem (fun {a b} ha hb hne he=>hne ?_) (List.nodup_range (n:=n)))
 have h1:=List.mem_range.mp ha
 have h2:=List.mem_range.mp hb
 have h3:=congrArg (fun z:Str=>z.cps.toList) he
 simp[nmS,Str.cps_append,oneS]at h3
 omega
theorem nB_loop{Ω1:Sto}{a f st sz pl:Int}{n q:Nat}{S:Str}(hS:S.length=8)(hf0:0<=f)(hf:f < 26)(hs0:1<=st)(hs:st < 26)(hz0:1<=sz)(hz:sz < 9)(hp0:0<=pl)(hp:pl < 9)(hn:n<=20)(hq:Ω1[q]?=some (.lst []))
  {R:ResO->Prop} (hR:∀ (xs:List Str) a10 a11 Ω',xs.length=n->(∀ x∈xs,Ltr x)->xs.Nodup->Ω'[q]?=some (.lst (xs.map .str))->Keep [q] Ω1 Ω'->R (.nx (EN ns a n f st S sz pl q a10 a11) Ω')) :
  R (loopO (putO1 10) (.ints 0 n) nB fuel 0 (EN ns a n f st S sz pl q none none) Ω1):=by
 have i1:in64 st=true:=in64_of (by omega) (by omega)
 have i2:in64 pl=true:=in64_of (by omega) (by omega)
 have hSs:small S.length=true:=small_of (by omega)
 have cutl:∀ l h:Option Int,(⟨(cutL S.cps.toList l h).toArray⟩:Str).length<=8:=fun l h=>by
  have:=cutL_len S.cps.toList l h
  have h2:S.cps.toList.length=8:=by simpa[Str.length] using hS
  show(cutL S.cps.toList l h).toArray.size<=8
  simp;omega
 refine loopO_ix (ds:=intsFrom 0 n) (fun i ρ Ω2=>∃ (xs:List Str) (a10 a11:Option D),ρ=EN ns a n f st S sz pl q a10 a11/\xs.length=i/\(∀ x∈xs,Ltr x)/\xs=(List.range i).map (nmS S f st sz pl)/\Ω2[q]?=some (.lst (xs.map .str))/\Keep [q] Ω1 Ω2) (fun _ _ _ _=>rfl) ?_ ?_ fuel 0 _ _ (by rw[rng_len];unfold fuel;omega) (Nat.zero_le _) ⟨[],none,none,rfl,rfl,by simp,rfl,hq,Keep.refl⟩
 ·rintro i d ρ Ω2 hd ⟨xs,a10,a11,rfl,hx,hxl,hxe,hk,K⟩
  obtain⟨rfl,hlt⟩:=rng_get hd
  refine⟨_,rfl,?_⟩
  rw[show(0:Int) + (i:Int)=(i:Int) by omega]
  have hab:=abc_idx (q:=(f + pl * st + (i:Int)) % 26) (by omega) (by omega)
  generalize hc:(97 + ((f + pl * st + (i:Int)) % 26).toNat)=c at hab
  have l1:=cutl none (some pl)
  have l2:=cutl (some (pl + 1)) (some sz)
  have one:(oneS c).length=1:=rfl
  have sm1:small ((⟨(cutL S.cps.toList none (some pl)).toArray⟩:Str).length + (oneS c).length)=true:=small_of (by omega)
  have sm2:small (((⟨(cutL S.cps.toList none (some pl)).toArray⟩:Str)++oneS c).length + (⟨(cutL S.cps.toList (some (pl + 1)) (some sz)).toArray⟩:Str).length)=true:=small_of (by rw[Str.length_append];omega)
  have hw:(((⟨(cutL S.cps.toList none (some pl)).toArray⟩:Str)++oneS c)++(⟨(cutL S.cps.toList (some (pl + 1)) (some sz)).toArray⟩:Str)).length<=17:=by rw[Str.length_append,Str.length_append];omega
  have hX:(m2 (binO .Add) (m2 (binO .Add) (mSlc (mVar 6) true (mCst .non) false (mVar 8)) (mVar 11)) (mSlc (mVar 6) false (m2 (binO .Add) (mVar 8) (mCst (.int 1))) false (mVar 7))) (EN ns a n f st S sz pl q (some (.int i)) (some (.str (oneS c)))) Ω2=.ok (.str (((⟨(cutL S.cps.toList none (some pl)).toArray⟩:Str)++oneS c)++(⟨(cutL S.cps.toList (some (pl + 1)) (some sz)).toArray⟩:Str))) Ω2:=by
   simp[EN,hSs,sm1,sm2,-Str.length_append]
  have hw:Ltr (((⟨(cutL S.cps.toList none (some pl)).toArray⟩:Str)++oneS c)++(⟨(cutL S.cps.toList (some (pl + 1)) (some sz)).toArray⟩:Str)):=⟨hw,c,by simp[Str.cps_append,oneS],by omega⟩
  generalize hwd:((⟨(cutL S.cps.toList none (some pl)).toArray⟩:Str)++oneS c)++(⟨(cutL S.cps.toList (some (pl + 1)) (some sz)).toArray⟩:Str)=wd at hX hw
  have hap:=append_ref (d:=.str wd) hk (by simp;omega)
  have hA:mMth isL appendO (mVar 9) (mCons (m2 (binO .Add) (m2 (binO .Add) (mSlc (mVar 6) true (mCst .non) false (mVar 8)) (mVar 11)) (mSlc (mVar 6) false (m2 (binO .Add) (mVar 8) (mCst (.int 1))) false (mVar 7))) mNil) (EN ns a n f st S sz pl q (some (.int i)) (some (.str (oneS c)))) Ω2=.ok .non (Ω2.set q (.lst (xs.map .str++[.str wd]))):=by
   rw[mth_at (x:=.ref q) (Ω':=Ω2) (by simp[EN]) (isL_ref hk),mCons_eq,hX]
   simp[hap]
  have e:nB (EN ns a n f st S sz pl q (some (.int i)) a11) Ω2=.nx (EN ns a n f st S sz pl q (some (.int i)) (some (.str (oneS c)))) (Ω2.set q (.lst (xs.map .str++[.str wd]))):=by
   have e1:(sAsg 11 (m2 idxO (mVar 3) (m2 (binO .Mod) (m2 (binO .Add) (m2 (binO .Add) (mVar 4) (m2 (binO .Mult) (mVar 8) (mVar 5))) (mVar 10)) (mCst (.int 26))))) (EN ns a n f st S sz pl q (some (.int i)) a11) Ω2=.nx (EN ns a n f st S sz pl q (some (.int i)) (some (.str (oneS c)))) Ω2:=by
    simp[EN,i1,i2,hab]
   unfold nB
   rw[sSeq_eq,e1,sq_nx,sSeq_eq,sExp_eq,hA]
   rfl
  show OutO' (nB (EN ns a n f st S sz pl q (some (.int i)) a11) Ω2) _ _
  rw[e]
  refine⟨xs++[wd],_,_,rfl,by simp[hx],fun x hx' => ?_,?_,?_,K.trans (Keep.set (by simp))⟩
  ·rcases List.mem_append.mp hx' with h | h
   ·exact hxl x h
   ·rw[List.mem_singleton.mp h];exact hw
  ·rw[List.range_succ,List.map_append,← hxe,← hwd,← hc];rfl
  ·rw[List.map_append];exact get_set_eq hk
 ·rintro ρ Ω2 ⟨xs,a10,a11,rfl,hx,hxl,hxe,hk,K⟩
  rw[rng_len]at hx
  rw[rng_len]at hxe
  exact hR xs a10 a11 Ω2 hx hxl (by rw[hxe];exact nmS_nd hn) hk K
theorem namesN_ok(hδ:DrwAt δ F)(hl:ns.length<=63){a:Int}(h0:0<=a)(h1:a < 10000){n:Nat}(hn:n<=20):∃ (xs:List Str) (Ω':Sto) (k:Nat),xs.length=n/\(∀ x∈xs,Ltr x)/\xs.Nodup/\fnO 12 3 (cNamesO F) [SC ns,.int a,.int n] Ω=.ok (.ref k) Ω'/\Ω'[k]?=some (.lst (xs.map .str))/\Keep [] Ω Ω'/\Ω.length<=k:=by
 rw[fnO_eq (by rfl)]
 have e0:entryO 12 [SC ns,.int a,.int n]=[some (SC ns),some (.int a),some (.int n),none,none,none,none,none,none,none,none,none]:=rfl
 rw[e0]
 obtain⟨f0,f1,hf⟩:=hδ ns a 26 hl h0 (by omega) (by omega)
 obtain⟨t0,t1,ht⟩:=hδ ns (a + 1) 25 hl (by omega) (by omega) (by omega)
 obtain⟨z0,z1,hz⟩:=hδ ns (a + 2) 8 hl (by omega) (by omega) (by omega)
 generalize δ ns a 26=f at *
 generalize δ ns (a + 1) 25=t at *
 generalize δ ns (a + 2) 8=z at *
 obtain⟨p0,p1,hp⟩:=hδ ns (a + 3) (1 + z) hl (by omega) (by omega) (by omega)
 obtain⟨g0,g1,hg⟩:=hδ ns (a + 4) 4 hl (by omega) (by omega) (by omega)
 obtain⟨v0,v1,hv⟩:=hδ ns (a + 5) 2 hl (by omega) (by omega) (by omega)
 generalize δ ns (a + 3) (1 + z)=pl at *
 generalize δ ns (a + 4) 4=g at *
 generalize δ ns (a + 5) 2=v at *
 obtain⟨S,hS,⟨c0,hc0,hc9⟩,hC⟩:=nC_ok (Ω:=Ω) f0 f1 (st:=1 + t) (by omega) (by omega) (a0:=some (SC ns)) (a1:=some (.int a)) (a2:=some (.int n)) (a6:=none) (a7:=none) (a8:=none) (a9:=none) (a10:=none) (a11:=none)
 have K1:Keep [] Ω (Ω++[.lst ((intsFrom 0 8).map fun d=>match d with | .int j=>.str (oneS (97 + ((f + j * (1 + t)) % 26).toNat)) | _=>.non)]):=Keep.app
 generalize (Ω++[Cell.lst ((intsFrom 0 8).map fun d=>match d with | .int j=>D.str (oneS (97 + ((f + j * (1 + t)) % 26).toNat)) | _=>D.non)])=Ω1 at hC K1
 have hq:(Ω1++[Cell.lst []])[Ω1.length]?=some (.lst []):=get_new
 have K2:Keep [] Ω1 (Ω1++[Cell.lst []]):=Keep.app
 have hin:in62 (n:Int)=true:=in62_of (by omega) (by omega)
 have hq1:Ω.length<=Ω1.length:=K1.len
 unfold cNamesO
 have r1:(sAsg 3 (mCst (.str "abcdefghijklmnopqrstuvwxyz"))) [some (SC ns),some (.int a),some (.int n),none,none,none,none,none,none,none,none,none] Ω=.nx [some (SC ns),some (.int a),some (.int n),some (.str abc),none,none,none,none,none,none,none,none] Ω:=rfl
 have r2:(sAsg 4 (mN (viaN F) (mCons (mVar 0) (mCons (mVar 1) (mCons (mCst (.int 26)) mNil))))) [some (SC ns),some (.int a),some (.int n),some (.str abc),none,none,none,none,none,none,none,none] Ω=.nx [some (SC ns),some (.int a),some (.int n),some (.str abc),some (.int f),none,none,none,none,none,none,none] Ω:=by simp[hf]
 have r3:(sAsg 5 (m2 (binO .Add) (mCst (.int 1)) (mN (viaN F) (mCons (mVar 0) (mCons (m2 (binO .Add) (mVar 1) (mCst (.int 1))) (mCons (mCst (.int 25)) mNil)))))) [some (SC ns),some (.int a),some (.int n),some (.str abc),some (.int f),none,none,none,none,none,none,none] Ω=.nx [some (SC ns),some (.int a),some (.int n),some (.str abc),some (.int f),some (.int (1 + t)),none,none,none,none,none,none] Ω:=by simp[ht]
 have r4:(sAsg 6 (mMth isSt joinO (mCst (.str "")) (mCons nC mNil))) [some (SC ns),some (.int a),some (.int n),some (.str abc),some (.int f),some (.int (1 + t)),none,none,none,none,none,none] Ω=.nx [some (SC ns),some (.int a),some (.int n),some (.str abc),some (.int f),some (.int (1 + t)),some (.str S),none,none,none,none,none] Ω1:=by
  rw[sAsg_eq,hC];rfl
 have r5:(sAsg 7 (m2 (binO .Add) (mCst (.int 1)) (mN (viaN F) (mCons (mVar 0) (mCons (m2 (binO .Add) (mVar 1) (mCst (.int 2))) (mCons (mCst (.int 8)) mNil)))))) [some (SC ns),some (.int a),some (.int n),some (.str abc),some (.int f),some (.int (1 + t)),some (.str S),none,none,none,none,none] Ω1=.nx [some (SC ns),some (.int a),some (.int n),some (.str abc),some (.int f),some (.int (1 + t)),some (.str S),some (.int (1 + z)),none,none,none,none] Ω1:=by simp[hz]
 have r6:(sAsg 8 (mN (viaN F) (mCons (mVar 0) (mCons (m2 (binO .Add) (mVar 1) (mCst (.int 3))) (mCons (mVar 7) mNil))))) [some (SC ns),some (.int a),some (.int n),some (.str abc),some (.int f),some (.int (1 + t)),some (.str S),some (.int (1 + z)),none,none,none,none] Ω1=.nx [some (SC ns),some (.int a),some (.int n),some (.str abc),some (.int f),some (.int (1 + t)),some (.str S),some (.int (1 + z)),some (.int pl),none,none,none] Ω1:=by simp[hp]
 have r7:(sAsg 9 (mN lstN mNil)) [some (SC ns),some (.int a),some (.int n),some (.str abc),some (.int f),some (.int (1 + t)),some (.str S),some (.int (1 + z)),some (.int pl),none,none,none] Ω1=.nx (EN ns a n f (1 + t) S (1 + z) pl Ω1.length none none) (Ω1++[Cell.lst []]):=by simp[EN,small_of]
 have hsr:mRng1 (mCons (mVar 2) mNil) (EN ns a n f (1 + t) S (1 + z) pl Ω1.length none none) (Ω1++[Cell.lst []])=.ok (.ints 0 n) (Ω1++[Cell.lst []]):=by simp[EN,hin]
 rw[sSeq_eq,r1,sq_nx,sSeq_eq,r2,sq_nx,sSeq_eq,r3,sq_nx,sSeq_eq,r4,sq_nx,sSeq_eq,r5,sq_nx,sSeq_eq,r6,sq_nx,sSeq_eq,r7,sq_nx,sSeq_eq,sFor_eq,hsr,lo_ok]
 generalize hqq:Ω1.length=q at *
 refine nB_loop (R:=fun r=>∃ (xs:List Str) (Ω':Sto) (k:Nat),xs.length=n/\(∀ x∈xs,Ltr x)/\xs.Nodup/\finO (sq r _)=.ok (.ref k) Ω'/\Ω'[k]?=some (.lst (xs.map .str))/\Keep [] Ω Ω'/\Ω.length<=k) hS f0 f1 (by omega) (by omega) (by omega) (by omega) p0 (by omega) (by omega) hq ?_
 intro xs a10 a11 Ω3 hx hxl hxn hk K3
 have K4:Keep [] Ω Ω3:=(K1.trans K2).new K3 (by simp;omega)
 rw[sq_nx]
 have fin:∀ (ys:List Str) (Ω4:Sto) (q':Nat),ys.length=n->(∀ x∈ys,Ltr x)->ys.Nodup->Ω4[q']?=some (.lst (ys.map .str))->Keep [] Ω Ω4->Ω.length<=q' ->
   ∃ (xs:List Str) (Ω':Sto) (k:Nat),xs.length=n/\(∀ x∈xs,Ltr x)/\xs.Nodup/\finO ((sSeq (sIf (m2 (cmpO .Eq) (mN (viaN F) (mCons (mVar 0) (mCons (m2 (binO .Add) (mVar 1) (mCst (.int 5))) (mCons (mCst (.int 2)) mNil)))) (mCst (.int 1))) (sSeq (sExp (mMth isL reverseO (mVar 9) mNil)) sSkip) sSkip) (sSeq (sRet (mVar 9)) sSkip)) (EN ns a n f (1 + t) S (1 + z) pl q' a10 a11) Ω4)=.ok (.ref k) Ω'/\Ω'[k]?=some (.lst (xs.map .str))/\Keep [] Ω Ω'/\Ω.length<=k:=by
  intro ys Ω4 q' hy hyl hyn hk4 K5 hq'
  by_cases hv1:v=1
  ·subst hv1
   have hrv:=reverse_ref hk4
   have hm:mMth isL reverseO (mVar 9) mNil (EN ns a n f (1 + t) S (1 + z) pl q' a10 a11) Ω4=.ok .non (Ω4.set q' (.lst (ys.map .str).reverse)):=by
    rw[mth_at (x:=.ref q') (Ω':=Ω4) (by simp[EN]) (isL_ref hk4),mNil_eq,ob_ok,hrv]
   refine⟨ys.reverse,Ω4.set q' (.lst (ys.map .str).reverse),q',by simp[hy],fun x h=>hyl x (List.mem_reverse.mp h),List.pairwise_reverse.mpr (List.Pairwise.imp (fun h=>Ne.symm h) hyn),?_,by rw[List.map_reverse];exact get_set_eq hk4,K5.new (Keep.set (fp:=[q']) (by simp)) (by simpa using hq'),hq'⟩
   have hm':mMth isL reverseO (mVar 9) mNil [some (SC ns),some (.int a),some (.int n),some (.str abc),some (.int f),some (.int (1 + t)),some (.str S),some (.int (1 + z)),some (.int pl),some (.ref q'),a10,a11] Ω4=.ok .non (Ω4.set q' (.lst (ys.map .str).reverse)):=hm
   simp[EN,hv,hm',-List.map_reverse]
  ·refine⟨ys,Ω4,q',hy,hyl,hyn,?_,hk4,K5,hq'⟩
   simp[EN,hv,hv1]
 by_cases hc:n < 9/\g=1
 ·obtain⟨hn9,rfl⟩:=hc
  have hn9':(n:Int) < 9:=by omega
  have hSs:small S.length=true:=small_of (by omega)
  have hD:=cpr_pure (Ω:=Ω3) (Ω':=Ω3) (ρ:=EN ns a n f (1 + t) S (1 + z) pl q a10 a11) (me:=mSlc (mVar 1) true (mCst .non) false (m2 (binO .Add) (mVar 0) (mCst (.int 1)))) (nc:=true) (mc:=mCst .non) (mi:=mRng1 (mCons (mVar 2) mNil)) (cap:=[6]) (src:=.ints 0 n) (ds:=intsFrom 0 n) (p:=fun _=>true)
   (g:=fun d=>match d with | .int j=>.str ⟨(cutL S.cps.toList none (some (j + 1))).toArray⟩ | _=>.non) (by simp[EN,hin]) rfl (fun d hd=>rfl) (fun d hd _=>by
    obtain⟨i,hi⟩:=List.mem_iff_getElem?.mp hd
    obtain⟨rfl,hlt⟩:=rng_get hi
    generalize (0:Int) + (i:Int)=j
    simp[capO,EN,hSs]) (by rw[rng_len];omega)
  rw[List.filter_eq_self.mpr (by simp)]at hD
  obtain⟨ys,hys,hyl,hyn,hye⟩:∃ ys:List Str,ys.length=n/\(∀ x∈ys,Ltr x)/\ys.Nodup/\((intsFrom 0 n).map fun d=>match d with | .int j=>D.str ⟨(cutL S.cps.toList none (some (j + 1))).toArray⟩ | _=>.non)=ys.map .str:=by
   refine⟨(List.range n).map fun (i:Nat)=>⟨(cutL S.cps.toList none (some ((0 + (i:Int)) + 1))).toArray⟩,by simp,fun x hx => ?_,?_,?_⟩
   ·obtain⟨i,_,rfl⟩:=List.mem_map.mp hx
    have:=cutL_len S.cps.toList none (some (0 + (i:Int) + 1))
    have h2:S.cps.toList.length=8:=by simpa[Str.length] using hS
    refine⟨?_,c0,?_,hc9⟩
    ·show(cutL S.cps.toList none (some (0 + (i:Int) + 1))).toArray.size<=17
     simp at this h2 ⊢;omega
    ·show c0∈(cutL S.cps.toList none (some (0 + (i:Int) + 1))).toArray.toList
     rw[show(0 + (i:Int) + 1)=((i + 1:Nat):Int) by omega,cut_hi]
     cases hq:S.cps.toList with
     | nil=>rw[hq]at hc0;cases hc0
     | cons z zs=>rw[hq]at hc0;cases hc0;simp
   ·refine List.pairwise_map.mpr (List.Pairwise.imp_of_mem (fun {a b} ha hb hne he=>hne ?_) (List.nodup_range (n:=n)))
    have h1:=List.mem_range.mp ha
    have h2:=List.mem_range.mp hb
    have h8:S.cps.toList.length=8:=by simpa[Str.length] using hS
    have h3:=congrArg (fun z:Str=>z.cps.toList.length) he
    rw[show(0 + (a:Int) + 1)=((a + 1:Nat):Int) by omega,show(0 + (b:Int) + 1)=((b + 1:Nat):Int) by omega,cut_hi,cut_hi]at h3
    simp[List.length_take,h8]at h3
    omega
   ·rw[ints_map,List.map_map,List.map_map];rfl
  rw[hye]at hD
  have t1:(sIf (mAnd (m2 (cmpO .Lt) (mVar 2) (mCst (.int 9))) (m2 (cmpO .Eq) (mN (viaN F) (mCons (mVar 0) (mCons (m2 (binO .Add) (mVar 1) (mCst (.int 4))) (mCons (mCst (.int 4)) mNil)))) (mCst (.int 1)))) (sSeq (sAsg 9 nD) sSkip) sSkip) (EN ns a n f (1 + t) S (1 + z) pl q a10 a11) Ω3=.nx (EN ns a n f (1 + t) S (1 + z) pl Ω3.length a10 a11) (Ω3++[Cell.lst (ys.map .str)]):=by
   have hD':nD [some (SC ns),some (.int a),some (.int n),some (.str abc),some (.int f),some (.int (1 + t)),some (.str S),some (.int (1 + z)),some (.int pl),some (.ref q),a10,a11] Ω3=.ok (.ref Ω3.length) (Ω3++[Cell.lst (ys.map .str)]):=hD
   simp[EN,hn9',hg,hD']
  rw[sSeq_eq,t1,sq_nx]
  exact fin ys _ _ hys hyl hyn get_new (K4.trans Keep.app) K4.len
 ·have t1:(sIf (mAnd (m2 (cmpO .Lt) (mVar 2) (mCst (.int 9))) (m2 (cmpO .Eq) (mN (viaN F) (mCons (mVar 0) (mCons (m2 (binO .Add) (mVar 1) (mCst (.int 4))) (mCons (mCst (.int 4)) mNil)))) (mCst (.int 1)))) (sSeq (sAsg 9 nD) sSkip) sSkip) (EN ns a n f (1 + t) S (1 + z) pl q a10 a11) Ω3=.nx (EN ns a n f (1 + t) S (1 + z) pl q a10 a11) Ω3:=by
   by_cases h9:(n:Int) < 9
   ·have hg1:¬ g=1:=fun e=>hc ⟨by omega,e⟩
    simp[EN,h9,hg,hg1]
   ·simp[EN,h9]
  rw[sSeq_eq,t1,sq_nx]
  exact fin xs Ω3 q hx hxl hxn hk K4 hq1
theorem namesO_ok(hδ:DrwAt δ F)(hl:ns.length<=63){a:Int}(h0:0<=a)(h1:a < 10000){n:Nat}(hn:n<=20):∃ (xs:List Str) (Ω':Sto) (k:Nat),xs.length=n/\(∀ x∈xs,Ltr x)/\fnO 12 3 (cNamesO F) [SC ns,.int a,.int n] Ω=.ok (.ref k) Ω'/\Ω'[k]?=some (.lst (xs.map .str))/\Keep [] Ω Ω'/\Ω.length<=k:=by
 obtain⟨xs,Ω',k,h1,h2,_,h3⟩:=namesN_ok hδ hl h0 h1 hn
 exact⟨xs,Ω',k,h1,h2,h3⟩
end
end Mir
namespace Mir
open PySem L2
variable [CloTab]
section
variable{κ β:Type}[DecidableEq κ]
theorem valG_cons{p:κ×β}{kvs:List (κ×β)}{k:κ}:valG (p::kvs) k=if p.1=k then some p.2 else valG kvs k:=by
 unfold valG
 rw[List.find?_cons]
 by_cases h:p.1=k<;>simp[h]
theorem valG_map{k k':κ}{v:β}:∀ {kvs:List (κ×β)},valG (kvs.map fun kv=>if kv.1=k then (kv.1,v) else kv) k'=if k'=k then (valG kvs k).map fun _=>v else valG kvs k'
 | []=>by simp[valG]
 | p::kvs=>by
  rw[List.map_cons,valG_cons,valG_cons,valG_cons,valG_map]
  by_cases h:p.1=k
  ·rw[if_pos h]
   by_cases h':k'=k
   ·subst h';simp[h]
   ·have:¬ k=k':=fun e=>h' e.symm
    simp[h,h',this]
  ·rw[if_neg h]
   by_cases h':k'=k
   ·subst h';simp[h]
   ·simp[h']
theorem valG_app{k k':κ}{v:β}:∀ {kvs:List (κ×β)},valG (kvs++[(k,v)]) k'=match valG kvs k' with | some d=>some d | none=>if k'=k then some v else none
 | []=>by
  rw[List.nil_append,valG_cons]
  by_cases h:k=k'
  ·subst h;simp[valG]
  ·have:¬ k'=k:=fun e=>h e.symm
   simp[valG,h,this]
 | p::kvs=>by
  rw[List.cons_append,valG_cons,valG_cons,valG_app]
  by_cases h:p.1=k'<;>simp[h]
theorem any_valG{k:κ}:∀ {kvs:List (κ×β)},(kvs.any fun kv=>decide (kv.1=k))=(valG kvs k).isSome
 | []=>rfl
 | p::kvs=>by
  rw[List.any_cons,valG_cons,any_valG]
  by_cases h:p.1=k<;>simp[h]
theorem valG_putG{kvs:List (κ×β)}{k k':κ}{v:β}:valG (putG kvs k v) k'=if k'=k then some v else valG kvs k':=by
 unfold putG
 rw[any_valG]
 cases h:valG kvs k with
 | none=>
  rw[Option.isSome_none,if_neg (by simp),valG_app]
  by_cases h':k'=k
  ·subst h';simp[h]
  ·cases q:valG kvs k'<;>simp[h']
 | some d=>
  rw[Option.isSome_some,if_pos rfl,valG_map,h]
  by_cases h':k'=k<;>simp[h']
theorem putG_len{kvs:List (κ×β)}{k:κ}{v:β}:(putG kvs k v).length<=kvs.length + 1:=by
 unfold putG
 split<;>simp
end
noncomputable abbrev kk2(x w:Str):List Key:=[.inr x,.inr w]
noncomputable abbrev tt2(x w:Str):D:=.tup [.str x,.str w]
section
variable{Ω Ω':Sto}{F:List D->Out Rs}{δ:List Int->Int->Int->Int}{ns:List Int}{t:Nat}{kvs:List (List Key×D)}
theorem len_dT(h:Ω[t]?=some (.dT kvs)):bltO .len [.ref t] Ω=.ok (.int kvs.length) Ω:=by
 simp only[bltO,altN_eq,lenS,seqO,lstO,h,lenK]
 rfl
theorem keys_tt{x w:Str}:keysD (tt2 x w)=some (kk2 x w):=rfl
theorem idx_tt{x w:Str}{d:D}(h:Ω[t]?=some (.dT kvs))(hv:valG kvs (kk2 x w)=some d):idxO (.ref t) (tt2 x w) Ω=.ok d Ω:=by
 unfold idxO
 rw[alt2_eq,alt2_eq,idxS_eq]
 simp only[idxK,get_dT h keys_tt,hv,seq_ref,lstO,h]
 rfl
noncomputable def tB(F:List D->Out Rs):SM:=(sSeq (sAsg 8 (mN (viaN F) (mCons (mVar 0) (mCons (m2 (binO .Add) (m2 (binO .Add) (mVar 1) (mCst (.int 1))) (mN (bltO .len) (mCons (mVar 4) mNil))) (mCons (m2 (binO .Mult) (mCst (.int 2)) (mVar 5)) mNil)))))
 (sSeq (sDput (mVar 4) (mN tupN (mCons (mVar 6) (mCons (mVar 7) mNil))) (m2 idxO (mN lstN (mCons (mCst (.int 1)) (mCons (mCst (.int 2)) (mCons (mCst (.int 0)) mNil)))) (mN (bltO .min) (mCons (mCst (.int 2)) (mCons (mVar 8) mNil)))))
 sSkip))
noncomputable def cTableO(F:List D->Out Rs):SM:=
 (sSeq (sAsg 4 mDictT)
 (sSeq (sAsg 5 (m2 idxO (mN lstN (mCons (mCst (.int 2)) (mCons (mCst (.int 4)) (mCons (mCst (.int 9)) mNil)))) (mN (viaN F) (mCons (mVar 0) (mCons (mVar 1) (mCons (mCst (.int 3)) mNil))))))
 (sSeq (sFor (putO1 6) (mSrc (mVar 2))
 (sSeq (sFor (putO1 7) (mSrc (mVar 3)) (tB F))
 sSkip))
 (sSeq (sRet (mVar 4))
 sSkip))))
theorem min2{p:Int}(h0:0<=p):bltO .min [.int 2,.int p] Ω=.ok (.int (if p < 2 then p else 2)) Ω:=by
 simp[bltO,bltV]
theorem tB_ok(hδ:DrwAt δ F)(hl:ns.length<=63){a dn:Int}{kx kw:Nat}{x w:Str}{a8:Option D}(h0:0<=a)(h1:a < 10000)(d0:1<=dn)(d1:dn<=9)(ht:Ω[t]?=some (.dT kvs))(hk:kvs.length<=1000) :
  ∃ (v:Int) (a8':Option D) (Ω':Sto),0<=v/\v<=2/\tB F [some (SC ns),some (.int a),some (.ref kx),some (.ref kw),some (.ref t),some (.int dn),some (.str x),some (.str w),a8] Ω=.nx [some (SC ns),some (.int a),some (.ref kx),some (.ref kw),some (.ref t),some (.int dn),some (.str x),some (.str w),a8'] Ω' /\
   Ω'[t]?=some (.dT (putG kvs (kk2 x w) (.int v)))/\Keep [t] Ω Ω':=by
 obtain⟨p0,p1,hp⟩:=hδ ns (a + 1 + kvs.length) (2 * dn) hl (by omega) (by omega) (by omega)
 generalize δ ns (a + 1 + kvs.length) (2 * dn)=p at *
 have hlen:=len_dT ht
 have i1:in64 dn=true:=in64_of (by omega) (by omega)
 have hg:(Ω++[Cell.lst [.int 1,.int 2,.int 0]])[Ω.length]?=some (.lst [.int 1,.int 2,.int 0]):=get_new
 have hm:=min2 (Ω:=Ω++[Cell.lst [.int 1,.int 2,.int 0]]) p0
 obtain⟨v,v0,v1,hv⟩:∃ v:Int,0<=v/\v<=2/\L2.atI [D.int 1,.int 2,.int 0] (if p < 2 then p else 2)=some (.int v):=by
  have:p=0\/p=1\/2<=p:=by omega
  rcases this with rfl | rfl | h
  ·exact⟨1,by omega,by omega,rfl⟩
  ·exact⟨2,by omega,by omega,rfl⟩
  ·rw[if_neg (by omega)];exact⟨0,by omega,by omega,rfl⟩
 have hx:=idxO_ref hg hv
 have ht2:(Ω++[Cell.lst [.int 1,.int 2,.int 0]])[t]?=some (.dT kvs):=get_app ht
 generalize hΩ:Ω++[Cell.lst [.int 1,.int 2,.int 0]]=Ω2 at *
 have K2:Keep [] Ω Ω2:=by rw[← hΩ];exact Keep.app
 have hdp:dputO (.ref t) (tt2 x w) (.int v) Ω2=some (Ω2.set t (.dT (putG kvs (kk2 x w) (.int v)))):=by
  simp only[dputO,ht2,keys_tt]
  rw[if_pos (small_of (by omega))]
 refine⟨v,some (.int p),Ω2.set t (.dT (putG kvs (kk2 x w) (.int v))),v0,v1,?_,get_set_eq ht2,(Keep0.up K2).trans (Keep.set (by simp))⟩
 simp[tB,hlen,i1,hp,sDput,small_of,hΩ,hm,hx,hdp]
noncomputable def HasT(kvs:List (List Key×D))(P:Str->Str->Prop):Prop:=∀ x w,P x w->∃ v:Int,0<=v/\v<=2/\valG kvs (kk2 x w)=some (.int v)
theorem HasT.put{P:Str->Str->Prop}(h:HasT kvs P){x w:Str}{v:Int}(v0:0<=v)(v1:v<=2):HasT (putG kvs (kk2 x w) (.int v)) fun y u=>P y u\/(y=x/\u=w):=fun y u hp=>by
 rw[valG_putG]
 by_cases e:kk2 y u=kk2 x w
 ·rw[if_pos e];exact⟨v,v0,v1,rfl⟩
 ·rw[if_neg e]
  rcases hp with hp | ⟨rfl,rfl⟩
  ·exact h y u hp
  ·exact absurd rfl e
theorem HasT.imp{P Q:Str->Str->Prop}(h:HasT kvs P)(hq:∀ x w,Q x w->P x w):HasT kvs Q:=fun x w q=>h x w (hq x w q)
noncomputable abbrev ET(ns:List Int)(a:Int)(kx kw t:Nat)(dn:Int)(a6 a7 a8:Option D):OEnv:=[some (SC ns),some (.int a),some (.ref kx),some (.ref kw),some (.ref t),some (.int dn),a6,a7,a8]
theorem str_at{xs:List Str}{i:Nat}{d:D}(h:(xs.map D.str)[i]?=some d):∃ x,xs[i]?=some x/\d=.str x:=by
 rw[List.getElem?_map]at h
 obtain⟨x,h1,h2⟩:=Option.map_eq_some_iff.mp h
 exact⟨x,h1,h2.symm⟩
theorem take_mem{xs:List Str}{i:Nat}{x z:Str}(h:xs[i]?=some x)(hz:z∈xs.take (i + 1)):z∈xs.take i\/z=x:=by
 rw[List.take_succ,h]at hz
 simpa using hz
theorem tIn_loop(hδ:DrwAt δ F)(hl:ns.length<=63){a dn:Int}{kx kw:Nat}{x:Str}{ws:List Str}{P:Str->Str->Prop}{a7 a8:Option D}(h0:0<=a)(h1:a < 10000)(d0:1<=dn)(d1:dn<=9)(hw:Ω[kw]?=some (.lst (ws.map .str)))(ht:Ω[t]?=some (.dT kvs))(hP:HasT kvs P)(hb:kvs.length + ws.length<=1000)
  {R:ResO->Prop} (hR:∀ kvs' a7 a8 Ω',kvs'.length<=kvs.length + ws.length->HasT kvs' (fun y u=>P y u\/(y=x/\u∈ws))->Ω'[t]?=some (.dT kvs')->Keep [t] Ω Ω'->R (.nx (ET ns a kx kw t dn (some (.str x)) a7 a8) Ω')) :
  R (loopO (putO1 7) (.seq (.ref kw)) (tB F) fuel 0 (ET ns a kx kw t dn (some (.str x)) a7 a8) Ω):=by
 have hne:kw≠t:=fun e=>by rw[e,ht]at hw;cases hw
 refine loopO_ix (ds:=ws.map .str) (fun i ρ Ω2=>∃ kvs' a7 a8,ρ=ET ns a kx kw t dn (some (.str x)) a7 a8/\kvs'.length<=kvs.length + i/\i<=ws.length/\HasT kvs' (fun y u=>P y u\/(y=x/\u∈ws.take i))/\Ω2[t]?=some (.dT kvs')/\Keep [t] Ω Ω2) ?_ ?_ ?_ fuel 0 _ _ (by unfold fuel;simp;omega) (Nat.zero_le _) ⟨kvs,a7,a8,rfl,Nat.le_refl _,Nat.zero_le _,hP.imp (by simp),ht,Keep.refl⟩
 ·rintro i ρ Ω2 ⟨_,_,_,_,_,_,_,_,K⟩
  rw[src_seq,seq_ref,lst_ref (K.get _ _ hw (by simp[hne]))]
 ·rintro i d ρ Ω2 hd ⟨kvs',a7',a8',rfl,hle,hi,hT,ht2,K⟩
  obtain⟨w,hwi,rfl⟩:=str_at hd
  have hlt:i < ws.length:=(List.getElem?_eq_some_iff.mp hwi).1
  refine⟨_,rfl,?_⟩
  obtain⟨v,a8'',Ω3,v0,v1,e,ht3,K3⟩:=tB_ok hδ hl (kx:=kx) (kw:=kw) (x:=x) (w:=w) (a8:=a8') h0 h1 d0 d1 ht2 (by omega)
  show OutO' (tB F [some (SC ns),some (.int a),some (.ref kx),some (.ref kw),some (.ref t),some (.int dn),some (.str x),some (.str w),a8'] Ω2) _ _
  rw[e]
  refine⟨_,_,_,rfl,Nat.le_trans putG_len (by omega),by omega,(hT.put v0 v1).imp fun y u h => ?_,ht3,K.trans K3⟩
  rcases h with h | ⟨rfl,h⟩
  ·exact .inl (.inl h)
  ·rcases take_mem hwi h with h | rfl
   ·exact .inl (.inr ⟨rfl,h⟩)
   ·exact .inr ⟨rfl,rfl⟩
 ·rintro ρ Ω2 ⟨kvs',a7',a8',rfl,hle,hi,hT,ht2,K⟩
  rw[List.length_map]at hle hT
  rw[List.take_length]at hT
  exact hR kvs' a7' a8' Ω2 hle hT ht2 K
theorem tableO_ok(hδ:DrwAt δ F)(hl:ns.length<=63){a:Int}{kx kw:Nat}{xs ws:List Str}(h0:0<=a)(h1:a < 10000)(hx:Ω[kx]?=some (.lst (xs.map .str)))(hw:Ω[kw]?=some (.lst (ws.map .str)))(bx:xs.length<=20)(bw:ws.length<=20) :
  ∃ kvs Ω' t,fnO 9 4 (cTableO F) [SC ns,.int a,.ref kx,.ref kw] Ω=.ok (.ref t) Ω'/\Ω'[t]?=some (.dT kvs)/\HasT kvs (fun x w=>x∈xs/\w∈ws)/\kvs.length<=400/\Keep [] Ω Ω'/\Ω.length<=t:=by
 rw[fnO_eq (by rfl)]
 have e0:entryO 9 [SC ns,.int a,.ref kx,.ref kw]=[some (SC ns),some (.int a),some (.ref kx),some (.ref kw),none,none,none,none,none]:=rfl
 rw[e0]
 obtain⟨p0,p1,hp⟩:=hδ ns a 3 hl h0 (by omega) (by omega)
 generalize δ ns a 3=p at *
 obtain⟨dn,d0,d1,hdn⟩:∃ dn:Int,1<=dn/\dn<=9/\L2.atI [D.int 2,.int 4,.int 9] p=some (.int dn):=by
  have:p=0\/p=1\/p=2:=by omega
  rcases this with rfl | rfl | rfl
  ·exact⟨2,by omega,by omega,rfl⟩
  ·exact⟨4,by omega,by omega,rfl⟩
  ·exact⟨9,by omega,by omega,rfl⟩
 have ht:(Ω++[Cell.dT []])[Ω.length]?=some (.dT []):=get_new
 have K1:Keep [] Ω (Ω++[Cell.dT []]):=Keep.app
 have r1:(sAsg 4 mDictT) [some (SC ns),some (.int a),some (.ref kx),some (.ref kw),none,none,none,none,none] Ω=.nx [some (SC ns),some (.int a),some (.ref kx),some (.ref kw),some (.ref Ω.length),none,none,none,none] (Ω++[Cell.dT []]):=rfl
 generalize hΩ1:Ω++[Cell.dT []]=Ω1 at *
 have hg:(Ω1++[Cell.lst [.int 2,.int 4,.int 9]])[Ω1.length]?=some (.lst [.int 2,.int 4,.int 9]):=get_new
 have hxx:=idxO_ref hg hdn
 have ht2:(Ω1++[Cell.lst [.int 2,.int 4,.int 9]])[Ω.length]?=some (.dT []):=get_app ht
 have K2:Keep [] Ω1 (Ω1++[Cell.lst [.int 2,.int 4,.int 9]]):=Keep.app
 have r2:(sAsg 5 (m2 idxO (mN lstN (mCons (mCst (.int 2)) (mCons (mCst (.int 4)) (mCons (mCst (.int 9)) mNil)))) (mN (viaN F) (mCons (mVar 0) (mCons (mVar 1) (mCons (mCst (.int 3)) mNil)))))) [some (SC ns),some (.int a),some (.ref kx),some (.ref kw),some (.ref Ω.length),none,none,none,none] Ω1=.nx (ET ns a kx kw Ω.length dn none none none) (Ω1++[Cell.lst [.int 2,.int 4,.int 9]]):=by
  simp[small_of,hp,hxx,ET]
 generalize hΩ2:Ω1++[Cell.lst [.int 2,.int 4,.int 9]]=Ω2 at *
 have K3:=K1.trans K2
 have hx2:=K3.get _ _ hx (by simp)
 have hw2:=K3.get _ _ hw (by simp)
 have hnx:kx≠Ω.length:=fun e=>by have:=get_lt hx;omega
 have hnw:kw≠Ω.length:=fun e=>by have:=get_lt hw;omega
 have hsr:mSrc (mVar 2) (ET ns a kx kw Ω.length dn none none none) Ω2=.ok (.seq (.ref kx)) Ω2:=by
  simp[ET,srcOf_seq (x:=.ref kx) (by rw[seq_ref,lst_ref hx2])]
 unfold cTableO
 rw[sSeq_eq,r1,sq_nx,sSeq_eq,r2,sq_nx,sSeq_eq,sFor_eq,hsr,lo_ok]
 refine loopO_ix (R:=fun r=>∃ kvs Ω' t,finO (sq r _)=.ok (.ref t) Ω'/\Ω'[t]?=some (.dT kvs)/\HasT kvs (fun x w=>x∈xs/\w∈ws)/\kvs.length<=400/\Keep [] Ω Ω'/\Ω.length<=t) (ds:=xs.map .str)
  (fun i ρ Ω3=>∃ kvs a6 a7 a8,ρ=ET ns a kx kw Ω.length dn a6 a7 a8/\kvs.length<=i * ws.length/\i<=xs.length/\HasT kvs (fun y u=>y∈xs.take i/\u∈ws)/\Ω3[Ω.length]?=some (.dT kvs)/\Keep [Ω.length] Ω2 Ω3) ?_ ?_ ?_ fuel 0 _ _ (by unfold fuel;simp;omega) (Nat.zero_le _) ⟨[],none,none,none,rfl,by simp,Nat.zero_le _,fun y u h=>by simp at h,ht2,Keep.refl⟩
 ·rintro i ρ Ω3 ⟨_,_,_,_,_,_,_,_,_,K⟩
  rw[src_seq,seq_ref,lst_ref (K.get _ _ hx2 (by simp[hnx]))]
 ·rintro i d ρ Ω3 hd ⟨kvs,a6,a7,a8,rfl,hle,hi,hT,ht3,K⟩
  obtain⟨x,hxi,rfl⟩:=str_at hd
  have hlt:i < xs.length:=(List.getElem?_eq_some_iff.mp hxi).1
  have hm:i * ws.length<=20 * 20:=Nat.mul_le_mul (by omega) bw
  refine⟨_,rfl,?_⟩
  have hw3:=K.get _ _ hw2 (by simp[hnw])
  have hsr:mSrc (mVar 3) (ET ns a kx kw Ω.length dn (some (.str x)) a7 a8) Ω3=.ok (.seq (.ref kw)) Ω3:=by
   simp[ET,srcOf_seq (x:=.ref kw) (by rw[seq_ref,lst_ref hw3])]
  show OutO' ((sSeq (sFor (putO1 7) (mSrc (mVar 3)) (tB F)) sSkip) (ET ns a kx kw Ω.length dn (some (.str x)) a7 a8) Ω3) _ _
  rw[sSeq_eq,sFor_eq,hsr,lo_ok]
  refine tIn_loop (R:=fun r=>OutO' (sq r sSkip) _ _) hδ hl h0 h1 d0 d1 hw3 ht3 hT (by omega) ?_
  intro kvs' a7' a8' Ω4 hl4 hT4 ht4 K4
  rw[sq_nx]
  refine⟨kvs',_,a7',a8',rfl,by rw[Nat.succ_mul];omega,by omega,hT4.imp fun y u h => ?_,ht4,K.trans K4⟩
  rcases take_mem hxi h.1 with q | rfl
  ·exact .inl ⟨q,h.2⟩
  ·exact .inr ⟨rfl,h.2⟩
 ·rintro ρ Ω3 ⟨kvs,a6,a7,a8,rfl,hle,hi,hT,ht3,K⟩
  rw[List.length_map]at hle hT
  rw[List.take_length]at hT
  have hm:xs.length * ws.length<=20 * 20:=Nat.mul_le_mul bx bw
  refine⟨kvs,Ω3,Ω.length,?_,ht3,hT,by omega,K3.new K (by simp),Nat.le_refl _⟩
  simp[ET]
end
end Mir
namespace Mir
open PySem L2
variable [CloTab]
theorem pureOf_ok{O:FnO}{ds:List D}{d:D}{Ω':Sto}(h1:ds.all plB=true)(h:O ds []=.ok d Ω')(hf:flatB d=true):pureOf O ds=.ok (false,d):=by
 unfold pureOf
 rw[if_pos h1,h]
 dsimp only
 rw[if_pos hf]
noncomputable def mxB:SM:=(sSeq (sAsg 3 (m2 (binO .FloorDiv) (mVar 3) (mCst (.int 840)))) sSkip)
noncomputable def mxI:SM:=(sIf (mAnd (m2 (cmpO .Eq) (m2 (binO .Mod) (mVar 0) (mCst (.int 2))) (mCst (.int 1))) (m2 (cmpO .Gt) (mVar 0) (m2 (binO .Pow) (mCst (.int 10)) (mCst (.int 18)))))
 (sSeq (sFor (putO1 4) (mRng1 (mCons (mVar 1) mNil)) mxB)
 (sSeq (sRet (m2 (binO .Mod) (m2 (binO .Mod) (mVar 3) (mCst (.int 840))) (mVar 2)))
 sSkip))
 sSkip)
noncomputable def mxR:SM:=(sSeq (sAsg 5 (mN lstN (mCons (mCst (.int 48271)) (mCons (mCst (.int 69621)) (mCons (mCst (.int 40692)) (mCons (mCst (.int 39373)) (mCons (mCst (.int 16807)) (mCons (mCst (.int 30323)) (mCons (mCst (.int 21403)) (mCons (mCst (.int 62089)) (mCons (mCst (.int 45742)) (mCons (mCst (.int 37907)) (mCons (mCst (.int 53611)) (mCons (mCst (.int 28411)) (mCons (mCst (.int 59393)) (mCons (mCst (.int 33391)) mNil))))))))))))))))
 (sSeq (sAsg 6 (m2 (binO .Mod) (m2 (binO .Mult) (m2 (binO .Add) (m2 (binO .Mod) (mVar 0) (mCst (.int 1000000007))) (mCst (.int 11))) (m2 idxO (mVar 5) (m2 (binO .Mod) (mVar 1) (mCst (.int 14))))) (mCst (.int 2147483629))))
 (sSeq (sAsg 7 (m2 (binO .Mod) (m2 (binO .Mult) (mVar 6) (m2 (binO .Add) (mVar 6) (mVar 1))) (mCst (.int 1999999973))))
 (sSeq (sRet (m2 (binO .Mod) (m2 (binO .FloorDiv) (m2 (binO .Mod) (m2 (binO .Mult) (mVar 7) (mCst (.int 16807))) (mCst (.int 998244353))) (mCst (.int 1000))) (mVar 2)))
 sSkip))))
noncomputable def cMixO:SM:=
 (sSeq (sAsg 3 (m2 (binO .FloorDiv) (mVar 0) (mCst (.int 2))))
 (sSeq mxI mxR))
noncomputable def cDrwO(M:List D->Out Rs):SM:=
 (sSeq (sAsg 3 (m2 (binO .Mult) (mCst (.int 2)) (m2 (binO .Add) (m2 (binO .Mult) (mCst (.int 7919)) (mVar 1)) (mCst (.int 13)))))
 (sSeq (sIf (m2 (cmpO .Lt) (m2 (binO .Mod) (mVar 1) (mCst (.int 63))) (mN (bltO .len) (mCons (mVar 0) mNil)))
 (sSeq (sAsg 3 (m2 idxO (mVar 0) (m2 (binO .Mod) (mVar 1) (mCst (.int 63)))))
 sSkip)
 sSkip)
 (sSeq (sRet (mN (viaN M) (mCons (mVar 3) (mCons (m2 (binO .FloorDiv) (mVar 1) (mCst (.int 63))) (mCons (mVar 2) mNil)))))
 sSkip)))
@[simp] theorem binO_Pow{x y:D}{Ω:Sto}:binO .Pow x y Ω=via2 (binD .Pow) x y Ω:=rfl
theorem mixO_ok{c t m:Int}(ht:0<=t)(ht':t < 100000)(hm:0 < m):∃ r,0<=r/\r < m/\pureOf (fnO 8 3 cMixO) [.int c,.int t,.int m]=.ok (false,.int r):=by
 have key:∃ r Ω',0<=r/\r < m/\fnO 8 3 cMixO [.int c,.int t,.int m] []=.ok (.int r) Ω':=by
  rw[fnO_eq (by rfl)]
  have e0:entryO 8 [D.int c,.int t,.int m]=[some (.int c),some (.int t),some (.int m),none,none,none,none,none]:=rfl
  rw[e0]
  unfold cMixO
  have r1:(sAsg 3 (m2 (binO .FloorDiv) (mVar 0) (mCst (.int 2)))) [some (.int c),some (.int t),some (.int m),none,none,none,none,none] []=.nx [some (.int c),some (.int t),some (.int m),some (.int (c / 2)),none,none,none,none] []:=by simp
  rw[sSeq_eq,r1,sq_nx,sSeq_eq]
  by_cases hc:c % 2=1/\1000000000000000000 < c
  ·have hin:in62 t=true:=in62_of (by omega) (by omega)
   have hL:∃ x s4,loopO (putO1 4) (.ints 0 t.toNat) mxB fuel 0 [some (.int c),some (.int t),some (.int m),some (.int (c / 2)),none,none,none,none] []=.nx [some (.int c),some (.int t),some (.int m),some (.int x),s4,none,none,none] []:=by
    refine loopO_ix (R:=fun r=>∃ x s4,r=.nx [some (.int c),some (.int t),some (.int m),some (.int x),s4,none,none,none] []) (ds:=intsFrom 0 t.toNat) (fun _ ρ Ω=>∃ x s4,ρ=[some (.int c),some (.int t),some (.int m),some (.int x),s4,none,none,none]/\Ω=[]) (fun _ _ _ _=>rfl) ?_ ?_ fuel 0 _ _ (by rw[rng_len];unfold fuel;omega) (Nat.zero_le _) ⟨_,_,rfl,rfl⟩
    ·rintro i d ρ Ω hd ⟨x,s4,rfl,rfl⟩
     refine⟨_,rfl,?_⟩
     have e:mxB [some (.int c),some (.int t),some (.int m),some (.int x),some d,none,none,none] []=.nx [some (.int c),some (.int t),some (.int m),some (.int (x / 840)),some d,none,none,none] []:=by simp[mxB]
     show OutO' (mxB [some (.int c),some (.int t),some (.int m),some (.int x),some d,none,none,none] []) _ _
     rw[e]
     exact⟨_,_,rfl,rfl⟩
    ·rintro ρ Ω ⟨x,s4,rfl,rfl⟩
     exact⟨x,s4,rfl⟩
   obtain⟨x,s4,hL⟩:=hL
   refine⟨x % 840 % m,[],Int.emod_nonneg _ (by omega),Int.emod_lt_of_pos _ hm,?_⟩
   simp[mxI,hc.1,hc.2,hin,hL,hm]
  ·obtain⟨d,hd,e⟩:=atI_in (xs:=[D.int 48271,.int 69621,.int 40692,.int 39373,.int 16807,.int 30323,.int 21403,.int 62089,.int 45742,.int 37907,.int 53611,.int 28411,.int 59393,.int 33391]) (i:=t % 14) (Int.emod_nonneg _ (by omega)) (Int.emod_lt_of_pos _ (by omega))
   obtain⟨v,rfl⟩:∃ v,d=.int v:=by
    simp only[List.mem_cons,List.not_mem_nil,or_false]at hd
    rcases hd with h | h | h | h | h | h | h | h | h | h | h | h | h | h<;>exact⟨_,h⟩
   have hg:([]++[Cell.lst [D.int 48271,.int 69621,.int 40692,.int 39373,.int 16807,.int 30323,.int 21403,.int 62089,.int 45742,.int 37907,.int 53611,.int 28411,.int 59393,.int 33391]]:Sto)[0]?=some (.lst [D.int 48271,.int 69621,.int 40692,.int 39373,.int 16807,.int 30323,.int 21403,.int 62089,.int 45742,.int 37907,.int 53611,.int 28411,.int 59393,.int 33391]):=rfl
   have hx:=idxO_ref hg e
   have i1:in64 (c % 1000000007 + 11)=true:=in64_of (by omega) (by omega)
   have i2:in64 ((c % 1000000007 + 11) * v % 2147483629)=true:=in64_of (by omega) (by omega)
   have i3:in64 ((c % 1000000007 + 11) * v % 2147483629 * ((c % 1000000007 + 11) * v % 2147483629 + t) % 1999999973)=true:=in64_of (by omega) (by omega)
   have rI:mxI [some (.int c),some (.int t),some (.int m),some (.int (c / 2)),none,none,none,none] []=.nx [some (.int c),some (.int t),some (.int m),some (.int (c / 2)),none,none,none,none] []:=by
    by_cases h1:c % 2=1
    ·have h2:¬ 1000000000000000000 < c:=fun z=>hc ⟨h1,z⟩
     simp[mxI,h1,h2]
    ·have hb:(c % 2 == 1)=false:=by simpa using h1
     simp[mxI,hb]
   refine⟨(c % 1000000007 + 11) * v % 2147483629 * ((c % 1000000007 + 11) * v % 2147483629 + t) % 1999999973 * 16807 % 998244353 / 1000 % m,([]++[Cell.lst [D.int 48271,.int 69621,.int 40692,.int 39373,.int 16807,.int 30323,.int 21403,.int 62089,.int 45742,.int 37907,.int 53611,.int 28411,.int 59393,.int 33391]]:Sto),Int.emod_nonneg _ (by omega),Int.emod_lt_of_pos _ hm,?_⟩
   rw[rI,sq_nx]
   have r5:(sAsg 5 (mN lstN (mCons (mCst (.int 48271)) (mCons (mCst (.int 69621)) (mCons (mCst (.int 40692)) (mCons (mCst (.int 39373)) (mCons (mCst (.int 16807)) (mCons (mCst (.int 30323)) (mCons (mCst (.int 21403)) (mCons (mCst (.int 62089)) (mCons (mCst (.int 45742)) (mCons (mCst (.int 37907)) (mCons (mCst (.int 53611)) (mCons (mCst (.int 28411)) (mCons (mCst (.int 59393)) (mCons (mCst (.int 33391)) mNil)))))))))))))))) [some (.int c),some (.int t),some (.int m),some (.int (c / 2)),none,none,none,none] []=.nx [some (.int c),some (.int t),some (.int m),some (.int (c / 2)),none,some (.ref 0),none,none] ([]++[Cell.lst [D.int 48271,.int 69621,.int 40692,.int 39373,.int 16807,.int 30323,.int 21403,.int 62089,.int 45742,.int 37907,.int 53611,.int 28411,.int 59393,.int 33391]]):=rfl
   unfold mxR
   rw[sSeq_eq,r5,sq_nx]
   generalize ([]++[Cell.lst [D.int 48271,.int 69621,.int 40692,.int 39373,.int 16807,.int 30323,.int 21403,.int 62089,.int 45742,.int 37907,.int 53611,.int 28411,.int 59393,.int 33391]]:Sto)=Ω1 at hx
   simp[hx,i1,i2,i3,hm]
 obtain⟨r,Ω',h0,h1,e⟩:=key
 exact⟨r,h0,h1,pureOf_ok rfl e rfl⟩
theorem drawnO_at{M:List D->Out Rs}(hM:∀ c t m:Int,0<=t->t < 100000->0 < m->∃ r,0<=r/\r < m/\M [.int c,.int t,.int m]=.ok (false,.int r)):DrawnAt (pureOf (fnO 4 3 (cDrwO M))):=by
 intro ns k m hl h0 h1 hm
 have i0:in64 k=true:=in64_of (by omega) (by omega)
 have i1:in64 (7919 * k + 13)=true:=in64_of (by omega) (by omega)
 have hpl:[SC ns,D.int k,.int m].all plB=true:=by
  have:(ns.map D.int).all flatB=true:=by
   induction ns with
   | nil=>rfl
   | cons n ns ih=>
    rw[List.map_cons,List.all_cons,ih (by simp at hl;omega)];rfl
  simp only[List.all_cons,List.all_nil,Bool.and_true]
  show((ns.map D.int).all flatB && (true && true))=true
  rw[this];rfl
 have e0:entryO 4 [SC ns,D.int k,.int m]=[some (SC ns),some (.int k),some (.int m),none]:=rfl
 have hlen:bltO .len [SC ns] []=.ok (.int ns.length) []:=by
  show OutO.ok (D.int ((ns.map D.int).length:Nat)) []=_
  rw[List.length_map]
 by_cases hlt:k % 63 < (ns.length:Int)
 ·obtain⟨d,hd,e⟩:=atI_in (xs:=ns.map D.int) (i:=k % 63) (Int.emod_nonneg _ (by omega)) (by simpa using hlt)
  obtain⟨c,_,rfl⟩:=List.mem_map.mp hd
  obtain⟨r,r0,r1,hr⟩:=hM c (k / 63) m (by omega) (by omega) hm
  have hx:idxO (SC ns) (.int (k % 63)) []=.ok (.int c) []:=by
   unfold idxO
   rw[alt2_eq,alt2_eq,idxS_eq]
   show orO (ixs [] (some (ns.map D.int)) (.int (k % 63))) _=_
   rw[ixs_at e];rfl
  refine⟨r,r0,r1,pureOf_ok (Ω':=[]) hpl ?_ rfl⟩
  rw[fnO_eq (by rfl),e0]
  simp[cDrwO,i0,i1,hlen,hlt,hx,hr]
 ·obtain⟨r,r0,r1,hr⟩:=hM (2 * (7919 * k + 13)) (k / 63) m (by omega) (by omega) hm
  refine⟨r,r0,r1,pureOf_ok (Ω':=[]) hpl ?_ rfl⟩
  rw[fnO_eq (by rfl),e0]
  simp[cDrwO,i0,i1,hlen,hlt,hr]
end Mir
namespace Mir
open PySem L2
noncomputable def papD(σ:Str->Int):List Str->List Str->D
 | [],acc=>.tup [.tup (acc.map .str),.non,.int 0]
 | x::r,acc=>if σ x=0 then papD σ r (acc++[x]) else .tup [.tup (acc.map .str),.str x,.int (σ x)]
theorem pap_at{σ:Str->Int}{x:Str}:∀ {line acc:List Str} {i:Nat},(∀ y∈line.take i,σ y=0)->line[i]?=some x->σ x≠0->papD σ line acc=.tup [.tup ((acc++line.take i).map .str),.str x,.int (σ x)]
 | [],acc,i,_,h,_=>by simp at h
 | y::r,acc,0,_,h,hx=>by
  simp at h
  subst h
  simp[papD,hx]
 | y::r,acc,i + 1,h0,h,hx=>by
  have hy:σ y=0:=h0 y (by simp)
  rw[papD,if_pos hy,pap_at (i:=i) (fun z hz=>h0 z (by simp[hz])) (by simpa using h) hx]
  simp
theorem pap_all{σ:Str->Int}:∀ {line acc:List Str},(∀ y∈line,σ y=0)->papD σ line acc=.tup [.tup ((acc++line).map .str),.non,.int 0]
 | [],acc,_=>by simp[papD]
 | y::r,acc,h=>by
  rw[papD,if_pos (h y (by simp)),pap_all fun z hz=>h z (by simp[hz])]
  simp
theorem pap_form(σ:Str->Int):∀ (line acc:List Str),∃ (ps:List Str) (f:D) (v:Int),papD σ line acc=.tup [.tup (ps.map .str),f,.int v]/\(f=.non\/∃ x,f=.str x)
 | [],acc=>⟨acc,.non,0,rfl,.inl rfl⟩
 | x::r,acc=>by
  rw[papD]
  split
  ·exact pap_form σ r (acc++[x])
  ·exact⟨acc,_,_,rfl,.inr ⟨x,rfl⟩⟩
variable [CloTab]
section
variable{Ω Ω':Sto}{ρ:OEnv}{σ:Str->Int}{t kl:Nat}{kvs:List (List Key×D)}{line:List Str}{w x:Str}
theorem cut_hiN{ds:List D}{n:Nat}:cutL ds none (some (n:Int))=ds.take n:=cut_hi ds n
theorem slc_hi{n:Nat}(h:Ω[kl]?=some (.lst (line.map .str))):slcO (.ref kl) none (some (n:Int)) Ω=.ok (.ref Ω.length) (Ω++[.lst ((line.take n).map .str)]):=by
 simp only[slcO,lst_ref h,newC_eq,cut_hiN,List.map_take]
theorem idx_str_at{n:Nat}(h:Ω[kl]?=some (.lst (line.map .str)))(hx:line[n]?=some x):idxO (.ref kl) (.int n) Ω=.ok (.str x) Ω:=
 idxO_ref h (L2.atI_nat (by simp[hx]))
noncomputable def pA:SM:=(sSeq (sIf (m2 (cmpO .Gt) (m2 idxO (mVar 2) (mN tupN (mCons (m2 idxO (mVar 0) (mVar 3)) (mCons (mVar 1) mNil)))) (mCst (.int 0)))
 (sSeq (sRet (mN tupN (mCons (mN (bltO .tuple) (mCons (mSlc (mVar 0) true (mCst .non) false (mVar 3)) mNil)) (mCons (m2 idxO (mVar 0) (mVar 3)) (mCons (m2 idxO (mVar 2) (mN tupN (mCons (m2 idxO (mVar 0) (mVar 3)) (mCons (mVar 1) mNil)))) mNil)))))
 sSkip)
 sSkip)
 sSkip)
noncomputable def cPaperO:SM:=
 (sSeq (sFor (putO1 3) (mRng1 (mCons (mN (bltO .len) (mCons (mVar 0) mNil)) mNil)) pA)
 (sSeq (sRet (mN tupN (mCons (mN (bltO .tuple) (mCons (mVar 0) mNil)) (mCons (mCst .non) (mCons (mCst (.int 0)) mNil)))))
 sSkip))
noncomputable def StAt(kvs:List (List Key×D))(w:Str)(line:List Str)(σ:Str->Int):Prop:=∀ x∈line,0<=σ x/\σ x<=2/\valG kvs (kk2 x w)=some (.int (σ x))
theorem paperO_ok(hl:Ω[kl]?=some (.lst (line.map .str)))(ht:Ω[t]?=some (.dT kvs))(hσ:StAt kvs w line σ)(bl:line.length<=1000) :
  ∃ Ω',fnO 4 3 cPaperO [.ref kl,.str w,.ref t] Ω=.ok (papD σ line []) Ω'/\Keep [] Ω Ω':=by
 rw[fnO_eq (by rfl)]
 have e0:entryO 4 [D.ref kl,.str w,.ref t]=[some (.ref kl),some (.str w),some (.ref t),none]:=rfl
 rw[e0]
 have hlen:=len_ref hl
 rw[List.length_map]at hlen
 have hin:in62 (line.length:Int)=true:=in62_of (by omega) (by omega)
 have hsr:mRng1 (mCons (mN (bltO .len) (mCons (mVar 0) mNil)) mNil) [some (.ref kl),some (.str w),some (.ref t),none] Ω=.ok (.ints 0 line.length) Ω:=by simp[hlen,hin]
 unfold cPaperO
 rw[sSeq_eq,sFor_eq,hsr,lo_ok]
 refine loopO_ix (R:=fun r=>∃ Ω',finO (sq r _)=.ok (papD σ line []) Ω'/\Keep [] Ω Ω') (ds:=intsFrom 0 line.length) (fun i ρ Ω2=>∃ a3,ρ=[some (.ref kl),some (.str w),some (.ref t),a3]/\Ω2=Ω/\∀ y∈line.take i,σ y=0) (fun _ _ _ _=>rfl) ?_ ?_ fuel 0 _ _ (by rw[rng_len];unfold fuel;omega) (Nat.zero_le _) ⟨none,rfl,rfl,by simp⟩
 ·rintro i d ρ Ω2 hd ⟨a3,rfl,rfl,hz⟩
  obtain⟨rfl,hlt⟩:=rng_get hd
  refine⟨_,rfl,?_⟩
  rw[show(0:Int) + (i:Int)=(i:Int) by omega]
  have hx:line[i]?=some line[i]:=List.getElem?_eq_getElem hlt
  obtain⟨v0,v1,hv⟩:=hσ _ (List.mem_of_getElem? hx)
  generalize line[i]=x at *
  have hix:=idx_str_at hl hx
  have hit:=idx_tt ht hv
  show OutO' (pA [some (.ref kl),some (.str w),some (.ref t),some (.int i)] Ω2) _ _
  by_cases hs:σ x=0
  ·have e:pA [some (.ref kl),some (.str w),some (.ref t),some (.int i)] Ω2=.nx [some (.ref kl),some (.str w),some (.ref t),some (.int i)] Ω2:=by
    rw[hs]at hit
    simp[pA,hix,small_of,hit]
   rw[e]
   refine⟨_,rfl,rfl,fun y hy => ?_⟩
   rcases take_mem hx hy with h | rfl
   ·exact hz y h
   ·exact hs
  ·have hp:0 < σ x:=by omega
   have hsl:=slc_hi (n:=i) hl
   have g1:(Ω2++[Cell.lst ((line.take i).map .str)])[Ω2.length]?=some (.lst ((line.take i).map .str)):=get_new
   have K1:Keep [] Ω2 (Ω2++[Cell.lst ((line.take i).map .str)]):=Keep.app
   generalize Ω2++[Cell.lst ((line.take i).map .str)]=Ω3 at hsl g1 K1
   have htu:=tuple_ref g1
   have hix3:=idx_str_at (K1.get _ _ hl (by simp)) hx
   have hit3:=idx_tt (K1.get _ _ ht (by simp)) hv
   have e:pA [some (.ref kl),some (.str w),some (.ref t),some (.int i)] Ω2=.rt (.tup [.tup ((line.take i).map .str),.str x,.int (σ x)]) Ω3:=by
    simp[pA,hix,small_of,hit,hp,hsl,htu,hix3,hit3,-List.map_take]
   rw[e]
   refine⟨Ω3,?_,K1⟩
   rw[sq_rt,finO_rt,pap_at hz hx hs]
   rfl
 ·rintro ρ Ω2 ⟨a3,rfl,rfl,hz⟩
  rw[rng_len,List.take_length]at hz
  have htu:=tuple_ref hl
  refine⟨Ω2,?_,Keep.refl⟩
  rw[sq_nx,pap_all hz]
  simp[htu,small_of]
theorem callV_at{M:List (List D->FnO)}{i fn j:Nat}{caps:List D}{as:AM}(hρ:ρ[i]?=some (some (.ref fn)))(hf:isFn Ω fn=true):mCallV M i as ρ Ω=(as ρ Ω).bind fun xs Ω1=>cvF M fn xs Ω1:=by
 unfold mCallV
 rw[hρ]
 simp only[hf,if_true]
theorem isFn_at{fn j:Nat}{caps:List D}(h:Ω[fn]?=some (.fn j caps)):isFn Ω fn=true:=by simp only[isFn,h]
theorem cvF_at{M:List (List D->FnO)}{fn j:Nat}{caps xs:List D}{F:List D->FnO}(h:Ω[fn]?=some (.fn j caps))(hM:M[j]?=some F):cvF M fn xs Ω=okO (F caps xs Ω):=by
 simp only[cvF,h,hM,callO_eq]
structure Asks(M:List (List D->FnO))(fn:Nat)(w:Str)(σ:Str->Int)(line:List Str)(fp:List Nat)(b:Nat)(I:List Str->Sto->Prop):Prop where
 stay:∀ ys Ω Ω' fq,I ys Ω->Keep fq Ω Ω'->(∀ j∈fq,b<=j)->I ys Ω'
 call:∀ ys Ω x,x∈line->ys.length<=900->I ys Ω->isFn Ω fn=true/\∃ Ω',cvF M fn [.str x,.str w] Ω=.ok (.int (σ x)) Ω'/\I (ys++[x]) Ω'/\Keep fp Ω Ω'
 low:∀ j∈fp,j < b
noncomputable def askP(σ:Str->Int):List Str->List Str
 | []=>[]
 | x::r=>if σ x=0 then x::askP σ r else [x]
theorem ask_at{x:Str}:∀ {line:List Str} {i:Nat},(∀ y∈line.take i,σ y=0)->line[i]?=some x->σ x≠0->askP σ line=line.take i++[x]
 | [],i,_,h,_=>by simp at h
 | y::r,0,_,h,hx=>by
  simp at h
  subst h
  simp[askP,hx]
 | y::r,i + 1,h0,h,hx=>by
  rw[askP,if_pos (h0 y (by simp)),ask_at (i:=i) (fun z hz=>h0 z (by simp[hz])) (by simpa using h) hx]
  simp
theorem ask_all:∀ {line:List Str},(∀ y∈line,σ y=0)->askP σ line=line
 | [],_=>rfl
 | y::r,h=>by rw[askP,if_pos (h y (by simp)),ask_all fun z hz=>h z (by simp[hz])]
noncomputable def oB(M:List (List D->FnO)):SM:=(sSeq (sAsg 5 (mCallV M 2 (mCons (mVar 4) (mCons (mVar 1) mNil))))
 (sSeq (sIf (m2 (cmpO .NotEq) (mVar 5) (mCst (.int 0)))
 (sSeq (sRet (mN tupN (mCons (mN (bltO .tuple) (mCons (mVar 3) mNil)) (mCons (mVar 4) (mCons (mVar 5) mNil)))))
 sSkip)
 sSkip)
 (sSeq (sExp (mMth isL appendO (mVar 3) (mCons (mVar 4) mNil)))
 sSkip)))
noncomputable def cPapOf(M:List (List D->FnO)):SM:=
 (sSeq (sAsg 3 (mN lstN mNil))
 (sSeq (sFor (putO1 4) (mSrc (mVar 0)) (oB M))
 (sSeq (sRet (mN tupN (mCons (mN (bltO .tuple) (mCons (mVar 3) mNil)) (mCons (mCst .non) (mCons (mCst (.int 0)) mNil)))))
 sSkip)))
theorem papOf_ok{M:List (List D->FnO)}{fn b:Nat}{fp:List Nat}{I:List Str->Sto->Prop}{ys:List Str}(A:Asks M fn w σ line fp b I)(hl:Ω[kl]?=some (.lst (line.map .str)))(hI:I ys Ω)(hb:b<=Ω.length)(hk:kl∉fp)(bl:ys.length + line.length<=900) :
  ∃ Ω',fnO 6 3 (cPapOf M) [.ref kl,.str w,.ref fn] Ω=.ok (papD σ line []) Ω'/\I (ys++askP σ line) Ω'/\Keep fp Ω Ω':=by
 rw[fnO_eq (by rfl)]
 have e0:entryO 6 [D.ref kl,.str w,.ref fn]=[some (.ref kl),some (.str w),some (.ref fn),none,none,none]:=rfl
 rw[e0]
 have g0:(Ω++[Cell.lst []])[Ω.length]?=some (.lst []):=get_new
 have K0:Keep [] Ω (Ω++[Cell.lst []]):=Keep.app
 have r1:(sAsg 3 (mN lstN mNil)) [some (.ref kl),some (.str w),some (.ref fn),none,none,none] Ω=.nx [some (.ref kl),some (.str w),some (.ref fn),some (.ref Ω.length),none,none] (Ω++[Cell.lst []]):=by simp[small_of]
 have hI0:=A.stay ys _ _ [] hI K0 (by simp)
 have hkl:=get_lt hl
 generalize Ω++[Cell.lst []]=Ω1 at *
 generalize hq:Ω.length=q at *
 have hl1:=K0.get _ _ hl (by simp)
 have hsr:mSrc (mVar 0) [some (.ref kl),some (.str w),some (.ref fn),some (.ref q),none,none] Ω1=.ok (.seq (.ref kl)) Ω1:=by
  simp[srcOf_seq (x:=.ref kl) (by rw[seq_ref,lst_ref hl1])]
 unfold cPapOf
 rw[sSeq_eq,r1,sq_nx,sSeq_eq,sFor_eq,hsr,lo_ok]
 have new:∀ {Ω2:Sto},Keep (q::fp) Ω1 Ω2->Keep fp Ω Ω2:=fun {Ω2} K=>⟨Nat.le_trans K0.len K.len,fun k c e n=>K.get k c (K0.get k c e (by simp)) fun z=>by
  rcases List.mem_cons.mp z with z | z
  ·have:=get_lt e;omega
  ·exact n z⟩
 refine loopO_ix (R:=fun r=>∃ Ω',finO (sq r _)=.ok (papD σ line []) Ω'/\I (ys++askP σ line) Ω'/\Keep fp Ω Ω') (ds:=line.map .str)
  (fun i ρ Ω2=>∃ a4 a5,ρ=[some (.ref kl),some (.str w),some (.ref fn),some (.ref q),a4,a5]/\(∀ y∈line.take i,σ y=0)/\Ω2[q]?=some (.lst ((line.take i).map .str))/\I (ys++line.take i) Ω2/\Keep (q::fp) Ω1 Ω2) ?_ ?_ ?_ fuel 0 _ _ (by unfold fuel;simp;omega) (Nat.zero_le _) ⟨none,none,rfl,by simp,by simpa using g0,by simpa using hI0,Keep.refl⟩
 ·rintro i ρ Ω2 ⟨_,_,_,_,_,_,K⟩
  rw[src_seq,seq_ref,lst_ref (K.get _ _ hl1 (by simp[hk];omega))]
 ·rintro i d ρ Ω2 hd ⟨a4,a5,rfl,hz,hq2,hI2,K⟩
  obtain⟨x,hx,rfl⟩:=str_at hd
  have hlt:i < line.length:=(List.getElem?_eq_some_iff.mp hx).1
  refine⟨_,rfl,?_⟩
  show OutO' (oB M [some (.ref kl),some (.str w),some (.ref fn),some (.ref q),some (.str x),a5] Ω2) _ _
  obtain⟨hf,Ω3,hc,hI3,K3⟩:=A.call _ Ω2 x (List.mem_of_getElem? hx) (by simp;omega) hI2
  have hcv:mCallV M 2 (mCons (mVar 4) (mCons (mVar 1) mNil)) [some (.ref kl),some (.str w),some (.ref fn),some (.ref q),some (.str x),a5] Ω2=.ok (.int (σ x)) Ω3:=by
   rw[callV_at (j:=0) (caps:=[]) rfl hf]
   simp[hc]
  have r5:(sAsg 5 (mCallV M 2 (mCons (mVar 4) (mCons (mVar 1) mNil)))) [some (.ref kl),some (.str w),some (.ref fn),some (.ref q),some (.str x),a5] Ω2=.nx [some (.ref kl),some (.str w),some (.ref fn),some (.ref q),some (.str x),some (.int (σ x))] Ω3:=by
   rw[sAsg_eq,hcv];rfl
  have hqf:q∉fp:=fun z=>by have:=A.low q z;omega
  have hq3:=K3.get _ _ hq2 hqf
  have K13:Keep (q::fp) Ω1 Ω3:=K.trans (K3.sub fun k h=>List.mem_cons_of_mem _ h)
  unfold oB
  rw[sSeq_eq,r5,sq_nx]
  by_cases hs:σ x=0
  ·have hap:=append_ref (d:=.str x) hq3 (by simp;omega)
   have hA:mMth isL appendO (mVar 3) (mCons (mVar 4) mNil) [some (.ref kl),some (.str w),some (.ref fn),some (.ref q),some (.str x),some (.int (σ x))] Ω3=.ok .non (Ω3.set q (.lst ((line.take i).map .str++[.str x]))):=by
    rw[mth_at (x:=.ref q) (Ω':=Ω3) (by simp) (isL_ref hq3)]
    simp[hap,-List.map_take]
   have e:(sSeq (sIf (m2 (cmpO .NotEq) (mVar 5) (mCst (.int 0))) (sSeq (sRet (mN tupN (mCons (mN (bltO .tuple) (mCons (mVar 3) mNil)) (mCons (mVar 4) (mCons (mVar 5) mNil))))) sSkip) sSkip) (sSeq (sExp (mMth isL appendO (mVar 3) (mCons (mVar 4) mNil))) sSkip)) [some (.ref kl),some (.str w),some (.ref fn),some (.ref q),some (.str x),some (.int (σ x))] Ω3=.nx [some (.ref kl),some (.str w),some (.ref fn),some (.ref q),some (.str x),some (.int (σ x))] (Ω3.set q (.lst ((line.take i).map .str++[.str x]))):=by
    rw[hs]at hA ⊢
    simp[hA,-List.map_take]
   rw[e]
   have ht:line.take (i + 1)=line.take i++[x]:=by rw[List.take_succ,hx];rfl
   refine⟨_,_,rfl,fun y hy => ?_,?_,?_,K13.trans (Keep.set (by simp))⟩
   ·rcases take_mem hx hy with h | rfl
    ·exact hz y h
    ·exact hs
   ·rw[ht,List.map_append];exact get_set_eq hq3
   ·rw[ht,← List.append_assoc]
    exact A.stay _ _ _ [q] hI3 (Keep.set (by simp)) (by simpa using hb)
  ·have htu:=tuple_ref hq3
   have e:(sSeq (sIf (m2 (cmpO .NotEq) (mVar 5) (mCst (.int 0))) (sSeq (sRet (mN tupN (mCons (mN (bltO .tuple) (mCons (mVar 3) mNil)) (mCons (mVar 4) (mCons (mVar 5) mNil))))) sSkip) sSkip) (sSeq (sExp (mMth isL appendO (mVar 3) (mCons (mVar 4) mNil))) sSkip)) [some (.ref kl),some (.str w),some (.ref fn),some (.ref q),some (.str x),some (.int (σ x))] Ω3=.rt (.tup [.tup ((line.take i).map .str),.str x,.int (σ x)]) Ω3:=by
    simp[hs,htu,small_of,-List.map_take]
   rw[e]
   refine⟨Ω3,?_,?_,new K13⟩
   ·rw[sq_rt,finO_rt,pap_at hz hx hs];rfl
   ·rw[ask_at hz hx hs,← List.append_assoc];exact hI3
 ·rintro ρ Ω2 ⟨a4,a5,rfl,hz,hq2,hI2,K⟩
  rw[List.length_map]at hz hq2 hI2
  rw[List.take_length]at hz hq2 hI2
  have htu:=tuple_ref hq2
  refine⟨Ω2,?_,by rw[ask_all hz];exact hI2,new K⟩
  rw[sq_nx,pap_all hz]
  simp[htu,small_of]
noncomputable def cAlike(W:List D->Out Rs):SM:=
 (sSeq (sIf (mOr (mNot (m1 (isiO .tuple) (mVar 0))) (mOr (m2 (cmpO .NotEq) (mN (bltO .len) (mCons (mVar 0) mNil)) (mCst (.int 3))) (mNot (m1 (isiO .tuple) (m2 idxO (mVar 0) (mCst (.int 0)))))))
 (sSeq (sRet (mCst (.bl false)))
 sSkip)
 sSkip)
 (sSeq (sIf (mOr (mNot (mN (bltO .all) (mCons (mCpr (m1 (isiO .str) (mVar 0)) true (mCst .non) (mSrc (m2 idxO (mVar 0) (mCst (.int 0)))) 0 []) mNil))) (mNot (mN (viaN W) (mCons (m2 idxO (mVar 0) (mCst (.int 2))) mNil))))
 (sSeq (sRet (mCst (.bl false)))
 sSkip)
 sSkip)
 (sSeq (sIf (mAnd (m2 (cmpO .IsNot) (m2 idxO (mVar 0) (mCst (.int 1))) (mCst .non)) (mNot (m1 (isiO .str) (m2 idxO (mVar 0) (mCst (.int 1))))))
 (sSeq (sRet (mCst (.bl false)))
 sSkip)
 sSkip)
 (sSeq (sRet (m2 (cmpO .Eq) (mVar 0) (mVar 1)))
 sSkip))))
@[simp] theorem isi_tup{ty:Ty}{ds:List D}:isiO ty (.tup ds) Ω=.ok (.bl (ty == .tuple)) Ω:=rfl
@[simp] theorem isi_str{ty:Ty}{z:Str}:isiO ty (.str z) Ω=.ok (.bl (ty == .str)) Ω:=rfl
@[simp] theorem isi_non{ty:Ty}:isiO ty .non Ω=.ok (.bl false) Ω:=rfl
@[simp] theorem lenO_tup{ds:List D}:bltO .len [.tup ds] Ω=.ok (.int ds.length) Ω:=rfl
theorem ix0{a b c:D}:idxO (.tup [a,b,c]) (.int 0) Ω=.ok a Ω:=idxO_tup rfl
theorem ix1{a b c:D}:idxO (.tup [a,b,c]) (.int 1) Ω=.ok b Ω:=idxO_tup rfl
theorem ix2{a b c:D}:idxO (.tup [a,b,c]) (.int 2) Ω=.ok c Ω:=idxO_tup rfl
theorem rei_pap{n:Nat}{ps:List Str}{f:D}{v:Int}(hf:f=.non\/∃ x,f=.str x):rei Ω (n + 2) (.tup [.tup (ps.map .str),f,.int v])=some (.tup [.tup (ps.map .str),f,.int v]):=by
 refine rei_tup ?_
 have:=rei_tup (Ω:=Ω) (n:=n) (oa_strs (Ω:=Ω) (n:=n) (xs:=ps))
 rcases hf with rfl | ⟨x,rfl⟩<;>simp[this]
theorem eq_pap{ps:List Str}{f:D}{v:Int}(hf:f=.non\/∃ x,f=.str x):cmpD .Eq (.tup [.tup (ps.map .str),f,.int v]) (.tup [.tup (ps.map .str),f,.int v])=.ok true:=by
 have h1:=strs_ok 6 ps
 have h2:=eqs_str ps ps
 rcases hf with rfl | ⟨x,rfl⟩
 ·simp only[cmp_eq,ok_tup,List.all_cons,h1,ok_non,ok_int,List.all_nil,eq_tup,eqs_cons,h2]
  simp
  rfl
 ·simp only[cmp_eq,ok_tup,List.all_cons,h1,ok_str,ok_int,List.all_nil,eq_tup,eqs_cons,h2]
  simp
theorem alike_ok{W:List D->Out Rs}(hW:∀ v:Int,W [.int v]=.ok (false,.bl true))(line:List Str)(bl:line.length<=1000):∃ Ω',fnO 2 2 (cAlike W) [papD σ line [],papD σ line []] Ω=.ok (.bl true) Ω'/\Keep [] Ω Ω':=by
 have hlen:∀ (line acc:List Str) (ps:List Str) (f:D) (v:Int),papD σ line acc=.tup [.tup (ps.map .str),f,.int v]->ps.length<=acc.length + line.length:=by
  intro line
  induction line with
  | nil=>
   intro acc ps f v h
   simp only[papD]at h
   injection h with h;injection h with h _;injection h with h
   have:=congrArg List.length h
   simp at this ⊢;omega
  | cons x r ih=>
   intro acc ps f v h
   rw[papD]at h
   split at h
   ·have:=ih _ _ _ _ h
    simp at this ⊢;omega
   ·injection h with h;injection h with h _;injection h with h
    have:=congrArg List.length h
    simp at this ⊢;omega
 obtain⟨ps,f,v,e,hf⟩:=pap_form σ line []
 have hp:=hlen line [] ps f v e
 rw[e]
 clear hlen e
 rw[fnO_eq (by rfl)]
 have e0:entryO 2 [D.tup [.tup (ps.map .str),f,.int v],.tup [.tup (ps.map .str),f,.int v]]=[some (.tup [.tup (ps.map .str),f,.int v]),some (.tup [.tup (ps.map .str),f,.int v])]:=rfl
 rw[e0]
 have hc:=cpr_pure (Ω:=Ω) (Ω':=Ω) (ρ:=[some (.tup [.tup (ps.map .str),f,.int v]),some (.tup [.tup (ps.map .str),f,.int v])]) (me:=m1 (isiO .str) (mVar 0)) (nc:=true) (mc:=mCst .non) (mi:=mSrc (m2 idxO (mVar 0) (mCst (.int 0)))) (cap:=[]) (src:=.seq (.tup (ps.map .str))) (ds:=ps.map .str) (p:=fun _=>true) (g:=fun _=>.bl true)
  (by simp[ix0];rfl) rfl (fun d hd=>rfl) (fun d hd _=>by
   obtain⟨z,_,rfl⟩:=List.mem_map.mp hd
   rfl) (by simp at hp ⊢;omega)
 rw[List.filter_eq_self.mpr (by simp),List.map_map]at hc
 have g1:(Ω++[Cell.lst (ps.map fun _=>D.bl true)])[Ω.length]?=some (.lst (ps.map fun _=>D.bl true)):=get_new
 have K1:Keep [] Ω (Ω++[Cell.lst (ps.map fun _=>D.bl true)]):=Keep.app
 have hc:mCpr (m1 (isiO .str) (mVar 0)) true (mCst .non) (mSrc (m2 idxO (mVar 0) (mCst (.int 0)))) 0 [] [some (.tup [.tup (ps.map .str),f,.int v]),some (.tup [.tup (ps.map .str),f,.int v])] Ω=.ok (.ref Ω.length) (Ω++[Cell.lst (ps.map fun _=>D.bl true)]):=hc
 generalize Ω++[Cell.lst (ps.map fun _=>D.bl true)]=Ω1 at *
 have hr:rei Ω1 8 (.ref Ω.length)=some (.lst (ps.map fun _=>D.bl true)):=rei_ref g1 (oa_map (h:=fun _=>D.bl true) (fun _=>rei_bl) ps)
 have hall:bltO .all [.ref Ω.length] Ω1=.ok (.bl true) Ω1:=by
  have hb:blsD (ps.map fun _=>D.bl true)=some (ps.map fun _=>true):=bls_map (p:=fun _=>true)
  simp[bltO,bltV,hr,hb,blsR]
 have he:=eq_pap (ps:=ps) (v:=v) hf
 have hrr:=rei_pap (Ω:=Ω1) (n:=6) (ps:=ps) (v:=v) hf
 refine⟨Ω1,?_,K1⟩
 have hEq:cmpO .Eq (.tup [.tup (ps.map .str),f,.int v]) (.tup [.tup (ps.map .str),f,.int v]) Ω1=.ok (.bl true) Ω1:=by
  rw[cmpO_Eq,cmpV_eq,hrr,v2_some,he]
  rfl
 have h3:tstO (mAnd (m2 (cmpO .IsNot) (m2 idxO (mVar 0) (mCst (.int 1))) (mCst .non)) (mNot (m1 (isiO .str) (m2 idxO (mVar 0) (mCst (.int 1))))) [some (.tup [.tup (ps.map .str),f,.int v]),some (.tup [.tup (ps.map .str),f,.int v])] Ω1)=.ok false Ω1:=by
  rcases hf with rfl | ⟨x,rfl⟩
  ·simp[ix1]
  ·simp[ix1]
 simp[cAlike,ix0,ix1,ix2,hc,hall,hW,h3,hEq,-mAnd_eq,-cmpO_Eq]
end
end Mir
namespace Mir
open PySem L2
variable [CloTab]
section
variable{Ω Ω':Sto}{ρ:OEnv}
end
end Mir
namespace Mir
open PySem L2
variable [CloTab]
section
variable{Ω Ω':Sto}{ρ:OEnv}{σ:Str->Int}{kl fn b:Nat}{line ys:List Str}{w:Str}{M:List (List D->FnO)}{fp:List Nat}{I:List Str->Sto->Prop}
noncomputable def cFoundAll(M:List (List D->FnO)):SM:=
 (sSeq (sRet (mCpr (mVar 0) false (m2 (cmpO .NotEq) (mCallV M 1 (mCons (mVar 0) (mCons (mVar 2) mNil))) (mCst (.int 0))) (mSrc (mVar 0)) 0 [2,1]))
 sSkip)
theorem eq_strs{k j:Nat}{us vs:List Str}(h:Ω[k]?=some (.lst (us.map .str)))(h':Ω[j]?=some (.lst (vs.map .str))):cmpO .Eq (.ref k) (.ref j) Ω=.ok (.bl (decide (us=vs))) Ω:=by
 rw[cmpO_Eq,cmpV_eq,rei_strs (n:=7) h,rei_strs (n:=7) h',v2_some]
 have e:cmpD .Eq (L1 us) (L1 vs)=.ok (decide (us=vs)):=by
  rw[cmp_eq,ok_L1 7,ok_L1 7]
  show(if (true && true)=true then Out.ok (eqDs (us.map .str) (vs.map .str)) else .bad)=_
  rw[eqs_str];rfl
 rw[e]
 rfl
theorem ne_strs{k j:Nat}{us vs:List Str}(h:Ω[k]?=some (.lst (us.map .str)))(h':Ω[j]?=some (.lst (vs.map .str))):cmpO .NotEq (.ref k) (.ref j) Ω=.ok (.bl (!decide (us=vs))) Ω:=by
 rw[cmpO_Ne,cmpV_eq,rei_strs (n:=7) h,rei_strs (n:=7) h',v2_some]
 have e:cmpD .NotEq (L1 us) (L1 vs)=.ok (!decide (us=vs)):=by
  rw[cmp_ne,ok_L1 7,ok_L1 7]
  show(if (true && true)=true then Out.ok (!eqDs (us.map .str) (vs.map .str)) else .bad)=_
  rw[eqs_str];rfl
 rw[e]
 rfl
theorem slc_lo{i:Nat}{us:List Str}(h:Ω[kl]?=some (.lst (us.map .str))):slcO (.ref kl) (some (i:Int)) none Ω=.ok (.ref Ω.length) (Ω++[.lst ((us.drop i).map .str)]):=by
 simp only[slcO,lst_ref h,newC_eq,cut_lo,List.map_drop]
end
end Mir
namespace Mir
open PySem L2
variable [CloTab]
section
variable{Ω Ω':Sto}{ρ:OEnv}{σ:Str->Int}{kl fn kt:Nat}{line ps:List Str}{w:Str}{M:List (List D->FnO)}{kvs:List (List Key×D)}{f:D}{v:Int}
noncomputable def dS:SM:=(sSeq (sRet (m2 idxO (mVar 2) (mN tupN (mCons (mVar 0) (mCons (mVar 1) mNil))))) sSkip)
structure Tells(M:List (List D->FnO))(fn kt:Nat)(w:Str)(σ:Str->Int)(line:List Str)(Ω:Sto):Prop where
 ex:∃ j kvs,M[j]?=some (cloO 2 dS)/\Ω[fn]?=some (.fn j [.ref kt])/\Ω[kt]?=some (.dT kvs)/\StAt kvs w line σ
theorem Tells.keep(T:Tells M fn kt w σ line Ω)(K:Keep [] Ω Ω'):Tells M fn kt w σ line Ω':=by
 obtain⟨j,kvs,h1,h2,h3,h4⟩:=T.ex
 exact⟨j,kvs,h1,K.get _ _ h2 (by simp),K.get _ _ h3 (by simp),h4⟩
theorem callT(T:Tells M fn kt w σ line Ω){i:Nat}{x:Str}{as:AM}(hρ:ρ[i]?=some (some (.ref fn)))(hx:x∈line)(ha:as ρ Ω=.ok [.str x,.str w] Ω):mCallV M i as ρ Ω=.ok (.int (σ x)) Ω:=by
 obtain⟨j,kvs,h1,h2,h3,h4⟩:=T.ex
 rw[callV_at (j:=j) (caps:=[.ref kt]) hρ (isFn_at h2),ha,ob_ok,cvF_at h2 h1]
 obtain⟨_,_,hv⟩:=h4 x hx
 have hit:=idx_tt h3 hv
 have:cloO 2 dS [.ref kt] [.str x,.str w] Ω=.ok (.int (σ x)) Ω:=by
  show finO (dS [some (.str x),some (.str w),some (.ref kt)] Ω)=_
  simp[dS,small_of,hit]
 rw[this]
 rfl
end
end Mir
set_option maxHeartbeats 800000
namespace Mir
open PySem PySem.Spec PyProof.Rows L2
variable [CloTab]
noncomputable def rbSp(κ:Str->Addr->Prop)(mt:EM)(n i l:Nat)(C:Addr)(fld:Str):Sp:=fun vs H Q E=>∃ α Z Ω ds x,StO κ α Z Ω H/\All2 (RepO α Z H) ds vs/\ds.length=l/\(entryO n ds)[i]?=some (some (.str x))/\tstO (mt (entryO n ds) Ω)=.ok true Ω /\
 ∀ H' α' Z' dd,GrO α Z H α' Z' H'->StO κ α' Z' Ω H'->H' dd=none->E (.ref C) (some dd) (upd H' dd (.xd [(fld,.str x)]))
section
variable{P:Program}{w:World}{K:PySem.W.Frag}{mg:Str->Option Value}{base:Heap}{T:TabO}{k:Nat}
theorem ps_no{X:Cx}{st:Stmt}:PS X st (fun _ _ _=>False):=fun _ _ _ _ _ _ h=>h.elim
theorem rb_ok(W:WldO P w K mg base T k){x qual qual' sn cn fld sf pn:Str}{st stI last:Stmt}{f c C N0 fI:Addr}{fd fdI:FuncData}(F:Fun K x qual st f fd){N ps:List Str}(hs:fnScB N ps (defScope st)=true)
    {tst ve:Expr} {np snp cpos rp ifp:Pos} (hbd:defBody st=[.If tst [.Raise (some (.Call (.Name cn np) [.Name sn snp] [] cpos)) none rp] [] ifp,last]) {mt:EM} (ht:trX T 60 (defScope st) N tst=some mt)
    {i:Nat} (hi:N[i]?=some sn) (hv:Vis (defScope st) sn) (hd1:(sn == ("__debug__":Str))=false) (hd2:(sn == ("__classdict__":Str))=false) (hgc:(defScope st).names.lookup cn=some .globalImplicit) (hcd:(cn == ("__debug__":Str))=false) (hmc:mg cn=some (.ref C))
    (D:XDef K mg C N0 fI c fdI stI qual' fld sf pn ve)
    (hve:∀ (z:Str) (α:List Addr) (Z:Addr->Prop) (Ω:Sto) (H1:Hp),StO (κof mg) α Z Ω H1->∀ (A':Around) (ot:List Env) (s':Shared) (e:Addr) (E':XK),Room k (A'.deeper (envOfC qual' (defScope stI) s'.heap.objs.size fI (.ref c))) ->
      ∃ tv,PE ((cxOf CX0 P w K mg base [sf,pn] qual' (defScope stI) fI (.ref c) A' ot s' H1 E').nox.mk1 e) ve tv/\∀ Q:VK,(∀ H2 α2 Z2,GrO α Z H1 α2 Z2 H2->StO (κof mg) α2 Z2 Ω H2->Q (.str z) H2)->tv (start [sf,pn] [.ref e,.str z]) H1 Q) :
    FnOk P w K mg base (CXe P w) (k + 3) f fd ps (rbSp (κof mg) mt N.length i ps.length C fld):=by
  obtain⟨oc,od,kV,doc,pm,an,cdv,ct,osl,rfl,lk,hcd'⟩:=F.ex
  have Sc:=fnSc_ok hs
  refine fn_of lk hcd' Sc (fun vs H Q E h => ?_) fun A outer s H vs Q E hr h => ?_
  · obtain⟨α,Z,Ω,ds,z,S,r,hl,_⟩:=h
    rw[r.length];exact hl
  · obtain⟨α,Z,Ω,ds,z,S,r,hl,hz,htt,hE⟩:=h
    have G:GoodO (cxOf (CXe P w) P w K mg base N qual (defScope st) f cdv A outer s H E) (κof mg) T k (defScope st) N:=
      { scope:=rfl,names:=rfl,calm:=rfl,room:=hr.mono (by omega),blts:=W.blts,fld:=W.fld,cst:=W.cst
        pfn:=fun x F h=>⟨W.pfn x F h⟩,fn:=fun x F h=>⟨W.fn x F h⟩,met:=fun m C F h=>⟨W.met m C F h⟩,cls:=fun C F h=>let ⟨j,h1,h2⟩:=W.cls C F h;⟨j,h1,⟨h2⟩⟩,clo:=W.clo }
    have hT:=(trX_ok 60 _ (defScope st) N tst mt G ht).2.1 Φ0 α Z H (entryO N.length ds) Ω
    have S0:SimO (κof mg) α Z H α Z Ω (entryO N.length ds) (start N vs) H:=simO_entry S r
    obtain⟨v0,hσ,rv0⟩:=S0.val i _ hz
    have hv0:v0=.str z:=by simp only[RepO]at rv0;exact rv0
    subst hv0
    have hR:=ps_raise (E:=E) (pos:=rp) (cpos:=cpos) (np:=np) (te:=tVar i) (k:=k) (Arg:=fun v H1=>v=.str z/\∃ α1 Z1,GrO α Z H α1 Z1 H1/\StO (κof mg) α1 Z1 Ω H1) (Post:=fun _ H1 v H2=>v=.str z/\∃ α2 Z2,GrO α Z H α2 Z2 H2/\StO (κof mg) α2 Z2 Ω H2)
      (P:=P) (w:=w) (base:=base) (N:=N) (qual:=qual) (scope:=defScope st) (f:=f) (cd:=cdv) (A:=A) (outer:=outer) (s0:=s) (H0:=H) D hr hgc hmc (pe_var (pos:=snp) hi hv hd1 hd2) (fun v0 H1 hA A' ot s' e E' hr' => ?_) rfl hcd
    · rw[hbd]
      refine⟨_,pss_cons (ps_if hT (pss_one hR) pss_nil) (pss_one ps_no),α,Z,S0,?_⟩
      rw[htt]
      intro H1 α1 Z1 g1 s1
      rw[if_pos rfl]
      refine⟨.str z,hσ,⟨rfl,α1,Z1,g1,s1⟩,?_⟩
      rintro v H2 dd ⟨rfl,α2,Z2,g2,s2⟩ hdd
      exact hE H2 α2 Z2 dd g2 s2 hdd
    · obtain⟨rfl,α1,Z1,g1,s1⟩:=hA
      obtain⟨tv,h1,h2⟩:=hve z α1 Z1 Ω H1 s1 A' ot s' e E' hr'
      exact⟨tv,h1,h2 _ fun H2 α2 Z2 g2 s2=>⟨rfl,α2,Z2,g1.trans g2,s2⟩⟩
end
end Mir
set_option maxHeartbeats 800000
namespace Mir
open PySem PySem.Spec PyProof.Rows L2
variable [CloTab]
section
variable{P:Program}{w:World}{K:PySem.W.Frag}{mg:Str->Option Value}{base:Heap}{k:Nat}
theorem oc_ve{Ooc:FnO}{on sf pn qual':Str}{stI:Stmt}{foc fI c:Addr}{fdo:FuncData}{ps:List Str}{p q cpos:Pos}{tk:Tok}(Fo:FnOk P w K mg base CX0 k foc fdo ps (objSp (κof mg) Ooc))(hO:∀ (z:Str) (Ω:Sto),Ooc [.str z,.int 0] Ω=.ok (.str z) Ω)(hb:Binds K fdo ps [.int 0 tk])
  (hm:mg on=some (.ref foc)) (hk:PySem.W.keepIn K (.ref foc)=true) (hg:(defScope stI).names.lookup on=some .globalImplicit) (hp:Vis (defScope stI) pn) (hdo:(on == ("__debug__":Str))=false) (hd1:(pn == ("__debug__":Str))=false) (hd2:(pn == ("__classdict__":Str))=false) :
  ∀ (z:Str) (α:List Addr) (Z:Addr->Prop) (Ω:Sto) (H1:Hp),StO (κof mg) α Z Ω H1->∀ (A':Around) (ot:List Env) (s':Shared) (e:Addr) (E':XK),Room k (A'.deeper (envOfC qual' (defScope stI) s'.heap.objs.size fI (.ref c))) ->
   ∃ tv,PE ((cxOf CX0 P w K mg base [sf,pn] qual' (defScope stI) fI (.ref c) A' ot s' H1 E').nox.mk1 e) (.Call (.Name on p) [.Name pn q] [] cpos) tv/\∀ Q:VK,(∀ H2 α2 Z2,GrO α Z H1 α2 Z2 H2->StO (κof mg) α2 Z2 Ω H2->Q (.str z) H2)->tv (start [sf,pn] [.ref e,.str z]) H1 Q:=by
 intro z α Z Ω H1 S A' ot s' e E' hr
 refine⟨_,pe_call (X:=(cxOf CX0 P w K mg base [sf,pn] qual' (defScope stI) fI (.ref c) A' ot s' H1 E').nox.mk1 e) Fo hr hg hm hk hb (dvs:=[.int 0]) (.cons ⟨tk,rfl⟩ .nil) pass0 (pa_cons (pe_var (i:=1) (pos:=q) rfl hp hd1 hd2) pa_nil) hdo,fun Q hQ => ?_⟩
 refine⟨.str z,rfl,?_⟩
 refine⟨α,Z,Ω,[.str z,.int 0],S,.cons (by simp only[RepO]) (.one (by simp only[RepO])),?_⟩
 rw[hO]
 intro v H' α' Z' g s r
 have:v=.str z:=by simp only[RepO]at r;exact r
 subst this
 exact hQ H' α' Z' g s
end
end Mir
set_option maxHeartbeats 800000
namespace Mir
open PySem PySem.Spec PyProof.Rows L2
variable [CloTab]
open Classical in
noncomputable def refO(mt:EM)(n i:Nat):FnO:=fun ds Ω=>if ds.length=2/\(∃ x,(entryO n ds)[i]?=some (some (.str x))/\ds[1]?=some (.str x))/\tstO (mt (entryO n ds) Ω)=.ok true Ω then .ok (.bl true) Ω else .bad
section
variable{P:Program}{w:World}{K:PySem.W.Frag}{mg:Str->Option Value}{base:Heap}{k:Nat}
structure XSui(K:PySem.W.Frag)(mg:Str->Option Value)(sc:Scope)(C:Addr)(en sn fld:Str)(suite:List Stmt):Prop where
 ex:∃ (vn cn:Str) (ns:List (Str×Pos)) (cs:List Value) (vv:Value) (x1:Nat) (jx:Nat) (p1 q1 r1 s1 p2 q2 r2 s2 p3 q3 r3 s3 q4 s4 q5 s5 b1 b2 b3 c1 c2 i1 r4:Pos),
  suite=[.If (.BoolOp .Or [.UnaryOp .Not (.Call (.Name "isinstance" p1) [.Name en q1,.Name vn r1] [] s1) b1,.Call (.Name "isinstance" p2) [.Name en q2,.Tuple (ns.map fun z=>.Name z.1 z.2) x1 r2] [] s2] b2) [.Return (some (.Constant (.bool false) jx c1)) c2] [] i1,
    .Return (some (.BoolOp .And [.Call (.Name "isinstance" p3) [.Name en q3,.Name cn r3] [] s3,.Compare (.Attribute (.Name en q4) fld s4) [.Eq] [.Name sn q5] s5] b3)) r4] /\
  (∀ X:Cx,X.env.scope=sc->X.mg=mg->NameIs X (vn,r1) vv/\Names X ns cs/\NameIs X (cn,r3) (.ref C))/\cs.length<=100 /\
  PySem.W.kitOne K (.ref C) vv=some true/\PySem.W.kitAny K (.ref C) cs=some false/\PySem.W.kitOne K (.ref C) (.ref C)=some true
theorem rf_ok{x qual ln sn en rn bn fld:Str}{st last:Stmt}{f c frb C N0 fI B0:Addr}{fd fdr:FuncData}{psr:List Str}{mt:EM}{n i:Nat}(F:Fun K x qual st f fd)(hcv:fd.code=.ref c)(S:FnScope [ln,sn,en] [ln,sn] (defScope st))
  (Fr:FnOk P w K mg base (CXe P w) k frb fdr psr (rbSp (κof mg) mt n i 2 C fld)) (hbr:Binds K fdr psr []) (hmr:mg rn=some (.ref frb)) (hkr:PySem.W.keepIn K (.ref frb)=true)
  {suite:List Stmt} {b0:Stmt} {p l1 l2 cpos epos hp hpos pos:Pos} (hbd:defBody st=[.Try [.Expr (.Call (.Name rn p) [.Name ln l1,.Name sn l2] [] cpos) epos] [.ExceptHandler (some (.Name bn hp)) (some en) (b0::suite) hpos] [] [] pos,last])
  (T:XCls K C N0 fI) (is:XIs K C) (na:NoAttr K C fld) (U:XSui K mg (defScope st) C en sn fld (b0::suite)) (hmb:mg bn=some (.ref B0)) (hex:PySem.W.exmOne K (.ref C) (.ref B0)=some true) (hmi:mg "isinstance"=none)
  (sl:(defScope st).names.lookup ln=some .local) (ss:(defScope st).names.lookup sn=some .local) (se:(defScope st).names.lookup en=some .local) (sr:(defScope st).names.lookup rn=some .globalImplicit) (sb:(defScope st).names.lookup bn=some .globalImplicit) (si:(defScope st).names.lookup ("isinstance":Str)=some .globalImplicit)
  (hsw:∀ env,swapsWith (.Call (.Name rn p) [.Name ln l1,.Name sn l2] [] cpos) none epos.line env=pure false)
  (d1:(ln == ("__debug__":Str))=false) (d2:(ln == ("__classdict__":Str))=false) (d3:(sn == ("__debug__":Str))=false) (d4:(sn == ("__classdict__":Str))=false) (d5:(en == ("__debug__":Str))=false) (d6:(en == ("__classdict__":Str))=false) (d7:(bn == ("__debug__":Str))=false) (d8:(rn == ("__debug__":Str))=false) :
  FnOk P w K mg base CX0 (k + 1) f fd [ln,sn] (objSp (κof mg) (refO mt n i)):=by
 refine F.okW hcv S (fun vs H Q E h => ?_) fun A outer s s1 H vs Q E hr h I => ?_
 ·obtain⟨α,Z,Ω,ds,S,r,g⟩:=h
  rw[r.length]
  unfold refO at g
  split at g
  ·rename_i hh;exact hh.1
  ·exact g.elim
 ·obtain⟨α,Z,Ω,ds,S0,r,g⟩:=h
  unfold refO at g
  split at g
  ·rename_i hh
   obtain⟨hl,⟨z,hz,hz1⟩,htt⟩:=hh
   have h2:∃ d0 d1,ds=[d0,d1]:=by
    match ds,hl with
    | [a,b],_=>exact⟨a,b,rfl⟩
   obtain⟨d0,d1,rfl⟩:=h2
   have hd:d1=.str z:=by simpa using hz1
   subst hd
   obtain⟨v0,v1,rfl,r0,r1'⟩:=two_inv r
   have hv1:v1=.str z:=by simp only[RepO]at r1';exact r1'
   subst hv1
   rw[hbd]
   obtain⟨vn,cn,ns,cs,vv,x1,jx,p1,q1,r1,s1',p2,q2,r2,s2,p3,q3,r3,s3,q4,s4,q5,s5,b1,b2,b3,c1,c2,i1,r4,hsu,hnm,hz100,k1,k2,k3⟩:=U.ex
   refine wpAny_execs_cons (try_x (X:=(cxOf CX0 P w K mg base [ln,sn,en] qual (defScope st) f (.ref c) A outer s H E).nox) (i:=2) (C:=C) (Flds:=fun fs=>fs=[(fld,.str z)]) (Rest:=fun H''=>∃ H' α' Z' dd,H''=upd H' dd (.xd [(fld,.str z)])/\GrO α Z H α' Z' H'/\StO (κof mg) α' Z' Ω H'/\H' dd=none)
    I (fun _ _ z=>z) Fr hr hbr sr hmr hkr (pa_cons (pe_var (i:=0) (pos:=l1) rfl (.inl sl) d1 d2) (pa_cons (pe_var (i:=1) (pos:=l2) rfl (.inl ss) d3 d4) pa_nil)) ?_ rfl rfl sb hmb hex S.nd rfl se ?_ rfl rfl (hsw _) d7 d8)
   ·refine⟨v0,rfl,.str z,rfl,?_⟩
    exact⟨α,Z,Ω,_,z,S0,r,hl,hz,htt,fun H' α' Z' dd g1 s1 hdd=>⟨rfl,dd,_,rfl,upd_same,rfl,H',α',Z',dd,rfl,g1,s1,hdd⟩⟩
   ·intro e d fs oe H' s4' hxd hfl hre e1 e2 e3 J4
    subst hfl
    have J5:=J4.pn1
    have cau:Cau ((((cxOf CX0 P w K mg base [ln,sn,en] qual (defScope st) f (.ref c) A outer s H E).nox.mkd e)).pn1 e oe) e C oe d N0 fI:=⟨by simp[Cx.pn1],e1,e2,e3,T,is⟩
    obtain⟨n1,n2,n3⟩:=hnm ((((cxOf CX0 P w K mg base [ln,sn,en] qual (defScope st) f (.ref c) A outer s H E).nox.mkd e)).pn1 e oe) rfl rfl
    obtain⟨t,ht,hq⟩:=suite_x (i:=2) (j:=1) (x1:=x1) (jx:=jx) (p1:=p1) (q1:=q1) (s1:=s1') (p2:=p2) (q2:=q2) (r2:=r2) (s2:=s2) (p3:=p3) (q3:=q3) (s3:=s3) (q4:=q4) (s4:=s4) (q5:=q5) (s5:=s5) (b1:=b1) (b2:=b2) (b3:=b3) (c1:=c1) (c2:=c2) (i1:=i1) (r4:=r4) cau na rfl (.inl se) rfl (.inl ss) si hmi n1 k1 n2 hz100 k2 n3 k3 d5 d6 d3 d4
    rw[← hsu]at ht
    have hrun:=ht [] s4' _ H' { nx:=fun _ _=>False,rt:=fun v Hf=>v=.bl true/\Hf=H' } J5 (hq _ _ H' z [(fld,.str z)] rfl rfl hxd (by simp[List.lookup]) ⟨rfl,rfl⟩)
    refine wpAny_mono hrun (fun fl s5' hs => ?_) (fun _ _ z=>z)
    cases fl with
    | ret u=>
     obtain⟨v,σ5,H5,J,rv,rfl,rfl⟩:=hs
     refine⟨σ5,H5,J.unpn1,fun s6 J6 => ?_⟩
     obtain⟨H',α',Z',dd,rfl,g1,s1,hdd⟩:=hre
     obtain⟨a1,a2⟩:=s1.laidZ (p:=dd) (o:=.xd [(fld,.str z)]) hdd False
     exact⟨[],.bl true,u,_,_,.inl rfl,by rw[Cx.fz_nil];exact J6,rv,g _ _ _ _ (g1.trans a2) a1 (by simp only[RepO])⟩
    | next=>obtain⟨_,_,_,z⟩:=hs;exact z.elim
    | brk=>obtain⟨_,_,_,z⟩:=hs;exact z.elim
    | cont=>obtain⟨_,_,_,z⟩:=hs;exact z.elim
  ·exact g.elim
end
end Mir
set_option maxHeartbeats 800000
namespace Mir
open PySem PySem.Spec PyProof.Rows L2
variable [CloTab]
structure FunD(K:PySem.W.Frag)(x qual:Str)(st:Stmt)(dV:Value)(f:Addr)(fd:FuncData):Prop where
 ex:∃ (oc:Value) (od:Option Addr) (kV doc pm:Value) (an:Option Addr) (cdv ct:Value) (osl:Array (Option Value)),
  fd=PySem.W.fnOf x qual (defArgs st) (defBody st) (defScope st) dV kV doc pm an cdv ct/\K.lookup f=some ⟨oc,od,.func fd,osl⟩/\PySem.W.codeIn K cdv qual=true
 kp:PySem.W.keepIn K (.ref f)=true
section
variable{P:Program}{w:World}{K:PySem.W.Frag}{mg:Str->Option Value}{base:Heap}{T:TabO}{k:Nat}
theorem def_okD(W:WldO P w K mg base T k){x qual:Str}{st:Stmt}{dV:Value}{f:Addr}{fd:FuncData}(F:FunD K x qual st dV f fd){N ps td:List Str}{c:SM}(hs:fnScB N ps (defScope st)=true)(hc:codeX T td st N=some c) :
    FnOk P w K mg base CX0 (k + 1) f fd ps (objSp (κof mg) (fnO N.length ps.length c)):=by
  obtain⟨oc,od,kV,doc,pm,an,cdv,ct,osl,rfl,lk,hcd⟩:=F.ex
  have Sc:=fnSc_ok hs
  refine fn_of lk hcd Sc (fun vs H Q E h => ?_) fun A outer s H vs Q E hr h => ?_
  · obtain⟨α,Z,Ω,ds,S,r,g⟩:=h
    rw[r.length]
    unfold fnO at g
    split at g
    · rename_i hl;exact hl
    · exact g.elim
  · obtain⟨α,Z,Ω,ds,S,r,g⟩:=h
    have G:GoodSO (cxOf CX0 P w K mg base N qual (defScope st) f cdv A outer s H E).nox (κof mg) T k (defScope st) N:=
      { scope:=rfl,names:=rfl,calm:=rfl,room:=hr,blts:=W.blts,own:=PassesOwn.never,fnn:=fun _ _ _=>.inl rfl,nod:=Sc.nd,kind:=Sc.kind,nox:=fun _ _ _ h=>h,fld:=W.fld,cst:=W.cst
        pfn:=fun x F h=>⟨W.pfn x F h⟩,fn:=fun x F h=>⟨W.fn x F h⟩,met:=fun m C F h=>⟨W.met m C F h⟩,cls:=fun C F h=>let ⟨j,h1,h2⟩:=W.cls C F h;⟨j,h1,⟨h2⟩⟩,clo:=W.clo }
    refine⟨tSO (κof mg) Φ0 α Z H c (entryO N.length ds) Ω,(trSsO_ok (trSx_ok G 30 60) hc α Z H (entryO N.length ds) Ω).nox,α,Z,simO_entry S r,?_⟩
    unfold fnO at g
    split at g
    · cases q:c (entryO N.length ds) Ω with
      | rt d Ω'=>rw[q]at g;exact fun v H' α' Z' gr st r=>g v H' α' Z' gr st r
      | nx ρ Ω'=>rw[q]at g;exact fun σ H' α' Z' S'=>g .non H' α' Z' S'.gr S'.st (repO_flat rfl)
      | bk ρ Ω'=>rw[q]at g;exact g.elim
      | ct ρ Ω'=>rw[q]at g;exact g.elim
      | exc x Ω'=>rw[q]at g;exact g
      | bad=>rw[q]at g;exact g.elim
    · exact g.elim
end
end Mir
namespace Mir
open PySem L2
variable [CloTab]
section
variable{Ω Ω':Sto}{ρ:OEnv}{kl j:Nat}{line us vs:List Str}{x:Str}
noncomputable def cRest:SM:=
 (sSeq (sIf (m2 (cmpO .NotIn) (mVar 1) (mVar 0))
 (sSeq sNever
 sSkip)
 sSkip)
 (sSeq (sRet (mSlc (mVar 0) false (m2 (binO .Add) (mMth isL indexO (mVar 0) (mCons (mVar 1) mNil)) (mCst (.int 1))) true (mCst .non)))
 sSkip))
theorem rest_ok(hl:Ω[kl]?=some (.lst (line.map .str)))(hx:x∈line):fnO 2 2 cRest [.ref kl,.str x] Ω=.ok (.ref Ω.length) (Ω++[.lst ((line.drop (line.idxOf x + 1)).map .str)]):=by
 rw[fnO_eq (by rfl)]
 show finO (cRest [some (.ref kl),some (.str x)] Ω)=_
 have h1:=nin_ref (w:=x) hl
 rw[decide_eq_true hx]at h1
 have h2:=index_ref hl hx
 have h3:=slc_lo (i:=line.idxOf x + 1) hl
 rw[show((line.idxOf x + 1:Nat):Int)=(line.idxOf x:Int) + 1 by omega]at h3
 have m1:mMth isL indexO (mVar 0) (mCons (mVar 1) mNil) [some (.ref kl),some (.str x)] Ω=.ok (.int (line.idxOf x:Nat)) Ω:=by
  rw[mth_at (x:=.ref kl) (Ω':=Ω) rfl (isL_ref hl)]
  simp[h2]
 have m2':tstO (m2 (cmpO .NotIn) (mVar 1) (mVar 0) [some (.ref kl),some (.str x)] Ω)=.ok false Ω:=by
  rw[m2_eq]
  have a1:mVar 1 [some (.ref kl),some (.str x)] Ω=.ok (.str x) Ω:=rfl
  have a2:mVar 0 [some (.ref kl),some (.str x)] Ω=.ok (.ref kl) Ω:=rfl
  rw[a1,ob_ok,a2,ob_ok,h1]
  rfl
 unfold cRest
 rw[sSeq_eq,sIf_eq,m2',lo_ok,if_neg (by simp),sSkip_eq,sq_nx]
 simp[m1,h3,-List.map_drop]
noncomputable def cList:SM:=
 (sSeq (sRet (mAnd (m1 (isiO .list) (mVar 0)) (mAnd (mN (bltO .all) (mCons (mCpr (m1 (isiO .str) (mVar 0)) true (mCst .non) (mSrc (mVar 0)) 0 []) mNil)) (m2 (cmpO .Eq) (mVar 0) (mVar 1)))))
 sSkip)
theorem list_ok(h1:Ω[kl]?=some (.lst (us.map .str)))(h2:Ω[j]?=some (.lst (vs.map .str)))(hl:us.length<=1000) :
  ∃ Ω',fnO 2 2 cList [.ref kl,.ref j] Ω=.ok (.bl (decide (us=vs))) Ω'/\Keep [] Ω Ω':=by
 rw[fnO_eq (by rfl)]
 have e0:entryO 2 [D.ref kl,.ref j]=[some (.ref kl),some (.ref j)]:=rfl
 rw[e0]
 have hsr:mSrc (mVar 0) [some (.ref kl),some (.ref j)] Ω=.ok (.seq (.ref kl)) Ω:=by
  simp[srcOf_seq (x:=.ref kl) (by rw[seq_ref,lst_ref h1])]
 have hc:=cpr_pure (me:=m1 (isiO .str) (mVar 0)) (nc:=true) (mc:=mCst .non) (cap:=[]) (ds:=us.map .str) (p:=fun _=>true) (g:=fun _=>.bl true) hsr (by rw[src_seq,seq_ref,lst_ref h1]) (fun d hd=>rfl) (fun d hd _=>by
  obtain⟨z,_,rfl⟩:=List.mem_map.mp hd
  rfl) (by simp;omega)
 rw[List.filter_eq_self.mpr (by simp),List.map_map]at hc
 have g1:(Ω++[Cell.lst (us.map fun _=>D.bl true)])[Ω.length]?=some (.lst (us.map fun _=>D.bl true)):=get_new
 have K1:Keep [] Ω (Ω++[Cell.lst (us.map fun _=>D.bl true)]):=Keep.app
 have hc:mCpr (m1 (isiO .str) (mVar 0)) true (mCst .non) (mSrc (mVar 0)) 0 [] [some (.ref kl),some (.ref j)] Ω=.ok (.ref Ω.length) (Ω++[Cell.lst (us.map fun _=>D.bl true)]):=hc
 generalize Ω++[Cell.lst (us.map fun _=>D.bl true)]=Ω1 at *
 have hr:rei Ω1 8 (.ref Ω.length)=some (.lst (us.map fun _=>D.bl true)):=rei_ref g1 (oa_map (h:=fun _=>D.bl true) (fun _=>rei_bl) us)
 have hall:bltO .all [.ref Ω.length] Ω1=.ok (.bl true) Ω1:=by
  have hb:blsD (us.map fun _=>D.bl true)=some (us.map fun _=>true):=bls_map (p:=fun _=>true)
  simp[bltO,bltV,hr,hb,blsR]
 have he:=eq_strs (K1.get _ _ h1 (by simp)) (K1.get _ _ h2 (by simp))
 have hi:isiO .list (.ref kl) Ω=.ok (.bl true) Ω:=by
  unfold isiO
  rw[alt1_eq]
  simp only[isiS,h1]
  rfl
 refine⟨Ω1,?_,K1⟩
 simp[cList,hi,hc,hall,he,-cmpO_Eq]
end
end Mir
namespace Mir
open PySem L2
variable [CloTab]
section
variable{Ω Ω':Sto}{kl:Nat}{line:List Str}
noncomputable def bhI(L R:FnO)(m:EM):SM:=(sIf (mOr (mNot (mN (callO L) (mCons m (mCons (mSlc (mVar 0) false (m2 (binO .Add) (mVar 1) (mCst (.int 1))) true (mCst .non)) mNil)))) (m2 (cmpO .NotEq) (mVar 2) (mVar 0)))
 (sSeq (sRet (mCst (.bl false)))
 sSkip)
 sSkip)
noncomputable def bhR(R:FnO):EM:=mN (callO R) (mCons (mVar 2) (mCons (m2 idxO (mVar 0) (mVar 1)) mNil))
noncomputable def bhB(L R:FnO):SM:=(sSeq (sAsg 2 (mN (bltO .list) (mCons (mVar 0) mNil)))
 (sSeq (sAsg 3 (bhR R))
 (sSeq (bhI L R (mVar 3))
 (sSeq (sExp (mMth isL appendO (mVar 3) (mCons (m2 idxO (mVar 0) (mVar 1)) mNil)))
 (sSeq (bhI L R (bhR R))
 sSkip)))))
noncomputable def cBehind(L R:FnO):SM:=
 (sSeq (sFor (putO1 1) (mRng1 (mCons (mN (bltO .len) (mCons (mVar 0) mNil)) mNil)) (bhB L R))
 (sSeq (sRet (mCst (.bl true)))
 sSkip))
noncomputable abbrev EB(kl i:Nat)(a2 a3:Option D):OEnv:=[some (.ref kl),some (.int i),a2,a3]
theorem bhI_ok{m:EM}{i h k:Nat}{a3:Option D}{R:FnO}(hl:Ω[kl]?=some (.lst (line.map .str)))(hh:Ω[h]?=some (.lst (line.map .str)))(bl:line.length<=50)(e:m (EB kl i (some (.ref h)) a3) Ω=.ok (.ref k) Ω')(K:Keep [] Ω Ω')(hk:Ω'[k]?=some (.lst ((line.drop (i + 1)).map .str))) :
  ∃ Ω2,bhI (fnO 2 2 cList) R m (EB kl i (some (.ref h)) a3) Ω=.nx (EB kl i (some (.ref h)) a3) Ω2/\Keep [] Ω Ω2:=by
 have hl1:=K.get _ _ hl (by simp)
 have hs:=slc_lo (i:=i + 1) hl1
 rw[show((i + 1:Nat):Int)=(i:Int) + 1 by omega]at hs
 have g1:(Ω'++[Cell.lst ((line.drop (i + 1)).map .str)])[Ω'.length]?=some (.lst ((line.drop (i + 1)).map .str)):=get_new
 have g2:(Ω'++[Cell.lst ((line.drop (i + 1)).map .str)])[k]?=some (.lst ((line.drop (i + 1)).map .str)):=get_app hk
 have K1:Keep [] Ω' (Ω'++[Cell.lst ((line.drop (i + 1)).map .str)]):=Keep.app
 generalize Ω'++[Cell.lst ((line.drop (i + 1)).map .str)]=Ω1 at *
 obtain⟨Ω2,e2,K2⟩:=list_ok g2 g1 (by simp;omega)
 rw[decide_eq_true rfl]at e2
 have Kt:=(K.trans K1).trans K2
 have hn:=ne_strs (Kt.get _ _ hh (by simp)) (Kt.get _ _ hl (by simp))
 rw[decide_eq_true rfl]at hn
 generalize fnO 2 2 cList=L at *
 refine⟨Ω2,?_,Kt⟩
 have m2':mSlc (mVar 0) false (m2 (binO .Add) (mVar 1) (mCst (.int 1))) true (mCst .non) (EB kl i (some (.ref h)) a3) Ω'=.ok (.ref Ω'.length) Ω1:=by simp[hs]
 have m3:mN (callO L) (mCons m (mCons (mSlc (mVar 0) false (m2 (binO .Add) (mVar 1) (mCst (.int 1))) true (mCst .non)) mNil)) (EB kl i (some (.ref h)) a3) Ω=.ok (.bl true) Ω2:=by
  simp only[mN_eq,mCons_eq,e,ob_ok,m2',mNil_eq,callO_eq,e2,okO_ok]
 have m4:m2 (cmpO .NotEq) (mVar 2) (mVar 0) (EB kl i (some (.ref h)) a3) Ω2=.ok (.bl false) Ω2:=by
  simp[hn,-cmpO_Ne]
 unfold bhI
 rw[sIf_eq]
 have ht:tstO (mOr (mNot (mN (callO L) (mCons m (mCons (mSlc (mVar 0) false (m2 (binO .Add) (mVar 1) (mCst (.int 1))) true (mCst .non)) mNil)))) (m2 (cmpO .NotEq) (mVar 2) (mVar 0)) (EB kl i (some (.ref h)) a3) Ω)=.ok false Ω2:=by
  rw[mOr_eq,mNot_eq,m3]
  simp only[tstO_ok,truO_bl,tb_some,ob_ok,Bool.not_true,tIf_f,m4]
 rw[ht]
 rfl
theorem bhB_ok{i:Nat}{a2 a3:Option D}(hl:Ω[kl]?=some (.lst (line.map .str)))(bl:line.length<=50)(hn:line.Nodup)(hi:i < line.length) :
  ∃ b2 b3 Ω',bhB (fnO 2 2 cList) (fnO 2 2 cRest) (EB kl i a2 a3) Ω=.nx (EB kl i b2 b3) Ω'/\Keep [] Ω Ω':=by
 have hx:line[i]?=some line[i]:=List.getElem?_eq_getElem hi
 have hidx:line.idxOf line[i]=i:=List.Nodup.idxOf_getElem hn i hi
 have hmem:line[i]∈line:=List.getElem_mem hi
 generalize line[i]=x at *
 have e1:=list_ref hl (by simp;omega)
 have g1:(Ω++[Cell.lst (line.map .str)])[Ω.length]?=some (.lst (line.map .str)):=get_new
 have K1:Keep [] Ω (Ω++[Cell.lst (line.map .str)]):=Keep.app
 generalize Ω++[Cell.lst (line.map .str)]=Ω1 at *
 generalize Ω.length=h at *
 have rr:∀ (a3:Option D) (Ω2:Sto),Ω2[kl]?=some (.lst (line.map .str))->Ω2[h]?=some (.lst (line.map .str))->bhR (fnO 2 2 cRest) (EB kl i (some (.ref h)) a3) Ω2=.ok (.ref Ω2.length) (Ω2++[.lst ((line.drop (i + 1)).map .str)]):=fun a3 Ω2 q1 q2=>by
  have r:=rest_ok q2 hmem
  rw[hidx]at r
  have ix:=idx_str_at q1 hx
  generalize fnO 2 2 cRest=R at *
  simp[bhR,ix,r,-List.map_drop]
 have gl1:=K1.get _ _ hl (by simp)
 have e2:=rr a3 Ω1 gl1 g1
 have q3:(Ω1++[Cell.lst ((line.drop (i + 1)).map .str)])[Ω1.length]?=some (.lst ((line.drop (i + 1)).map .str)):=get_new
 have K2:Keep [] Ω1 (Ω1++[Cell.lst ((line.drop (i + 1)).map .str)]):=Keep.app
 have nh:kl≠Ω1.length:=by have:=get_lt gl1;omega
 have nk:h≠Ω1.length:=by have:=get_lt g1;omega
 generalize Ω1++[Cell.lst ((line.drop (i + 1)).map .str)]=Ω2 at *
 generalize hr:Ω1.length=r at *
 have gl2:=K2.get _ _ gl1 (by simp)
 have gh2:=K2.get _ _ g1 (by simp)
 obtain⟨Ω3,e3,K3⟩:=bhI_ok (R:=fnO 2 2 cRest) (m:=mVar 3) (a3:=some (.ref r)) gl2 gh2 bl rfl Keep.refl q3
 have gr3:=K3.get _ _ q3 (by simp)
 have gl3:=K3.get _ _ gl2 (by simp)
 have gh3:=K3.get _ _ gh2 (by simp)
 have ha:=append_ref (d:=.str x) gr3 (by simp;omega)
 have K4:Keep [r] Ω3 (Ω3.set r (.lst ((line.drop (i + 1)).map .str++[.str x]))):=Keep.set (by simp)
 have ix3:=idx_str_at gl3 hx
 have s4:(sExp (mMth isL appendO (mVar 3) (mCons (m2 idxO (mVar 0) (mVar 1)) mNil))) (EB kl i (some (.ref h)) (some (.ref r))) Ω3=.nx (EB kl i (some (.ref h)) (some (.ref r))) (Ω3.set r (.lst ((line.drop (i + 1)).map .str++[.str x]))):=by
  rw[sExp_eq,mth_at (x:=.ref r) (Ω':=Ω3) rfl (isL_ref gr3)]
  simp[ix3,ha,-List.map_drop]
 generalize Ω3.set r (.lst ((line.drop (i + 1)).map .str++[.str x]))=Ω4 at *
 have gl4:=K4.get _ _ gl3 (by simp[nh])
 have gh4:=K4.get _ _ gh3 (by simp[nk])
 have e5:=rr (some (.ref r)) Ω4 gl4 gh4
 obtain⟨Ω5,e6,K5⟩:=bhI_ok (R:=fnO 2 2 cRest) (m:=bhR (fnO 2 2 cRest)) (a3:=some (.ref r)) gl4 gh4 bl e5 Keep.app get_new
 refine⟨some (.ref h),some (.ref r),Ω5,?_,?_⟩
 ·have s1:(sAsg 2 (mN (bltO .list) (mCons (mVar 0) mNil))) (EB kl i a2 a3) Ω=.nx (EB kl i (some (.ref h)) a3) Ω1:=by simp[e1]
  have s2:(sAsg 3 (bhR (fnO 2 2 cRest))) (EB kl i (some (.ref h)) a3) Ω1=.nx (EB kl i (some (.ref h)) (some (.ref r))) Ω2:=by rw[sAsg_eq,e2];rfl
  unfold bhB
  rw[sSeq_eq,s1,sq_nx,sSeq_eq,s2,sq_nx,sSeq_eq,e3,sq_nx,sSeq_eq,s4,sq_nx,sSeq_eq,e6,sq_nx]
  rfl
 ·have hlen:Ω.length<=r:=by have:=K1.len;omega
  exact((K1.trans K2).trans K3).new (K4.trans (Keep0.up K5)) (by simp;omega)
theorem behind_ok(hl:Ω[kl]?=some (.lst (line.map .str)))(bl:line.length<=50)(hn:line.Nodup) :
  ∃ Ω',fnO 4 1 (cBehind (fnO 2 2 cList) (fnO 2 2 cRest)) [.ref kl] Ω=.ok (.bl true) Ω'/\Keep [] Ω Ω':=by
 rw[fnO_eq (by rfl)]
 have e0:entryO 4 [D.ref kl]=[some (.ref kl),none,none,none]:=rfl
 rw[e0]
 have hlen:=len_ref hl
 rw[List.length_map]at hlen
 have hin:in62 (line.length:Int)=true:=in62_of (by omega) (by omega)
 have hsr:mRng1 (mCons (mN (bltO .len) (mCons (mVar 0) mNil)) mNil) [some (.ref kl),none,none,none] Ω=.ok (.ints 0 line.length) Ω:=by simp[hlen,hin]
 unfold cBehind
 rw[sSeq_eq,sFor_eq,hsr,lo_ok]
 refine loopO_ix (R:=fun r=>∃ Ω',finO (sq r (sSeq (sRet (mCst (.bl true))) sSkip))=.ok (.bl true) Ω'/\Keep [] Ω Ω') (ds:=intsFrom 0 line.length)
  (fun _ ρ Ω2=>∃ a1 a2 a3,ρ=[some (.ref kl),a1,a2,a3]/\Keep [] Ω Ω2) (fun _ _ _ _=>rfl) ?_ ?_ fuel 0 _ _ (by rw[rng_len];unfold fuel;omega) (Nat.zero_le _) ⟨none,none,none,rfl,Keep.refl⟩
 ·rintro i d ρ Ω2 hd ⟨a1,a2,a3,rfl,K⟩
  obtain⟨rfl,hlt⟩:=rng_get hd
  rw[show(0:Int) + (i:Int)=(i:Int) by omega]
  refine⟨EB kl i a2 a3,rfl,?_⟩
  obtain⟨b2,b3,Ω3,e,K3⟩:=bhB_ok (a2:=a2) (a3:=a3) (K.get _ _ hl (by simp)) bl hn hlt
  rw[e]
  exact⟨_,b2,b3,rfl,K.trans K3⟩
 ·rintro ρ Ω2 ⟨a1,a2,a3,rfl,K⟩
  exact⟨Ω2,rfl,K⟩
end
end Mir
namespace Mir
open PySem L2
variable [CloTab]
section
variable{Ω Ω':Sto}{kl q fn:Nat}{line:List Str}{w:Str}{σ:Str->Int}
noncomputable def wkC:EM:=(mAnd (m2 (cmpO .IsNot) (m2 idxO (mVar 5) (mCst (.int 1))) (mCst .non)) (m2 (cmpO .LtE) (mN (bltO .len) (mCons (mVar 3) mNil)) (mN (bltO .len) (mCons (mVar 0) mNil))))
noncomputable def wkB(R PO:FnO):SM:=(sSeq (sExp (mMth isL appendO (mVar 3) (mCons (m2 idxO (mVar 5) (mCst (.int 1))) mNil)))
 (sSeq (sAsg 4 (mN (callO R) (mCons (mVar 4) (mCons (m2 idxO (mVar 5) (mCst (.int 1))) mNil))))
 (sSeq (sAsg 5 (mN (callO PO) (mCons (mVar 4) (mCons (mVar 1) (mCons (mVar 2) mNil)))))
 sSkip)))
noncomputable def cWalk(R PO:FnO):SM:=
 (sSeq (sAsg 3 (mN lstN mNil))
 (sSeq (sAsg 4 (mN (bltO .list) (mCons (mVar 0) mNil)))
 (sSeq (sAsg 5 (mN (callO PO) (mCons (mVar 4) (mCons (mVar 1) (mCons (mVar 2) mNil)))))
 (sSeq (sWhl wkC (wkB R PO))
 (sSeq (sRet (mVar 3))
 sSkip)))))
noncomputable abbrev EK(kl:Nat)(w:Str)(fn q r:Nat)(p:D):OEnv:=[some (.ref kl),some (.str w),some (.ref fn),some (.ref q),some (.ref r),some p]
noncomputable def PapAt(PO:FnO)(w:Str)(fn:Nat)(σ:Str->Int)(line:List Str)(Ω0:Sto)(fp:List Nat):Prop:=∀ (Ω:Sto) (k:Nat) (rest:List Str),Keep fp Ω0 Ω->Ω[k]?=some (.lst (rest.map .str))->(∀ x∈rest,x∈line)->rest.length<=line.length->∃ Ω',PO [.ref k,.str w,.ref fn] Ω=.ok (papD σ rest []) Ω'/\Keep [] Ω Ω'
theorem pap_cases(σ:Str->Int)(rest:List Str):((∀ y∈rest,σ y=0)/\papD σ rest []=.tup [.tup (rest.map .str),.non,.int 0]/\rest.filter (fun x => !(σ x == 0))=[]) \/
  ∃ i x,rest[i]?=some x/\rest.idxOf x=i/\papD σ rest []=.tup [.tup ((rest.take i).map .str),.str x,.int (σ x)]/\rest.filter (fun x => !(σ x == 0))=x::(rest.drop (i + 1)).filter (fun x => !(σ x == 0)):=by
 by_cases h:∀ y∈rest,σ y=0
 ·refine .inl ⟨h,by rw[pap_all h];rfl,?_⟩
  rw[List.filter_eq_nil_iff]
  exact fun x hx=>by simp[h x hx]
 ·right
  have hex:∃ y∈rest,(decide (σ y≠0))=true:=by
   simp at h
   obtain⟨y,h1,h2⟩:=h
   exact⟨y,h1,by simp[h2]⟩
  have hi:=List.findIdx_lt_length_of_exists hex
  have hx:decide (σ (rest[rest.findIdx fun y=>decide (σ y≠0)])≠0)=true:=List.findIdx_getElem (w:=hi)
  have hb:∀ j (hj:j < rest.findIdx fun y=>decide (σ y≠0)),σ (rest[j]'(Nat.lt_trans hj hi))=0:=fun j hj=>by
   have:=List.not_of_lt_findIdx hj
   simpa using this
  generalize (rest.findIdx fun y=>decide (σ y≠0))=i at *
  have hget:rest[i]?=some rest[i]:=List.getElem?_eq_getElem hi
  have hz:∀ y∈rest.take i,σ y=0:=fun y hy=>by
   obtain⟨j,hj,rfl⟩:=List.mem_iff_getElem.mp hy
   rw[List.getElem_take]
   exact hb j (by simp at hj;omega)
  have hx':σ rest[i]≠0:=by simpa using hx
  have hsp:rest=rest.take i++rest[i]::rest.drop (i + 1):=by
   rw[← List.drop_eq_getElem_cons hi,List.take_append_drop]
  refine⟨i,rest[i],hget,?_,by rw[pap_at hz hget hx'];rfl,?_⟩
  ·have hnm:rest[i]∉rest.take i:=fun z=>hx' (hz _ z)
   have hl:(rest.take i).length=i:=by simp;omega
   have:(rest.take i++rest[i]::rest.drop (i + 1)).idxOf rest[i]=i:=by
    rw[List.idxOf_append,if_neg hnm,List.idxOf_cons_self,hl];omega
   rw[← hsp]at this
   exact this
  ·have e1:(rest.take i).filter (fun x => !(σ x == 0))=[]:=by
    rw[List.filter_eq_nil_iff]
    exact fun x hx=>by simp[hz x hx]
   have:(rest.take i++rest[i]::rest.drop (i + 1)).filter (fun x => !(σ x == 0))=rest[i]::(rest.drop (i + 1)).filter (fun x => !(σ x == 0)):=by
    rw[List.filter_append,e1,List.nil_append,List.filter_cons,if_pos (by simpa using hx')]
   rw[← hsp]at this
   exact this
theorem walk_loop{PO:FnO}{Ω0:Sto}(hP:PapAt PO w fn σ line Ω0 [q])(hl0:Ω0[kl]?=some (.lst (line.map .str)))(hkq:kl≠q)(bl:line.length<=50) :
  ∀ (m:Nat) (Ω:Sto) (rest had:List Str) (r:Nat),rest.length < m->Keep [q] Ω0 Ω->Ω[q]?=some (.lst (had.map .str))->Ω[r]?=some (.lst (rest.map .str))->r≠q->(∀ x∈rest,x∈line)->had.length + rest.length<=line.length ->
   ∃ r' p' Ω',whlO wkC (wkB (fnO 2 2 cRest) PO) m (EK kl w fn q r (papD σ rest [])) Ω=.nx (EK kl w fn q r' p') Ω'/\Ω'[q]?=some (.lst ((had++rest.filter (fun x => !(σ x == 0))).map .str))/\Keep [q] Ω0 Ω':=by
 intro m
 induction m with
 | zero=>intro Ω rest had r h;omega
 | succ m ih=>
  intro Ω rest had r hm K hq hr hrq hs hb
  rcases pap_cases σ rest with ⟨_,hp,hf⟩ | ⟨i,x,hx,hidx,hp,hf⟩
  ·rw[hp,hf,List.append_nil]
   have ht:tstO (wkC (EK kl w fn q r (.tup [.tup (rest.map .str),.non,.int 0])) Ω)=.ok false Ω:=by
    simp[wkC,ix1]
   refine⟨r,.tup [.tup (rest.map .str),.non,.int 0],Ω,?_,hq,K⟩
   simp only[whlO,ht]
   rfl
  ·have hi:i < rest.length:=(List.getElem?_eq_some_iff.mp hx).1
   rw[hp,hf]
   have hl1:=len_ref hq
   have hl2:=len_ref (K.get _ _ hl0 (by simp[hkq]))
   rw[List.length_map]at hl1 hl2
   have hle:((had.length:Int)<=(line.length:Int)):=by omega
   have ht:tstO (wkC (EK kl w fn q r (.tup [.tup ((rest.take i).map .str),.str x,.int (σ x)])) Ω)=.ok true Ω:=by
    simp[wkC,ix1,hl1,hl2,hle,-List.map_take]
   have ha:=append_ref (d:=.str x) hq (by simp;omega)
   rw[show had.map D.str++[D.str x]=(had++[x]).map .str by simp]at ha
   have K1:Keep [q] Ω (Ω.set q (.lst ((had++[x]).map .str))):=Keep.set (by simp)
   have hq1:=get_set_eq (e:=.lst ((had++[x]).map .str)) hq
   have s1:(sExp (mMth isL appendO (mVar 3) (mCons (m2 idxO (mVar 5) (mCst (.int 1))) mNil))) (EK kl w fn q r (.tup [.tup ((rest.take i).map .str),.str x,.int (σ x)])) Ω=.nx (EK kl w fn q r (.tup [.tup ((rest.take i).map .str),.str x,.int (σ x)])) (Ω.set q (.lst ((had++[x]).map .str))):=by
    rw[sExp_eq,mth_at (x:=.ref q) (Ω':=Ω) rfl (isL_ref hq)]
    simp[ix1,ha,-List.map_take,-List.map_append]
   generalize Ω.set q (.lst ((had++[x]).map .str))=Ω1 at *
   have hr1:=K1.get _ _ hr (by simp[hrq])
   have e2:=rest_ok hr1 (List.mem_of_getElem? hx)
   rw[hidx]at e2
   have g2:(Ω1++[Cell.lst ((rest.drop (i + 1)).map .str)])[Ω1.length]?=some (.lst ((rest.drop (i + 1)).map .str)):=get_new
   have K2:Keep [q] Ω1 (Ω1++[Cell.lst ((rest.drop (i + 1)).map .str)]):=Keep.app
   have hq2:(Ω1++[Cell.lst ((rest.drop (i + 1)).map .str)])[q]?=some (.lst ((had++[x]).map .str)):=get_app hq1
   have nq:Ω1.length≠q:=by have:=get_lt hq1;omega
   generalize Ω1++[Cell.lst ((rest.drop (i + 1)).map .str)]=Ω2 at *
   generalize Ω1.length=r' at *
   have KA:=(K.trans K1).trans K2
   obtain⟨Ω3,e3,K3⟩:=hP Ω2 r' (rest.drop (i + 1)) KA g2 (fun z hz=>hs z (List.mem_of_mem_drop hz)) (by simp;omega)
   have hbody:wkB (fnO 2 2 cRest) PO (EK kl w fn q r (.tup [.tup ((rest.take i).map .str),.str x,.int (σ x)])) Ω=.nx (EK kl w fn q r' (papD σ (rest.drop (i + 1)) [])) Ω3:=by
    generalize fnO 2 2 cRest=R at *
    unfold wkB
    rw[sSeq_eq,s1,sq_nx]
    simp[ix1,e2,e3,-List.map_take,-List.map_drop]
   obtain⟨r2,p2,Ω4,e4,q4,K4⟩:=ih Ω3 (rest.drop (i + 1)) (had++[x]) r' (by simp;omega) (KA.trans (Keep0.up K3)) (K3.get _ _ hq2 (by simp)) (K3.get _ _ g2 (by simp)) nq (fun z hz=>hs z (List.mem_of_mem_drop hz)) (by simp;omega)
   refine⟨r2,p2,Ω4,?_,by rw[q4];simp,K4⟩
   simp only[whlO,ht]
   show(match wkB (fnO 2 2 cRest) PO (EK kl w fn q r (.tup [.tup ((rest.take i).map .str),.str x,.int (σ x)])) Ω with | .nx ρ' Ω'=>whlO wkC (wkB (fnO 2 2 cRest) PO) m ρ' Ω' | .ct ρ' Ω'=>whlO wkC (wkB (fnO 2 2 cRest) PO) m ρ' Ω' | .bk ρ' Ω'=>.nx ρ' Ω' | r=>r)=_
   rw[hbody]
   exact e4
theorem walked_ok{PO:FnO}(HP:∀ (Ω1:Sto) (fp:List Nat),Keep [] Ω Ω1->(∀ j∈fp,Ω.length<=j)->PapAt PO w fn σ line Ω1 fp)(hl:Ω[kl]?=some (.lst (line.map .str)))(bl:line.length<=50) :
  ∃ k Ω',fnO 6 3 (cWalk (fnO 2 2 cRest) PO) [.ref kl,.str w,.ref fn] Ω=.ok (.ref k) Ω'/\Ω'[k]?=some (.lst ((line.filter (fun x => !(σ x == 0))).map .str))/\Keep [] Ω Ω':=by
 rw[fnO_eq (by rfl)]
 have e0:entryO 6 [D.ref kl,.str w,.ref fn]=[some (.ref kl),some (.str w),some (.ref fn),none,none,none]:=rfl
 rw[e0]
 have r1:(sAsg 3 (mN lstN mNil)) [some (.ref kl),some (.str w),some (.ref fn),none,none,none] Ω=.nx [some (.ref kl),some (.str w),some (.ref fn),some (.ref Ω.length),none,none] (Ω++[.lst []]):=rfl
 have g1:(Ω++[Cell.lst []])[Ω.length]?=some (.lst (([]:List Str).map .str)):=get_new
 have K1:Keep [] Ω (Ω++[Cell.lst []]):=Keep.app
 have hkq:kl≠Ω.length:=by have:=get_lt hl;omega
 generalize Ω++[Cell.lst []]=Ω1 at *
 generalize hq0:Ω.length=q at *
 have hl1:=K1.get _ _ hl (by simp)
 have e2:=list_ref hl1 (by simp;omega)
 have g2:(Ω1++[Cell.lst (line.map .str)])[Ω1.length]?=some (.lst (line.map .str)):=get_new
 have K2:Keep [] Ω1 (Ω1++[Cell.lst (line.map .str)]):=Keep.app
 have nq:Ω1.length≠q:=by have:=get_lt g1;omega
 have r2:(sAsg 4 (mN (bltO .list) (mCons (mVar 0) mNil))) [some (.ref kl),some (.str w),some (.ref fn),some (.ref q),none,none] Ω1=.nx [some (.ref kl),some (.str w),some (.ref fn),some (.ref q),some (.ref Ω1.length),none] (Ω1++[Cell.lst (line.map .str)]):=by simp[e2]
 generalize Ω1++[Cell.lst (line.map .str)]=Ω2 at *
 generalize Ω1.length=r at *
 have K12:=K1.trans K2
 obtain⟨Ω3,e3,K3⟩:=HP Ω2 [] K12 (by simp) Ω2 r line Keep.refl g2 (fun x hx=>hx) (Nat.le_refl _)
 have r3:(sAsg 5 (mN (callO PO) (mCons (mVar 4) (mCons (mVar 1) (mCons (mVar 2) mNil))))) [some (.ref kl),some (.str w),some (.ref fn),some (.ref q),some (.ref r),none] Ω2=.nx (EK kl w fn q r (papD σ line [])) Ω3:=by simp[e3]
 have K13:=K12.trans K3
 obtain⟨r',p',Ω4,e4,q4,K4⟩:=walk_loop (HP Ω3 [q] K13 (by simp)) (K13.get _ _ hl (by simp)) hkq bl fuel Ω3 line [] r (by unfold fuel;omega) Keep.refl ((K2.trans K3).get _ _ g1 (by simp)) (K3.get _ _ g2 (by simp)) nq (fun x hx=>hx) (by simp)
 refine⟨q,Ω4,?_,by rw[q4,List.nil_append],K13.new K4 (by simp;try omega)⟩
 unfold cWalk
 rw[sSeq_eq,r1,sq_nx,sSeq_eq,r2,sq_nx,sSeq_eq,r3,sq_nx,sSeq_eq]
 unfold sWhl
 rw[e4]
 rfl
end
end Mir
namespace Mir
open PySem L2
variable [CloTab]
section
variable{Ω Ω':Sto}{ρ:OEnv}{σ:Str->Int}{kl fn kt:Nat}{line:List Str}{w:Str}{M:List (List D->FnO)}{kvs:List (List Key×D)}
theorem filt_strs(σ:Str->Int)(line:List Str):((line.map D.str).filter fun d=>match d with | .str x => !(σ x == 0) | _=>false).map (fun d=>d)=(line.filter fun x => !(σ x == 0)).map .str:=by
 rw[List.filter_map,List.map_map]
 rfl
theorem foundV(T:Tells M fn kt w σ line Ω)(hl:Ω[kl]?=some (.lst (line.map .str)))(bl:line.length<=1000) :
  fnO 3 3 (cFoundAll M) [.ref kl,.str w,.ref fn] Ω=.ok (.ref Ω.length) (Ω++[.lst ((line.filter fun x => !(σ x == 0)).map .str)]):=by
 rw[fnO_eq (by rfl)]
 have e0:entryO 3 [D.ref kl,.str w,.ref fn]=[some (.ref kl),some (.str w),some (.ref fn)]:=rfl
 rw[e0]
 have hc:=cpr_pure (Ω:=Ω) (Ω':=Ω) (ρ:=[some (.ref kl),some (.str w),some (.ref fn)]) (me:=mVar 0) (mc:=m2 (cmpO .NotEq) (mCallV M 1 (mCons (mVar 0) (mCons (mVar 2) mNil))) (mCst (.int 0))) (nc:=false) (mi:=mSrc (mVar 0)) (cap:=[2,1]) (src:=.seq (.ref kl)) (ds:=line.map .str)
  (p:=fun d=>match d with | .str x => !(σ x == 0) | _=>false) (g:=fun d=>d) (by simp[srcOf_seq (x:=.ref kl) (by rw[seq_ref,lst_ref hl])]) (by rw[src_seq,seq_ref,lst_ref hl]) (fun d hd=>by
   obtain⟨x,hx,rfl⟩:=List.mem_map.mp hd
   have e:=callT T (ρ:=[some (.str x),some (.ref fn),some (.str w)]) (i:=1) (as:=mCons (mVar 0) (mCons (mVar 2) mNil)) rfl hx (by simp)
   show tstO (m2 (cmpO .NotEq) (mCallV M 1 (mCons (mVar 0) (mCons (mVar 2) mNil))) (mCst (.int 0)) [some (.str x),some (.ref fn),some (.str w)] Ω)=_
   rw[m2_eq,e]
   simp) (fun d hd _=>rfl) (by simp;omega)
 rw[filt_strs]at hc
 unfold cFoundAll
 rw[sSeq_eq,sRet_eq,hc]
 rfl
noncomputable def dueC(i j k:Nat):EM:=mCpr (mVar 0) false (m2 (cmpO .Gt) (m2 idxO (mVar 1) (mN tupN (mCons (mVar 0) (mCons (mVar 2) mNil)))) (mCst (.int 0))) (mSrc (mVar i)) 0 [j,k]
theorem due_ok{i j k:Nat}(hi:ρ[i]?=some (some (.ref kl)))(hj:capO [j,k] ρ=[some (.ref kt),some (.str w)])(hl:Ω[kl]?=some (.lst (line.map .str)))(ht:Ω[kt]?=some (.dT kvs))(hσ:StAt kvs w line σ)(bl:line.length<=1000) :
  dueC i j k ρ Ω=.ok (.ref Ω.length) (Ω++[.lst ((line.filter fun x => !(σ x == 0)).map .str)]):=by
 have hc:=cpr_pure (Ω:=Ω) (Ω':=Ω) (ρ:=ρ) (me:=mVar 0) (mc:=m2 (cmpO .Gt) (m2 idxO (mVar 1) (mN tupN (mCons (mVar 0) (mCons (mVar 2) mNil)))) (mCst (.int 0))) (nc:=false) (mi:=mSrc (mVar i)) (cap:=[j,k]) (src:=.seq (.ref kl)) (ds:=line.map .str)
  (p:=fun d=>match d with | .str x => !(σ x == 0) | _=>false) (g:=fun d=>d) (by simp[hi,srcOf_seq (x:=.ref kl) (by rw[seq_ref,lst_ref hl])]) (by rw[src_seq,seq_ref,lst_ref hl]) (fun d hd=>by
   obtain⟨x,hx,rfl⟩:=List.mem_map.mp hd
   obtain⟨v0,_,hv⟩:=hσ x hx
   have hit:idxO (.ref kt) (.tup [.str x,.str w]) Ω=.ok (.int (σ x)) Ω:=idx_tt ht hv
   rw[hj]
   show tstO (m2 (cmpO .Gt) (m2 idxO (mVar 1) (mN tupN (mCons (mVar 0) (mCons (mVar 2) mNil)))) (mCst (.int 0)) [some (.str x),some (.ref kt),some (.str w)] Ω)=_
   have:decide (σ x > 0) = !(σ x == 0):=by
    by_cases h:σ x=0
    ·simp[h]
    ·have:σ x > 0:=by omega
     simp[h,this]
   simp[small_of,hit]
   exact this) (fun d hd _=>by rw[hj];obtain⟨x,_,rfl⟩:=List.mem_map.mp hd;rfl) (by simp;omega)
 rw[filt_strs]at hc
 exact hc
end
end Mir
namespace K35
open PySem PySem.Spec PyProof.Rows L2 Mir
noncomputable section
noncomputable def top(i:Nat):Stmt:=PySem.Challenge.pw_taglook_k35_behind_a_start.main.body.getD i (.Pass ⟨0,0,0,0⟩)
noncomputable def cst:Stmt:=(defBody (top 25)).getD 3 (.Pass ⟨0,0,0,0⟩)
noncomputable def CD0:CloD:={ name:="_law_strength",qual:="law.<locals>._law_strength",params:=defArgs cst,body:=defBody cst,scope:=defScope cst,ps:=["_law_kind","_law_word"],cn:=["_law_table_here"] }
noncomputable instance clos:CloTab:=⟨fun _=>CD0,fun _=>0⟩
noncomputable def td:List Str:=["_law_table_here"]
noncomputable def UP0:TabO:=(({}:TabO).addK "DEEPEST" (.int 8))
noncomputable def NP0:List Str:=["_law_cell","_law_turn","_law_many","_law_rest","_law_k","_law_turns","_law_one","_law_two"]
noncomputable def PP0:List Str:=["_law_cell","_law_turn","_law_many"]
noncomputable def dP0:SM:=
 (sSeq (sAsg 3 (m2 (binO .FloorDiv) (mVar 0) (mCst (.int 2))))
 (sSeq (sIf (mAnd (m2 (cmpO .Eq) (m2 (binO .Mod) (mVar 0) (mCst (.int 2))) (mCst (.int 1))) (m2 (cmpO .Gt) (mVar 0) (m2 (binO .Pow) (mCst (.int 10)) (mCst (.int 18)))))
 (sSeq (sFor (putO1 4) (mRng1 (mCons (mVar 1) mNil))
 (sSeq (sAsg 3 (m2 (binO .FloorDiv) (mVar 3) (mCst (.int 840))))
 sSkip))
 (sSeq (sRet (m2 (binO .Mod) (m2 (binO .Mod) (mVar 3) (mCst (.int 840))) (mVar 2)))
 sSkip))
 sSkip)
 (sSeq (sAsg 5 (mN lstN (mCons (mCst (.int 48271)) (mCons (mCst (.int 69621)) (mCons (mCst (.int 40692)) (mCons (mCst (.int 39373)) (mCons (mCst (.int 16807)) (mCons (mCst (.int 30323)) (mCons (mCst (.int 21403)) (mCons (mCst (.int 62089)) (mCons (mCst (.int 45742)) (mCons (mCst (.int 37907)) (mCons (mCst (.int 53611)) (mCons (mCst (.int 28411)) (mCons (mCst (.int 59393)) (mCons (mCst (.int 33391)) mNil))))))))))))))))
 (sSeq (sAsg 6 (m2 (binO .Mod) (m2 (binO .Mult) (m2 (binO .Add) (m2 (binO .Mod) (mVar 0) (mCst (.int 1000000007))) (mCst (.int 11))) (m2 idxO (mVar 5) (m2 (binO .Mod) (mVar 1) (mCst (.int 14))))) (mCst (.int 2147483629))))
 (sSeq (sAsg 7 (m2 (binO .Mod) (m2 (binO .Mult) (mVar 6) (m2 (binO .Add) (mVar 6) (mVar 1))) (mCst (.int 1999999973))))
 (sSeq (sRet (m2 (binO .Mod) (m2 (binO .FloorDiv) (m2 (binO .Mod) (m2 (binO .Mult) (mVar 7) (mCst (.int 16807))) (mCst (.int 998244353))) (mCst (.int 1000))) (mVar 2)))
 sSkip))))))
noncomputable def OP0:FnO:=fnO 8 3 dP0
noncomputable def F0:List Mir.D->Out Rs:=pureOf OP0
noncomputable def UP1:TabO:=UP0.addP "_law_mix" F0
theorem sP0:fnScB NP0 PP0 (defScope (top 14))=true:=by decide +kernel
theorem kP0:codeX UP0 td (top 14) NP0=some dP0:=rfl
noncomputable def NP1:List Str:=["_law_script","_law_k","_law_many","_law_cell"]
noncomputable def PP1:List Str:=["_law_script","_law_k","_law_many"]
noncomputable def dP1:SM:=
 (sSeq (sAsg 3 (m2 (binO .Mult) (mCst (.int 2)) (m2 (binO .Add) (m2 (binO .Mult) (mCst (.int 7919)) (mVar 1)) (mCst (.int 13)))))
 (sSeq (sIf (m2 (cmpO .Lt) (m2 (binO .Mod) (mVar 1) (mCst (.int 63))) (mN (bltO .len) (mCons (mVar 0) mNil)))
 (sSeq (sAsg 3 (m2 idxO (mVar 0) (m2 (binO .Mod) (mVar 1) (mCst (.int 63)))))
 sSkip)
 sSkip)
 (sSeq (sRet (mN (viaN F0) (mCons (mVar 3) (mCons (m2 (binO .FloorDiv) (mVar 1) (mCst (.int 63))) (mCons (mVar 2) mNil)))))
 sSkip)))
noncomputable def OP1:FnO:=fnO 4 3 dP1
noncomputable def F1:List Mir.D->Out Rs:=pureOf OP1
noncomputable def UP2:TabO:=UP1.addP "_law_drawn" F1
theorem sP1:fnScB NP1 PP1 (defScope (top 15))=true:=by decide +kernel
theorem kP1:codeX UP1 td (top 15) NP1=some dP1:=rfl
noncomputable def NP2:List Str:=["_law_found"]
noncomputable def PP2:List Str:=["_law_found"]
noncomputable def dP2:SM:=
 (sSeq (sRet (mAnd (m1 (isiO .int) (mVar 0)) (mNot (m1 (isiO .bool) (mVar 0)))))
 sSkip)
noncomputable def OP2:FnO:=fnO 1 1 dP2
noncomputable def F2:List Mir.D->Out Rs:=pureOf OP2
noncomputable def UP3:TabO:=UP2.addP "_law_whole" F2
theorem sP2:fnScB NP2 PP2 (defScope (top 19))=true:=by decide +kernel
theorem kP2:codeX UP2 td (top 19) NP2=some dP2:=rfl
noncomputable def U0:TabO:=UP3
noncomputable def d0:SM:=
 (sSeq (sRet (m2 idxO (mVar 2) (mN tupN (mCons (mVar 0) (mCons (mVar 1) mNil)))))
 sSkip)
noncomputable def O0:List Mir.D->FnO:=cloO 2 d0
noncomputable def CLs:List (List Mir.D->FnO):=[O0]
noncomputable def U1:TabO:=U0.addL O0
theorem so0:cloScB CD0.ps CD0.cn CD0.scope=true:=by decide +kernel
theorem ko0:codeC U0 CD0=some d0:=rfl
noncomputable def NO1:List Str:=["thing","depth"]
noncomputable def PO1:List Str:=["thing","depth"]
noncomputable def d1:SM:=
 (sSeq (sIf (m2 (cmpO .Eq) (mVar 1) (mCst (.int 8)))
 (sSeq (sRet (mVar 0))
 sSkip)
 sSkip)
 (sSeq (sIf (m1 (isiO .list) (mVar 0))
 (sSeq sNever
 sSkip)
 sSkip)
 (sSeq (sIf (m1 (isiO .tuple) (mVar 0))
 (sSeq sNever
 sSkip)
 sSkip)
 (sSeq (sIf (m1 (isiO .dict) (mVar 0))
 (sSeq sNever
 sSkip)
 sSkip)
 (sSeq (sRet (mVar 0))
 sSkip)))))
noncomputable def O1:FnO:=fnO 2 2 d1
noncomputable def U2:TabO:=U1.addF "own_copy" O1
theorem so1:fnScB NO1 PO1 (defScope (top 2))=true:=by decide +kernel
theorem ko1:codeX U1 td (top 2) NO1=some d1:=rfl
noncomputable def NO2:List Str:=["line","word","strength","passed","kind","one"]
noncomputable def PO2:List Str:=["line","word","strength"]
noncomputable def d2:SM:=
 (sSeq (sAsg 3 (mN lstN mNil))
 (sSeq (sFor (putO1 4) (mSrc (mVar 0))
 (sSeq (sAsg 5 (mCallV CLs 2 (mCons (mVar 4) (mCons (mVar 1) mNil))))
 (sSeq (sIf (m2 (cmpO .NotEq) (mVar 5) (mCst (.int 0)))
 (sSeq (sRet (mN tupN (mCons (mN (bltO .tuple) (mCons (mVar 3) mNil)) (mCons (mVar 4) (mCons (mVar 5) mNil)))))
 sSkip)
 sSkip)
 (sSeq (sExp (mMth isL appendO (mVar 3) (mCons (mVar 4) mNil)))
 sSkip))))
 (sSeq (sRet (mN tupN (mCons (mN (bltO .tuple) (mCons (mVar 3) mNil)) (mCons (mCst .non) (mCons (mCst (.int 0)) mNil)))))
 sSkip)))
noncomputable def O2:FnO:=fnO 6 3 d2
noncomputable def U3:TabO:=U2.addF "paper_of" O2
theorem so2:fnScB NO2 PO2 (defScope (top 10))=true:=by decide +kernel
theorem ko2:codeX U2 td (top 10) NO2=some d2:=rfl
noncomputable def NO3:List Str:=["line","start"]
noncomputable def PO3:List Str:=["line","start"]
noncomputable def d3:SM:=
 (sSeq (sIf (m2 (cmpO .NotIn) (mVar 1) (mVar 0))
 (sSeq sNever
 sSkip)
 sSkip)
 (sSeq (sRet (mSlc (mVar 0) false (m2 (binO .Add) (mMth isL indexO (mVar 0) (mCons (mVar 1) mNil)) (mCst (.int 1))) true (mCst .non)))
 sSkip))
noncomputable def O3:FnO:=fnO 2 2 d3
noncomputable def U4:TabO:=U3.addF "rest_behind" O3
theorem so3:fnScB NO3 PO3 (defScope (top 11))=true:=by decide +kernel
theorem ko3:codeX U3 td (top 11) NO3=some d3:=rfl
noncomputable def NO4:List Str:=["line","word","strength"]
noncomputable def PO4:List Str:=["line","word","strength"]
noncomputable def d4:SM:=
 (sSeq (sRet (mCpr (mVar 0) false (m2 (cmpO .NotEq) (mCallV CLs 1 (mCons (mVar 0) (mCons (mVar 2) mNil))) (mCst (.int 0))) (mSrc (mVar 0)) 0 [2,1]))
 sSkip)
noncomputable def O4:FnO:=fnO 3 3 d4
noncomputable def U5:TabO:=U4.addF "found_all" O4
theorem so4:fnScB NO4 PO4 (defScope (top 12))=true:=by decide +kernel
theorem ko4:codeX U4 td (top 12) NO4=some d4:=rfl
noncomputable def NO5:List Str:=["_law_script","_law_at","_law_many","_law_letters","_law_first","_law_step","_law_base","_law_size","_law_place","_law_names_here","_law_k","_law_sign"]
noncomputable def PO5:List Str:=["_law_script","_law_at","_law_many"]
noncomputable def d5:SM:=
 (sSeq (sAsg 3 (mCst (.str "abcdefghijklmnopqrstuvwxyz")))
 (sSeq (sAsg 4 (mN (viaN F1) (mCons (mVar 0) (mCons (mVar 1) (mCons (mCst (.int 26)) mNil)))))
 (sSeq (sAsg 5 (m2 (binO .Add) (mCst (.int 1)) (mN (viaN F1) (mCons (mVar 0) (mCons (m2 (binO .Add) (mVar 1) (mCst (.int 1))) (mCons (mCst (.int 25)) mNil))))))
 (sSeq (sAsg 6 (mMth isSt joinO (mCst (.str "")) (mCons (mCpr (m2 idxO (mVar 2) (m2 (binO .Mod) (m2 (binO .Add) (mVar 1) (m2 (binO .Mult) (mVar 0) (mVar 3))) (mCst (.int 26)))) true (mCst .non) (mRng1 (mCons (mCst (.int 8)) mNil)) 0 [4,3,5]) mNil)))
 (sSeq (sAsg 7 (m2 (binO .Add) (mCst (.int 1)) (mN (viaN F1) (mCons (mVar 0) (mCons (m2 (binO .Add) (mVar 1) (mCst (.int 2))) (mCons (mCst (.int 8)) mNil))))))
 (sSeq (sAsg 8 (mN (viaN F1) (mCons (mVar 0) (mCons (m2 (binO .Add) (mVar 1) (mCst (.int 3))) (mCons (mVar 7) mNil)))))
 (sSeq (sAsg 9 (mN lstN mNil))
 (sSeq (sFor (putO1 10) (mRng1 (mCons (mVar 2) mNil))
 (sSeq (sAsg 11 (m2 idxO (mVar 3) (m2 (binO .Mod) (m2 (binO .Add) (m2 (binO .Add) (mVar 4) (m2 (binO .Mult) (mVar 8) (mVar 5))) (mVar 10)) (mCst (.int 26)))))
 (sSeq (sExp (mMth isL appendO (mVar 9) (mCons (m2 (binO .Add) (m2 (binO .Add) (mSlc (mVar 6) true (mCst .non) false (mVar 8)) (mVar 11)) (mSlc (mVar 6) false (m2 (binO .Add) (mVar 8) (mCst (.int 1))) false (mVar 7))) mNil)))
 sSkip)))
 (sSeq (sIf (mAnd (m2 (cmpO .Lt) (mVar 2) (mCst (.int 9))) (m2 (cmpO .Eq) (mN (viaN F1) (mCons (mVar 0) (mCons (m2 (binO .Add) (mVar 1) (mCst (.int 4))) (mCons (mCst (.int 4)) mNil)))) (mCst (.int 1))))
 (sSeq (sAsg 9 (mCpr (mSlc (mVar 1) true (mCst .non) false (m2 (binO .Add) (mVar 0) (mCst (.int 1)))) true (mCst .non) (mRng1 (mCons (mVar 2) mNil)) 0 [6]))
 sSkip)
 sSkip)
 (sSeq (sIf (m2 (cmpO .Eq) (mN (viaN F1) (mCons (mVar 0) (mCons (m2 (binO .Add) (mVar 1) (mCst (.int 5))) (mCons (mCst (.int 2)) mNil)))) (mCst (.int 1)))
 (sSeq (sExp (mMth isL reverseO (mVar 9) mNil))
 sSkip)
 sSkip)
 (sSeq (sRet (mVar 9))
 sSkip)))))))))))
noncomputable def O5:FnO:=fnO 12 3 d5
noncomputable def U6:TabO:=U5.addF "_law_names" O5
theorem so5:fnScB NO5 PO5 (defScope (top 16))=true:=by decide +kernel
theorem ko5:codeX U5 td (top 16) NO5=some d5:=rfl
noncomputable def NO6:List Str:=["_law_script","_law_at","_law_kinds","_law_words","_law_table_here","_law_dense","_law_kind","_law_word","_law_pick"]
noncomputable def PO6:List Str:=["_law_script","_law_at","_law_kinds","_law_words"]
noncomputable def d6:SM:=
 (sSeq (sAsg 4 mDictT)
 (sSeq (sAsg 5 (m2 idxO (mN lstN (mCons (mCst (.int 2)) (mCons (mCst (.int 4)) (mCons (mCst (.int 9)) mNil)))) (mN (viaN F1) (mCons (mVar 0) (mCons (mVar 1) (mCons (mCst (.int 3)) mNil))))))
 (sSeq (sFor (putO1 6) (mSrc (mVar 2))
 (sSeq (sFor (putO1 7) (mSrc (mVar 3))
 (sSeq (sAsg 8 (mN (viaN F1) (mCons (mVar 0) (mCons (m2 (binO .Add) (m2 (binO .Add) (mVar 1) (mCst (.int 1))) (mN (bltO .len) (mCons (mVar 4) mNil))) (mCons (m2 (binO .Mult) (mCst (.int 2)) (mVar 5)) mNil)))))
 (sSeq (sDput (mVar 4) (mN tupN (mCons (mVar 6) (mCons (mVar 7) mNil))) (m2 idxO (mN lstN (mCons (mCst (.int 1)) (mCons (mCst (.int 2)) (mCons (mCst (.int 0)) mNil)))) (mN (bltO .min) (mCons (mCst (.int 2)) (mCons (mVar 8) mNil)))))
 sSkip)))
 sSkip))
 (sSeq (sRet (mVar 4))
 sSkip))))
noncomputable def O6:FnO:=fnO 9 4 d6
noncomputable def U7:TabO:=U6.addF "_law_table" O6
theorem so6:fnScB NO6 PO6 (defScope (top 17))=true:=by decide +kernel
theorem ko6:codeX U6 td (top 17) NO6=some d6:=rfl
noncomputable def NO7:List Str:=["_law_line","_law_word","_law_table_here","_law_k"]
noncomputable def PO7:List Str:=["_law_line","_law_word","_law_table_here"]
noncomputable def d7:SM:=
 (sSeq (sFor (putO1 3) (mRng1 (mCons (mN (bltO .len) (mCons (mVar 0) mNil)) mNil))
 (sSeq (sIf (m2 (cmpO .Gt) (m2 idxO (mVar 2) (mN tupN (mCons (m2 idxO (mVar 0) (mVar 3)) (mCons (mVar 1) mNil)))) (mCst (.int 0)))
 (sSeq (sRet (mN tupN (mCons (mN (bltO .tuple) (mCons (mSlc (mVar 0) true (mCst .non) false (mVar 3)) mNil)) (mCons (m2 idxO (mVar 0) (mVar 3)) (mCons (m2 idxO (mVar 2) (mN tupN (mCons (m2 idxO (mVar 0) (mVar 3)) (mCons (mVar 1) mNil)))) mNil)))))
 sSkip)
 sSkip)
 sSkip))
 (sSeq (sRet (mN tupN (mCons (mN (bltO .tuple) (mCons (mVar 0) mNil)) (mCons (mCst .non) (mCons (mCst (.int 0)) mNil)))))
 sSkip))
noncomputable def O7:FnO:=fnO 4 3 d7
noncomputable def U8:TabO:=U7.addF "_law_paper" O7
theorem so7:fnScB NO7 PO7 (defScope (top 18))=true:=by decide +kernel
theorem ko7:codeX U7 td (top 18) NO7=some d7:=rfl
noncomputable def NO8:List Str:=["_law_found","_law_due"]
noncomputable def PO8:List Str:=["_law_found","_law_due"]
noncomputable def d8:SM:=
 (sSeq (sIf (mOr (mNot (m1 (isiO .tuple) (mVar 0))) (mOr (m2 (cmpO .NotEq) (mN (bltO .len) (mCons (mVar 0) mNil)) (mCst (.int 3))) (mNot (m1 (isiO .tuple) (m2 idxO (mVar 0) (mCst (.int 0)))))))
 (sSeq (sRet (mCst (.bl false)))
 sSkip)
 sSkip)
 (sSeq (sIf (mOr (mNot (mN (bltO .all) (mCons (mCpr (m1 (isiO .str) (mVar 0)) true (mCst .non) (mSrc (m2 idxO (mVar 0) (mCst (.int 0)))) 0 []) mNil))) (mNot (mN (viaN F2) (mCons (m2 idxO (mVar 0) (mCst (.int 2))) mNil))))
 (sSeq (sRet (mCst (.bl false)))
 sSkip)
 sSkip)
 (sSeq (sIf (mAnd (m2 (cmpO .IsNot) (m2 idxO (mVar 0) (mCst (.int 1))) (mCst .non)) (mNot (m1 (isiO .str) (m2 idxO (mVar 0) (mCst (.int 1))))))
 (sSeq (sRet (mCst (.bl false)))
 sSkip)
 sSkip)
 (sSeq (sRet (m2 (cmpO .Eq) (mVar 0) (mVar 1)))
 sSkip))))
noncomputable def O8:FnO:=fnO 2 2 d8
noncomputable def U9:TabO:=U8.addF "_law_alike" O8
theorem so8:fnScB NO8 PO8 (defScope (top 20))=true:=by decide +kernel
theorem ko8:codeX U8 td (top 20) NO8=some d8:=rfl
noncomputable def NO9:List Str:=["_law_found","_law_due"]
noncomputable def PO9:List Str:=["_law_found","_law_due"]
noncomputable def d9:SM:=
 (sSeq (sRet (mAnd (m1 (isiO .list) (mVar 0)) (mAnd (mN (bltO .all) (mCons (mCpr (m1 (isiO .str) (mVar 0)) true (mCst .non) (mSrc (mVar 0)) 0 []) mNil)) (m2 (cmpO .Eq) (mVar 0) (mVar 1)))))
 sSkip)
noncomputable def O9:FnO:=fnO 2 2 d9
noncomputable def U10:TabO:=U9.addF "_law_list" O9
theorem so9:fnScB NO9 PO9 (defScope (top 21))=true:=by decide +kernel
theorem ko9:codeX U9 td (top 21) NO9=some d9:=rfl
noncomputable def NO10:List Str:=["_law_line","_law_start","e"]
noncomputable def PO10:List Str:=["_law_line","_law_start"]
noncomputable def O10:FnO:=refO (m2 (cmpO .NotIn) (mVar 1) (mVar 0)) 2 1
noncomputable def U11:TabO:=U10.addF "_law_refused" O10
noncomputable def NO11:List Str:=["_law_line","_law_k","_law_handed","_law_found"]
noncomputable def PO11:List Str:=["_law_line"]
noncomputable def d11:SM:=
 (sSeq (sFor (putO1 1) (mRng1 (mCons (mN (bltO .len) (mCons (mVar 0) mNil)) mNil))
 (sSeq (sAsg 2 (mN (bltO .list) (mCons (mVar 0) mNil)))
 (sSeq (sAsg 3 (mN (callO O3) (mCons (mVar 2) (mCons (m2 idxO (mVar 0) (mVar 1)) mNil))))
 (sSeq (sIf (mOr (mNot (mN (callO O9) (mCons (mVar 3) (mCons (mSlc (mVar 0) false (m2 (binO .Add) (mVar 1) (mCst (.int 1))) true (mCst .non)) mNil)))) (m2 (cmpO .NotEq) (mVar 2) (mVar 0)))
 (sSeq (sRet (mCst (.bl false)))
 sSkip)
 sSkip)
 (sSeq (sExp (mMth isL appendO (mVar 3) (mCons (m2 idxO (mVar 0) (mVar 1)) mNil)))
 (sSeq (sIf (mOr (mNot (mN (callO O9) (mCons (mN (callO O3) (mCons (mVar 2) (mCons (m2 idxO (mVar 0) (mVar 1)) mNil))) (mCons (mSlc (mVar 0) false (m2 (binO .Add) (mVar 1) (mCst (.int 1))) true (mCst .non)) mNil)))) (m2 (cmpO .NotEq) (mVar 2) (mVar 0)))
 (sSeq (sRet (mCst (.bl false)))
 sSkip)
 sSkip)
 sSkip))))))
 (sSeq (sRet (mCst (.bl true)))
 sSkip))
noncomputable def O11:FnO:=fnO 4 1 d11
noncomputable def U12:TabO:=U11.addF "_law_behind" O11
theorem so11:fnScB NO11 PO11 (defScope (top 23))=true:=by decide +kernel
theorem ko11:codeX U11 td (top 23) NO11=some d11:=rfl
noncomputable def NO12:List Str:=["_law_line","_law_word","_law_strength","_law_had","_law_rest","_law_paper_here"]
noncomputable def PO12:List Str:=["_law_line","_law_word","_law_strength"]
noncomputable def d12:SM:=
 (sSeq (sAsg 3 (mN lstN mNil))
 (sSeq (sAsg 4 (mN (bltO .list) (mCons (mVar 0) mNil)))
 (sSeq (sAsg 5 (mN (callO O2) (mCons (mVar 4) (mCons (mVar 1) (mCons (mVar 2) mNil)))))
 (sSeq (sWhl (mAnd (m2 (cmpO .IsNot) (m2 idxO (mVar 5) (mCst (.int 1))) (mCst .non)) (m2 (cmpO .LtE) (mN (bltO .len) (mCons (mVar 3) mNil)) (mN (bltO .len) (mCons (mVar 0) mNil))))
 (sSeq (sExp (mMth isL appendO (mVar 3) (mCons (m2 idxO (mVar 5) (mCst (.int 1))) mNil)))
 (sSeq (sAsg 4 (mN (callO O3) (mCons (mVar 4) (mCons (m2 idxO (mVar 5) (mCst (.int 1))) mNil))))
 (sSeq (sAsg 5 (mN (callO O2) (mCons (mVar 4) (mCons (mVar 1) (mCons (mVar 2) mNil)))))
 sSkip))))
 (sSeq (sRet (mVar 3))
 sSkip)))))
noncomputable def O12:FnO:=fnO 6 3 d12
noncomputable def U13:TabO:=U12.addF "_law_walked" O12
theorem so12:fnScB NO12 PO12 (defScope (top 24))=true:=by decide +kernel
theorem ko12:codeX U12 td (top 24) NO12=some d12:=rfl
noncomputable def NO13:List Str:=["_law_script","_law_line","_law_words","_law_strength","_law_start","_law_word","_law_due","_law_handed","_law_found","_law_table_here"]
noncomputable def PO13:List Str:=["_law_script"]
noncomputable def da13:SM:=
 (sSeq (sAsg 1 (mN (callO O5) (mCons (mVar 0) (mCons (mCst (.int 0)) (mCons (mN (viaN F1) (mCons (mVar 0) (mCons (mCst (.int 6)) (mCons (mCst (.int 13)) mNil)))) mNil)))))
 (sSeq (sAsg 2 (mN (callO O5) (mCons (mVar 0) (mCons (mCst (.int 10)) (mCons (m2 (binO .Add) (mCst (.int 1)) (mN (viaN F1) (mCons (mVar 0) (mCons (mCst (.int 16)) (mCons (mCst (.int 3)) mNil))))) mNil)))))
 (sSeq (sAsg 9 (mN (callO O6) (mCons (mVar 0) (mCons (mCst (.int 20)) (mCons (mVar 1) (mCons (mVar 2) mNil))))))
 sSkip)))
noncomputable def db13:SM:=
 (sSeq (sFor (putO1 4) (mSrc (m2 (binO .Add) (mN lstN (mCons (mCst (.str "-")) (mCons (mCst (.str "")) (mCons (m2 (binO .Add) (mMth isSt joinO (mCst (.str "")) (mCons (mSlc (mVar 1) true (mCst .non) false (mCst (.int 2))) mNil)) (mCst (.str "x"))) mNil)))) (mVar 2)))
 (sSeq (sIf (mAnd (m2 (cmpO .NotIn) (mVar 4) (mVar 1)) (mNot (mN (callO O10) (mCons (mVar 1) (mCons (mVar 4) mNil)))))
 (sSeq (sRet (mCst (.bl false)))
 sSkip)
 sSkip)
 sSkip))
 (sSeq (sIf (mNot (mN (callO O11) (mCons (mVar 1) mNil)))
 (sSeq (sRet (mCst (.bl false)))
 sSkip)
 sSkip)
 (sSeq (sFor (putO1 5) (mSrc (mVar 2))
 (sSeq (sAsg 6 (mCpr (mVar 0) false (m2 (cmpO .Gt) (m2 idxO (mVar 1) (mN tupN (mCons (mVar 0) (mCons (mVar 2) mNil)))) (mCst (.int 0))) (mSrc (mVar 1)) 0 [9,5]))
 (sSeq (sAsg 7 (mN (bltO .list) (mCons (mVar 1) mNil)))
 (sSeq (sAsg 8 (mN (callO O4) (mCons (mVar 7) (mCons (mVar 5) (mCons (mVar 3) mNil)))))
 (sSeq (sIf (mOr (mNot (mN (callO O9) (mCons (mVar 8) (mCons (mVar 6) mNil)))) (m2 (cmpO .NotEq) (mVar 7) (mVar 1)))
 (sSeq (sRet (mCst (.bl false)))
 sSkip)
 sSkip)
 (sSeq (sExp (mMth isL appendO (mVar 8) (mCons (mVar 5) mNil)))
 (sSeq (sIf (mOr (mNot (mN (callO O9) (mCons (mN (callO O4) (mCons (mVar 7) (mCons (mVar 5) (mCons (mVar 3) mNil)))) (mCons (mVar 6) mNil)))) (m2 (cmpO .NotEq) (mN (callO O12) (mCons (mVar 1) (mCons (mVar 5) (mCons (mVar 3) mNil)))) (mVar 6)))
 (sSeq (sRet (mCst (.bl false)))
 sSkip)
 sSkip)
 (sSeq (sIf (mNot (mN (callO O8) (mCons (mN (callO O2) (mCons (mVar 1) (mCons (mVar 5) (mCons (mVar 3) mNil)))) (mCons (mN (callO O7) (mCons (mVar 1) (mCons (mVar 5) (mCons (mVar 9) mNil)))) mNil))))
 (sSeq (sRet (mCst (.bl false)))
 sSkip)
 sSkip)
 sSkip))))))))
 (sSeq (sRet (mCst (.bl true)))
 sSkip))))
noncomputable def O13:FnO:=lawD 10 da13 3 0 [9] db13
noncomputable def UF:TabO:={ U13 with fz:=["_law_table_here"] }
noncomputable def sa13:List Stmt:=(defBody (top 25)).take 3
noncomputable def sb13:List Stmt:=(defBody (top 25)).drop (3 + 1)
theorem so13:fnScB NO13 PO13 (defScope (top 25))=true:=by decide +kernel
theorem ka13:trSsO (trSx U13 td 60 (defScope (top 25)) NO13 30) sa13=some da13:=rfl
theorem kb13:trSsO (trSx UF td 60 (defScope (top 25)) NO13 30) sb13=some db13:=rfl
theorem hb13:defBody (top 25)=sa13++.FunctionDef CD0.name CD0.params CD0.body [] none [] CD0.scope none CD0.name (defPos cst)::sb13:=rfl
theorem din:DefIn "law" (defScope (top 25)) NO13 CD0 3 [9] (cclO CD0.cn (defScope (top 25))):=defIn_of (by decide +kernel) (fun _ _ _=>rfl) (fun _=>rfl) fun _ _ _=>rfl
end
end K35
namespace K35
open PySem PySem.Spec L2 Mir
theorem f1_eq:F1=pureOf (fnO 4 3 (cDrwO (pureOf (fnO 8 3 cMixO)))):=rfl
theorem o2_eq:O2=fnO 6 3 (cPapOf CLs):=rfl
theorem o4_eq:O4=fnO 3 3 (cFoundAll CLs):=rfl
theorem o5_eq:O5=fnO 12 3 (cNamesO F1):=rfl
theorem o6_eq:O6=fnO 9 4 (cTableO F1):=rfl
theorem o7_eq:O7=fnO 4 3 cPaperO:=rfl
theorem o8_eq:O8=fnO 2 2 (cAlike F2):=rfl
theorem o9_eq:O9=fnO 2 2 cList:=rfl
theorem o11_eq:O11=fnO 4 1 (cBehind (fnO 2 2 cList) (fnO 2 2 cRest)):=rfl
theorem o12_eq:O12=fnO 6 3 (cWalk (fnO 2 2 cRest) (fnO 6 3 (cPapOf CLs))):=rfl
theorem drw:∃ δ,DrwAt δ F1:=drw_at (f1_eq▸drawnO_at fun c t m h1 h2 h3=>mixO_ok h1 h2 h3)
theorem wh_at(i:Int):F2 [.int i]=.ok (false,.bl true):=by
 refine pureOf_ok (Ω':=[]) rfl ?_ rfl
 unfold OP2
 rw[fnO_eq (by rfl)]
 show finO (dP2 [some (.int i)] [])=_
 have h1:isiO .bool (.int i) []=.ok (.bl false) []:=rfl
 have h2:isiO .int (.int i) []=.ok (.bl true) []:=rfl
 simp[dP2,h1,h2]
theorem oc_str(z:Str)(Ω:Sto):O1 [.str z,.int 0] Ω=.ok (.str z) Ω:=by
 unfold O1
 rw[fnO_eq (by rfl)]
 show finO (d1 [some (.str z),some (.int 0)] Ω)=_
 have h1:isiO .list (.str z) Ω=.ok (.bl false) Ω:=rfl
 have h2:isiO .tuple (.str z) Ω=.ok (.bl false) Ω:=rfl
 have h3:isiO .dict (.str z) Ω=.ok (.bl false) Ω:=rfl
 simp[d1,h1,h2,h3]
section
variable{Ω Ω':Sto}{σ:Str->Int}{fn t kl:Nat}{kvs:List (List Key×Mir.D)}{w:Str}{line:List Str}
theorem ref_true{x:Str}(hl:Ω[kl]?=some (.lst (line.map .str)))(hx:x∉line):O10 [.ref kl,.str x] Ω=.ok (.bl true) Ω:=by
 have h1:=nin_ref (w:=x) hl
 rw[decide_eq_false hx]at h1
 have ht:tstO (m2 (cmpO .NotIn) (mVar 1) (mVar 0) (entryO 2 [Mir.D.ref kl,.str x]) Ω)=.ok true Ω:=by
  show tstO (m2 (cmpO .NotIn) (mVar 1) (mVar 0) [some (.ref kl),some (.str x)] Ω)=_
  rw[m2_eq]
  have a1:mVar 1 [some (.ref kl),some (.str x)] Ω=.ok (.str x) Ω:=rfl
  have a2:mVar 0 [some (.ref kl),some (.str x)] Ω=.ok (.ref kl) Ω:=rfl
  rw[a1,ob_ok,a2,ob_ok,h1]
  rfl
 unfold O10 refO
 rw[if_pos ⟨rfl,⟨x,rfl,rfl⟩,ht⟩]
end
end K35
namespace K35
open PySem PySem.Spec L2 Mir
section
variable{Ω Ω':Sto}{ns:List Int}{kx kw fn t:Nat}{xs ws:List Str}{a4 a5 a6 a7 a8:Option Mir.D}
noncomputable abbrev E(ns:List Int)(kx kw fn t:Nat)(a4 a5 a6 a7 a8:Option Mir.D):OEnv:=[some (SC ns),some (.ref kx),some (.ref kw),some (.ref fn),a4,a5,a6,a7,a8,some (.ref t)]
noncomputable def rF:SM:=(sSeq (sRet (mCst (.bl false))) sSkip)
noncomputable def A1:EM:=mMth isSt joinO (mCst (.str "")) (mCons (mSlc (mVar 1) true (mCst .non) false (mCst (.int 2))) mNil)
noncomputable def A2:IM:=mSrc (m2 (binO .Add) (mN lstN (mCons (mCst (.str "-")) (mCons (mCst (.str "")) (mCons (m2 (binO .Add) A1 (mCst (.str "x"))) mNil)))) (mVar 2))
noncomputable def A3:SM:=(sSeq (sIf (mAnd (m2 (cmpO .NotIn) (mVar 4) (mVar 1)) (mNot (mN (callO O10) (mCons (mVar 1) (mCons (mVar 4) mNil))))) rF sSkip) sSkip)
theorem strs_map(us:List Str):strsD (us.map Mir.D.str)=some us:=by
 induction us with
 | nil=>rfl
 | cons x r ih=>
  show(strsD (r.map Mir.D.str)).map (x :: ·)=_
  rw[ih];rfl
theorem A3_ok{y:Str}(hx:Ω[kx]?=some (.lst (xs.map .str))):A3 (E ns kx kw fn t (some (.str y)) a5 a6 a7 a8) Ω=.nx (E ns kx kw fn t (some (.str y)) a5 a6 a7 a8) Ω:=by
 have h1:=nin_ref (w:=y) hx
 have hm:m2 (cmpO .NotIn) (mVar 4) (mVar 1) (E ns kx kw fn t (some (.str y)) a5 a6 a7 a8) Ω=.ok (.bl (!decide (y∈xs))) Ω:=by
  rw[m2_eq]
  have a1:mVar 4 (E ns kx kw fn t (some (.str y)) a5 a6 a7 a8) Ω=.ok (.str y) Ω:=rfl
  have a2:mVar 1 (E ns kx kw fn t (some (.str y)) a5 a6 a7 a8) Ω=.ok (.ref kx) Ω:=rfl
  rw[a1,ob_ok,a2,ob_ok,h1]
 have ht:tstO (mAnd (m2 (cmpO .NotIn) (mVar 4) (mVar 1)) (mNot (mN (callO O10) (mCons (mVar 1) (mCons (mVar 4) mNil)))) (E ns kx kw fn t (some (.str y)) a5 a6 a7 a8) Ω)=.ok false Ω:=by
  by_cases hy:y∈xs
  ·rw[decide_eq_true hy]at hm
   rw[mAnd_eq,hm]
   rfl
  ·rw[decide_eq_false hy]at hm
   have hr:=ref_true hx hy
   rw[mAnd_eq,hm,ob_ok,truO_bl]
   show tstO (Mir.tIf (some true) _ _)=_
   rw[Mir.tIf_t]
   simp[hr]
 unfold A3
 rw[sSeq_eq,sIf_eq,ht]
 rfl
theorem A2_ok(hx:Ω[kx]?=some (.lst (xs.map .str)))(hw:Ω[kw]?=some (.lst (ws.map .str)))(hL:∀ x∈xs,x.length<=17)(bw:ws.length<=20) :
  ∃ (k:Nat) (Ω':Sto) (us:List Str),A2 (E ns kx kw fn t a4 a5 a6 a7 a8) Ω=.ok (.seq (.ref k)) Ω'/\Ω'[k]?=some (.lst (us.map .str))/\us.length<=30/\Keep [] Ω Ω':=by
 have hs:=slc_hi (n:=2) hx
 have g1:(Ω++[Cell.lst ((xs.take 2).map .str)])[Ω.length]?=some (.lst ((xs.take 2).map .str)):=get_new
 have K1:Keep [] Ω (Ω++[Cell.lst ((xs.take 2).map .str)]):=Keep.app
 generalize Ω++[Cell.lst ((xs.take 2).map .str)]=Ω1 at *
 have hsum:((xs.take 2).map (·.length)).sum<=34:=by
  have h2:∀ x∈xs.take 2,x.length<=17:=fun x h=>hL x (List.mem_of_mem_take h)
  have hl:(xs.take 2).length<=2:=by simp;omega
  generalize xs.take 2=ys at *
  match ys,hl,h2 with
  | [],_,_=>simp
  | [a],_,h=>have:=h a (by simp);simp;omega
  | [a,b],_,h=>have:=h a (by simp);have:=h b (by simp);simp;omega
 have hlen:(xs.take 2).length<=2:=by simp;omega
 generalize xs.take 2=ys at *
 have hst:=strs_map ys
 have hjl:(Txt.join "" ys).length<=34:=by
  show(Builtin.Str.glued "" ys).length<=_
  rw[size_glued,show("":Str).length=0 by decide];simp;omega
 have hjn:mthD .join (.str "") (.tup [.lst (ys.map Mir.D.str)])=.ok (false,.str (Txt.join "" ys)):=by
  simp only[mthD,hst]
  rw[if_pos]
  rw[Bool.and_eq_true,decide_eq_true_eq,decide_eq_true_eq]
  exact⟨by decide,by omega⟩
 have hre:rei Ω1 8 (.ref Ω.length)=some (.lst (ys.map .str)):=rei_strs (n:=7) g1
 have m1:A1 (E ns kx kw fn t a4 a5 a6 a7 a8) Ω=.ok (.str (Txt.join "" ys)) Ω1:=by
  unfold A1
  rw[mth_at (x:=.str "") (Ω':=Ω) rfl rfl]
  have hs':slcO (.ref kx) none (some 2) Ω=.ok (.ref Ω.length) Ω1:=hs
  have hj:joinO (.str "") [.ref Ω.length] Ω1=.ok (.str (Txt.join "" ys)) Ω1:=by
   show via2 (fun a b=>mthD .join a (.tup [b])) (.str "") (.ref Ω.length) Ω1=_
   rw[via2_eq,hre]
   show outO Ω1 (mthD .join (.str "") (.tup [.lst (ys.map Mir.D.str)]))=_
   rw[hjn]
   rfl
  simp[hs',hj]
 have sx:("x":Str).length=1:=by decide
 have sm:small ((Txt.join "" ys).length + ("x":Str).length)=true:=small_of (by omega)
 generalize Txt.join "" ys=J at *
 have m2':(m2 (binO .Add) A1 (mCst (.str "x"))) (E ns kx kw fn t a4 a5 a6 a7 a8) Ω=.ok (.str (J++"x")) Ω1:=by
  rw[m2_eq,m1,ob_ok]
  simp[sm]
 have m3:mN lstN (mCons (mCst (.str "-")) (mCons (mCst (.str "")) (mCons (m2 (binO .Add) A1 (mCst (.str "x"))) mNil))) (E ns kx kw fn t a4 a5 a6 a7 a8) Ω=.ok (.ref Ω1.length) (Ω1++[.lst ((["-","",J++"x"]:List Str).map .str)]):=by
  simp only[mN_eq,mCons_eq,mCst_eq,ob_ok,m2',mNil_eq]
  rfl
 have g3:(Ω1++[Cell.lst ((["-","",J++"x"]:List Str).map .str)])[Ω1.length]?=some (.lst ((["-","",J++"x"]:List Str).map .str)):=get_new
 have K3:Keep [] Ω1 (Ω1++[Cell.lst ((["-","",J++"x"]:List Str).map .str)]):=Keep.app
 generalize Ω1++[Cell.lst ((["-","",J++"x"]:List Str).map .str)]=Ω2 at *
 have hc:binO .Add (.ref Ω1.length) (.ref kw) Ω2=.ok (.ref Ω2.length) (Ω2++[.lst ((["-","",J++"x"]:List Str).map .str++ws.map .str)]):=by
  rw[binO_Add,catO_eq,lst_ref g3,lst_ref ((K1.trans K3).get _ _ hw (by simp)),ct_some,if_pos (small_of (by simp;omega))]
  rfl
 rw[← List.map_append]at hc
 refine⟨Ω2.length,Ω2++[.lst (((["-","",J++"x"]:List Str)++ws).map .str)],((["-","",J++"x"]:List Str)++ws),?_,get_new,by simp;omega,(K1.trans K3).trans Keep.app⟩
 have hsrc:srcOf (Ω2++[.lst (((["-","",J++"x"]:List Str)++ws).map .str)]) (.ref Ω2.length)=.ok (.seq (.ref Ω2.length)) (Ω2++[.lst (((["-","",J++"x"]:List Str)++ws).map .str)]):=srcOf_seq (x:=.ref Ω2.length) (by rw[seq_ref,lst_ref get_new])
 unfold A2
 rw[mSrc_eq,m2_eq,m3,ob_ok]
 have a2:mVar 2 (E ns kx kw fn t a4 a5 a6 a7 a8) Ω2=.ok (.ref kw) Ω2:=rfl
 rw[a2,ob_ok,hc,ob_ok,hsrc]
end
end K35
namespace K35
open PySem PySem.Spec L2 Mir
noncomputable def stv(kvs:List (List Key×Mir.D))(w x:Str):Int:=match valG kvs (kk2 x w) with
 | some (.int v)=>v
 | _=>0
theorem st_at{kvs:List (List Key×Mir.D)}{xs ws line:List Str}{w:Str}(h:HasT kvs fun x w=>x∈xs/\w∈ws)(hw:w∈ws)(hl:∀ x∈line,x∈xs):StAt kvs w line (stv kvs w):=fun x hx=>by
 obtain⟨v,v0,v1,e⟩:=h x w ⟨hl x hx,hw⟩
 have:stv kvs w x=v:=by unfold stv;rw[e]
 rw[this];exact⟨v0,v1,e⟩
section
variable{Ω Ω':Sto}{σ:Str->Int}{fn t kx kw:Nat}{kvs:List (List Key×Mir.D)}{w:Str}{line xs ws:List Str}{ns:List Int}{a4 a5 a6 a7 a8:Option Mir.D}
noncomputable def Rd(fn t:Nat)(kvs:List (List Key×Mir.D))(_:List Str)(Ω:Sto):Prop:=Ω[fn]?=some (.fn 0 [.ref t])/\Ω[t]?=some (.dT kvs)
theorem asks(hσ:StAt kvs w line σ):Asks CLs fn w σ line [] (max fn t + 1) (Rd fn t kvs):=by
 refine⟨fun ys Ω Ω' fq h K hb=>⟨K.get _ _ h.1 fun z => ?_,K.get _ _ h.2 fun z => ?_⟩,fun ys Ω x hx hy h => ?_,by simp⟩
 ·have:=hb _ z;omega
 ·have:=hb _ z;omega
 ·have hit:=idx_tt h.2 (hσ x hx).2.2
  refine⟨isFn_at h.1,Ω,?_,h,Keep.refl⟩
  rw[cvF_at h.1 (F:=O0) rfl]
  have e:O0 [.ref t] [.str x,.str w] Ω=.ok (.int (σ x)) Ω:=by
   show finO (d0 [some (.str x),some (.str w),some (.ref t)] Ω)=_
   simp[d0,small_of,hit]
  rw[e];rfl
theorem papOf{k:Nat}{rest:List Str}(hf:Ω[fn]?=some (.fn 0 [.ref t]))(ht:Ω[t]?=some (.dT kvs))(hσ:StAt kvs w rest σ)(hk:Ω[k]?=some (.lst (rest.map .str)))(bl:rest.length<=100):∃ Ω',O2 [.ref k,.str w,.ref fn] Ω=.ok (papD σ rest []) Ω'/\Keep [] Ω Ω':=by
 have h1:=get_lt hf
 have h2:=get_lt ht
 obtain⟨Ω1,e1,_,K1⟩:=papOf_ok (asks (fn:=fn) (t:=t) hσ) (ys:=[]) hk ⟨hf,ht⟩ (by omega) (by simp) (by simp;omega)
 exact⟨Ω1,by rw[o2_eq];exact e1,K1⟩
structure J(Ω:Sto)(kx kw fn t:Nat)(xs ws:List Str)(kvs:List (List Key×Mir.D)):Prop where
 hx:Ω[kx]?=some (.lst (xs.map .str))
 hw:Ω[kw]?=some (.lst (ws.map .str))
 hf:Ω[fn]?=some (.fn 0 [.ref t])
 ht:Ω[t]?=some (.dT kvs)
theorem J.keep(h:J Ω kx kw fn t xs ws kvs)(K:Keep [] Ω Ω'):J Ω' kx kw fn t xs ws kvs:=⟨K.get _ _ h.hx (by simp),K.get _ _ h.hw (by simp),K.get _ _ h.hf (by simp),K.get _ _ h.ht (by simp)⟩
theorem J.tells(h:J Ω kx kw fn t xs ws kvs)(hσ:StAt kvs w xs σ):Tells CLs fn t w σ xs Ω:=⟨0,kvs,rfl,h.hf,h.ht,hσ⟩
theorem pap_at'(h:J Ω kx kw fn t xs ws kvs)(hσ:StAt kvs w xs σ)(bx:xs.length<=20)(Ω1:Sto)(fp:List Nat)(K:Keep [] Ω Ω1)(hfp:∀ j∈fp,Ω.length<=j):PapAt O2 w fn σ xs Ω1 fp:=by
 intro Ω2 k rest K2 hk hs hl
 have h1:=get_lt h.hf
 have h2:=get_lt h.ht
 exact papOf (K2.get _ _ (K.get _ _ h.hf (by simp)) fun z=>by have:=hfp _ z;omega) (K2.get _ _ (K.get _ _ h.ht (by simp)) fun z=>by have:=hfp _ z;omega) (fun x hx=>hσ x (hs x hx)) hk (by omega)
noncomputable def mFa:EM:=mN (callO O4) (mCons (mVar 7) (mCons (mVar 5) (mCons (mVar 3) mNil)))
noncomputable def C4:SM:=sIf (mOr (mNot (mN (callO O9) (mCons (mVar 8) (mCons (mVar 6) mNil)))) (m2 (cmpO .NotEq) (mVar 7) (mVar 1))) rF sSkip
noncomputable def C6:SM:=sIf (mOr (mNot (mN (callO O9) (mCons mFa (mCons (mVar 6) mNil)))) (m2 (cmpO .NotEq) (mN (callO O12) (mCons (mVar 1) (mCons (mVar 5) (mCons (mVar 3) mNil)))) (mVar 6))) rF sSkip
noncomputable def C7:SM:=sIf (mNot (mN (callO O8) (mCons (mN (callO O2) (mCons (mVar 1) (mCons (mVar 5) (mCons (mVar 3) mNil)))) (mCons (mN (callO O7) (mCons (mVar 1) (mCons (mVar 5) (mCons (mVar 9) mNil)))) mNil)))) rF sSkip
noncomputable def Cw:SM:=sSeq (sAsg 6 (dueC 1 9 5)) (sSeq (sAsg 7 (mN (bltO .list) (mCons (mVar 1) mNil))) (sSeq (sAsg 8 mFa) (sSeq C4 (sSeq (sExp (mMth isL appendO (mVar 8) (mCons (mVar 5) mNil))) (sSeq C6 (sSeq C7 sSkip))))))
theorem db_eq:db13=sSeq (sFor (putO1 4) A2 A3) (sSeq (sIf (mNot (mN (callO O11) (mCons (mVar 1) mNil))) rF sSkip) (sSeq (sFor (putO1 5) (mSrc (mVar 2)) Cw) (sSeq (sRet (mCst (.bl true))) sSkip))):=rfl
end
end K35
namespace K35
open PySem PySem.Spec L2 Mir
section
variable{Ω Ω':Sto}{σ:Str->Int}{fn t kx kw:Nat}{kvs:List (List Key×Mir.D)}{w:Str}{xs ws:List Str}{ns:List Int}{a4 a6 a7 a8:Option Mir.D}
theorem Cw_ok(h:J Ω kx kw fn t xs ws kvs)(hσ:StAt kvs w xs σ)(bx:xs.length<=20) :
  ∃ b6 b7 b8 Ω',Cw (E ns kx kw fn t a4 (some (.str w)) a6 a7 a8) Ω=.nx (E ns kx kw fn t a4 (some (.str w)) b6 b7 b8) Ω'/\J Ω' kx kw fn t xs ws kvs:=by
 have e1:=due_ok (ρ:=E ns kx kw fn t a4 (some (.str w)) a6 a7 a8) (i:=1) (j:=9) (k:=5) rfl rfl h.hx h.ht hσ (by omega)
 have bf:(xs.filter fun x => !(σ x == 0)).length<=20:=Nat.le_trans (List.length_filter_le _ _) bx
 generalize hdue:(xs.filter fun x => !(σ x == 0))=due at *
 have gd1:(Ω++[Cell.lst (due.map .str)])[Ω.length]?=some (.lst (due.map .str)):=get_new
 have K1:Keep [] Ω (Ω++[Cell.lst (due.map .str)]):=Keep.app
 generalize Ω++[Cell.lst (due.map .str)]=Ω1 at *
 generalize hkd:Ω.length=kd at *
 have h1:=h.keep K1
 have e2:=list_ref h1.hx (by simp;omega)
 have gh2:(Ω1++[Cell.lst (xs.map .str)])[Ω1.length]?=some (.lst (xs.map .str)):=get_new
 have K2:Keep [] Ω1 (Ω1++[Cell.lst (xs.map .str)]):=Keep.app
 generalize Ω1++[Cell.lst (xs.map .str)]=Ω2 at *
 generalize Ω1.length=hh at *
 have h2:=h1.keep K2
 have gd2:=K2.get _ _ gd1 (by simp)
 have e3:=foundV (h2.tells hσ) gh2 (by omega)
 rw[← o4_eq,hdue]at e3
 have gf3:(Ω2++[Cell.lst (due.map .str)])[Ω2.length]?=some (.lst (due.map .str)):=get_new
 have K3:Keep [] Ω2 (Ω2++[Cell.lst (due.map .str)]):=Keep.app
 have n1:kd≠Ω2.length:=by have:=get_lt gd2;omega
 have n2:hh≠Ω2.length:=by have:=get_lt gh2;omega
 have n0:Ω.length<=Ω2.length:=(K1.trans K2).len
 generalize Ω2++[Cell.lst (due.map .str)]=Ω3 at *
 generalize hkf:Ω2.length=kf at *
 have h3:=h2.keep K3
 have gd3:=K3.get _ _ gd2 (by simp)
 have gh3:=K3.get _ _ gh2 (by simp)
 obtain⟨Ω4,e4,K4⟩:=list_ok gf3 gd3 (by omega)
 rw[decide_eq_true rfl,← o9_eq]at e4
 have h4:=h3.keep K4
 have gh4:=K4.get _ _ gh3 (by simp)
 have gd4:=K4.get _ _ gd3 (by simp)
 have gf4:=K4.get _ _ gf3 (by simp)
 have hn4:=ne_strs gh4 h4.hx
 rw[decide_eq_true rfl]at hn4
 have s4:C4 (E ns kx kw fn t a4 (some (.str w)) (some (.ref kd)) (some (.ref hh)) (some (.ref kf))) Ω3=.nx (E ns kx kw fn t a4 (some (.str w)) (some (.ref kd)) (some (.ref hh)) (some (.ref kf))) Ω4:=by
  unfold C4
  rw[sIf_eq]
  have:tstO (mOr (mNot (mN (callO O9) (mCons (mVar 8) (mCons (mVar 6) mNil)))) (m2 (cmpO .NotEq) (mVar 7) (mVar 1)) (E ns kx kw fn t a4 (some (.str w)) (some (.ref kd)) (some (.ref hh)) (some (.ref kf))) Ω3)=.ok false Ω4:=by
   simp[e4,hn4,-cmpO_Ne]
  rw[this]
  rfl
 have ha:=append_ref (d:=.str w) gf4 (by simp;omega)
 have K5:Keep [kf] Ω4 (Ω4.set kf (.lst (due.map .str++[.str w]))):=Keep.set (by simp)
 have s5:(sExp (mMth isL appendO (mVar 8) (mCons (mVar 5) mNil))) (E ns kx kw fn t a4 (some (.str w)) (some (.ref kd)) (some (.ref hh)) (some (.ref kf))) Ω4=.nx (E ns kx kw fn t a4 (some (.str w)) (some (.ref kd)) (some (.ref hh)) (some (.ref kf))) (Ω4.set kf (.lst (due.map .str++[.str w]))):=by
  rw[sExp_eq,mth_at (x:=.ref kf) (Ω':=Ω4) rfl (isL_ref gf4)]
  simp[ha]
 generalize Ω4.set kf (.lst (due.map .str++[.str w]))=Ω5 at *
 have KA:Keep [] Ω Ω4:=((K1.trans K2).trans K3).trans K4
 have K05:Keep [] Ω Ω5:=KA.new K5 (by simp;omega)
 have h5:=h.keep K05
 have gh5:=K5.get _ _ gh4 (by simp[n2])
 have gd5:=K5.get _ _ gd4 (by simp[n1])
 have e6:=foundV (h5.tells hσ) gh5 (by omega)
 rw[← o4_eq,hdue]at e6
 have g6:(Ω5++[Cell.lst (due.map .str)])[Ω5.length]?=some (.lst (due.map .str)):=get_new
 have K6:Keep [] Ω5 (Ω5++[Cell.lst (due.map .str)]):=Keep.app
 generalize Ω5++[Cell.lst (due.map .str)]=Ω6 at *
 generalize Ω5.length=kg at *
 obtain⟨Ω7,e7,K7⟩:=list_ok g6 (K6.get _ _ gd5 (by simp)) (by omega)
 rw[decide_eq_true rfl,← o9_eq]at e7
 have h7:=(h5.keep K6).keep K7
 obtain⟨k8,Ω8,e8,g8,K8⟩:=walked_ok (pap_at' h7 hσ bx) h7.hx (by omega)
 rw[o2_eq,← o12_eq]at e8
 rw[hdue]at g8
 have gd8:=((K6.trans K7).trans K8).get _ _ gd5 (by simp)
 have hn8:=ne_strs g8 gd8
 rw[decide_eq_true rfl]at hn8
 have h8:=h7.keep K8
 have s6:C6 (E ns kx kw fn t a4 (some (.str w)) (some (.ref kd)) (some (.ref hh)) (some (.ref kf))) Ω5=.nx (E ns kx kw fn t a4 (some (.str w)) (some (.ref kd)) (some (.ref hh)) (some (.ref kf))) Ω8:=by
  unfold C6
  rw[sIf_eq]
  have:tstO (mOr (mNot (mN (callO O9) (mCons mFa (mCons (mVar 6) mNil)))) (m2 (cmpO .NotEq) (mN (callO O12) (mCons (mVar 1) (mCons (mVar 5) (mCons (mVar 3) mNil)))) (mVar 6)) (E ns kx kw fn t a4 (some (.str w)) (some (.ref kd)) (some (.ref hh)) (some (.ref kf))) Ω5)=.ok false Ω8:=by
   simp[mFa,e6,e7,e8,hn8,-cmpO_Ne]
  rw[this]
  rfl
 obtain⟨Ω9,e9,K9⟩:=papOf h8.hf h8.ht hσ h8.hx (by omega)
 have h9:=h8.keep K9
 obtain⟨Ω10,e10,K10⟩:=paperO_ok h9.hx h9.ht hσ (by omega)
 rw[← o7_eq]at e10
 obtain⟨Ω11,e11,K11⟩:=alike_ok (Ω:=Ω10) (σ:=σ) wh_at xs (by omega)
 rw[← o8_eq]at e11
 have h11:=(h9.keep K10).keep K11
 have s7:C7 (E ns kx kw fn t a4 (some (.str w)) (some (.ref kd)) (some (.ref hh)) (some (.ref kf))) Ω8=.nx (E ns kx kw fn t a4 (some (.str w)) (some (.ref kd)) (some (.ref hh)) (some (.ref kf))) Ω11:=by
  unfold C7
  rw[sIf_eq]
  have:tstO (mNot (mN (callO O8) (mCons (mN (callO O2) (mCons (mVar 1) (mCons (mVar 5) (mCons (mVar 3) mNil)))) (mCons (mN (callO O7) (mCons (mVar 1) (mCons (mVar 5) (mCons (mVar 9) mNil)))) mNil))) (E ns kx kw fn t a4 (some (.str w)) (some (.ref kd)) (some (.ref hh)) (some (.ref kf))) Ω8)=.ok false Ω11:=by
   simp[e9,e10,e11]
  rw[this]
  rfl
 refine⟨some (.ref kd),some (.ref hh),some (.ref kf),Ω11,?_,h11⟩
 have s1:(sAsg 6 (dueC 1 9 5)) (E ns kx kw fn t a4 (some (.str w)) a6 a7 a8) Ω=.nx (E ns kx kw fn t a4 (some (.str w)) (some (.ref kd)) a7 a8) Ω1:=by rw[sAsg_eq,e1];rfl
 have s2:(sAsg 7 (mN (bltO .list) (mCons (mVar 1) mNil))) (E ns kx kw fn t a4 (some (.str w)) (some (.ref kd)) a7 a8) Ω1=.nx (E ns kx kw fn t a4 (some (.str w)) (some (.ref kd)) (some (.ref hh)) a8) Ω2:=by simp[e2]
 have s3:(sAsg 8 mFa) (E ns kx kw fn t a4 (some (.str w)) (some (.ref kd)) (some (.ref hh)) a8) Ω2=.nx (E ns kx kw fn t a4 (some (.str w)) (some (.ref kd)) (some (.ref hh)) (some (.ref kf))) Ω3:=by simp[mFa,e3]
 unfold Cw
 rw[sSeq_eq,s1,sq_nx,sSeq_eq,s2,sq_nx,sSeq_eq,s3,sq_nx,sSeq_eq,s4,sq_nx,sSeq_eq,s5,sq_nx,sSeq_eq,s6,sq_nx,sSeq_eq,s7,sq_nx]
 rfl
theorem back(hx:xs.length<=20)(hw':ws.length<=20)(hL:∀ x∈xs,Ltr x)(hn:xs.Nodup)(hT:HasT kvs fun x w=>x∈xs/\w∈ws)(h:J Ω kx kw fn t xs ws kvs):∃ Ω',finO (db13 (E ns kx kw fn t none none none none none) Ω)=.ok (.bl true) Ω':=by
 rw[db_eq]
 obtain⟨k,Ω1,us,e1,g1,bu,K1⟩:=A2_ok (ns:=ns) (fn:=fn) (t:=t) (a4:=none) (a5:=none) (a6:=none) (a7:=none) (a8:=none) h.hx h.hw (fun x hx=>(hL x hx).1) hw'
 have h1:=h.keep K1
 rw[sSeq_eq,sFor_eq,e1,lo_ok]
 refine loopO_ix (R:=fun r=>∃ Ω',finO (sq r _)=.ok (.bl true) Ω') (ds:=us.map .str) (fun _ ρ Ω2=>(∃ a4,ρ=E ns kx kw fn t a4 none none none none)/\Ω2=Ω1) ?_ ?_ ?_ fuel 0 _ _ (by unfold fuel;simp;omega) (Nat.zero_le _) ⟨⟨none,rfl⟩,rfl⟩
 ·rintro i ρ Ω2 ⟨_,rfl⟩
  rw[src_seq,seq_ref,lst_ref g1]
 ·rintro i d ρ Ω2 hd ⟨⟨a4,rfl⟩,rfl⟩
  obtain⟨y,_,rfl⟩:=Mir.str_at hd
  refine⟨E ns kx kw fn t (some (.str y)) none none none none,rfl,?_⟩
  rw[A3_ok h1.hx]
  exact⟨⟨_,rfl⟩,rfl⟩
 ·rintro ρ Ω2 ⟨⟨a4,rfl⟩,rfl⟩
  rw[sq_nx]
  obtain⟨Ω3,e3,K3⟩:=behind_ok h1.hx (by omega) hn
  rw[← o11_eq]at e3
  have s3:(sIf (mNot (mN (callO O11) (mCons (mVar 1) mNil))) rF sSkip) (E ns kx kw fn t a4 none none none none) Ω2=.nx (E ns kx kw fn t a4 none none none none) Ω3:=by
   simp[e3]
  have h3:=h1.keep K3
  have hsr:mSrc (mVar 2) (E ns kx kw fn t a4 none none none none) Ω3=.ok (.seq (.ref kw)) Ω3:=by
   simp[srcOf_seq (x:=.ref kw) (by rw[seq_ref,lst_ref h3.hw])]
  rw[sSeq_eq,s3,sq_nx,sSeq_eq,sFor_eq,hsr,lo_ok]
  refine loopO_ix (R:=fun r=>∃ Ω',finO (sq r (sSeq (sRet (mCst (.bl true))) sSkip))=.ok (.bl true) Ω') (ds:=ws.map .str) (fun _ ρ Ω2=>∃ a5 a6 a7 a8,ρ=E ns kx kw fn t a4 a5 a6 a7 a8/\J Ω2 kx kw fn t xs ws kvs) ?_ ?_ ?_ fuel 0 _ _ (by unfold fuel;simp;omega) (Nat.zero_le _) ⟨none,none,none,none,rfl,h3⟩
  ·rintro i ρ Ω4 ⟨_,_,_,_,_,h4⟩
   rw[src_seq,seq_ref,lst_ref h4.hw]
  ·rintro i d ρ Ω4 hd ⟨a5,a6,a7,a8,rfl,h4⟩
   obtain⟨w,hwi,rfl⟩:=Mir.str_at hd
   refine⟨E ns kx kw fn t a4 (some (.str w)) a6 a7 a8,rfl,?_⟩
   obtain⟨b6,b7,b8,Ω5,e5,h5⟩:=Cw_ok (a4:=a4) (a6:=a6) (a7:=a7) (a8:=a8) (ns:=ns) h4 (st_at hT (List.mem_of_getElem? hwi) fun x hx=>hx) hx
   rw[e5]
   exact⟨_,b6,b7,b8,rfl,h5⟩
  ·rintro ρ Ω4 ⟨a5,a6,a7,a8,rfl,h4⟩
   exact⟨Ω4,rfl⟩
end
theorem law_true(ns:List Int)(hl:ns.length<=63):∃ Ω',O13 [.lst (ns.map .int)] []=.ok (.bl true) Ω':=by
 obtain⟨δ,hδ⟩:=drw
 obtain⟨p0,p1,hp⟩:=hδ ns 6 13 hl (by omega) (by omega) (by omega)
 obtain⟨q0,q1,hq⟩:=hδ ns 16 3 hl (by omega) (by omega) (by omega)
 generalize δ ns 6 13=p at *
 generalize δ ns 16 3=q at *
 obtain⟨xs,Ω1,kx,lx,hL,hnd,e1,gx1,K1,b1⟩:=namesN_ok (Ω:=[]) hδ hl (a:=0) (by omega) (by omega) (n:=p.toNat) (by omega)
 obtain⟨ws,Ω2,kw,lw,_,e2,gw2,K2,b2⟩:=namesO_ok (Ω:=Ω1) hδ hl (a:=10) (by omega) (by omega) (n:=(1 + q).toNat) (by omega)
 have gx2:=K2.get _ _ gx1 (by simp)
 obtain⟨kvs,Ω3,t,e3,gt3,hT,_,K3,b3⟩:=tableO_ok (Ω:=Ω2) hδ hl (a:=20) (by omega) (by omega) gx2 gw2 (by omega) (by omega)
 rw[show((p.toNat:Nat):Int)=p by omega,← o5_eq]at e1
 rw[show(((1 + q).toNat:Nat):Int)=1 + q by omega,← o5_eq]at e2
 rw[← o6_eq]at e3
 have gx3:=K3.get _ _ gx2 (by simp)
 have gw3:=K3.get _ _ gw2 (by simp)
 unfold O13 lawD
 have e0:entryO 10 [Mir.D.lst (ns.map .int)]=[some (SC ns),none,none,none,none,none,none,none,none,none]:=rfl
 rw[e0]
 have rA:da13 [some (SC ns),none,none,none,none,none,none,none,none,none] []=.nx [some (SC ns),some (.ref kx),some (.ref kw),none,none,none,none,none,none,some (.ref t)] Ω3:=by
  simp[da13,hp,e1,hq,e2,e3,small_of]
 have rD:sDef 3 0 [9] [some (SC ns),some (.ref kx),some (.ref kw),none,none,none,none,none,none,some (.ref t)] Ω3=.nx (E ns kx kw Ω3.length t none none none none none) (Ω3++[.fn 0 [.ref t]]):=rfl
 rw[sSeq_eq,rA,sq_nx,sSeq_eq,rD,sq_nx]
 exact back (by omega) (by omega) hL hnd hT ⟨get_app gx3,get_app gw3,get_new,get_app gt3⟩
end K35
namespace K35
open PySem PySem.Spec PyProof.Rows L2 Mir
noncomputable section
noncomputable def stI:Stmt:=inClass (top 8) 0
noncomputable def vI:Expr:=match defBody stI with
 | .Assign _ v _::_=>v
 | _=>.Constant .none 0 ⟨0,0,0,0⟩
theorem scI:fnScB ["self","name"] ["self","name"] (defScope stI)=true:=by decide +kernel
theorem sc10:fnScB NO10 PO10 (defScope (top 22))=true:=by decide +kernel
noncomputable def suiI:List Stmt:=match defBody (top 22) with
 | .Try _ [.ExceptHandler _ _ b _] _ _ _::_=>b
 | _=>[]
end
theorem sto_nil{κ:Str->Addr->Prop}{H:Hp}{a:Addr}{o:HO}(hR:L2.Rd H a o):StO κ [] (fun b=>b=a) [] H:=
 ⟨by simp,.nil,fun a ha=>by simp at ha,fun b e=>by
  subst e
  rcases hR with e | ⟨o,e⟩<;>rw[e]<;>simp⟩
theorem bodyI{K:PySem.W.Frag}{mg:Str->Option Value}{B0:Addr}(XB:XBase K mg "LookError" B0):∃ (bn:Str) (B0:Addr) (a1 a2 a3 p1 p2 p3 p4 p5 apos pos:Pos) (pl:Env->Sem Bool),XBase K mg bn B0/\(bn == ("__debug__":Str))=false/\(defScope stI).names.lookup bn=some .globalImplicit /\
  defBody stI=[.Assign [.Attribute (.Name "self" a1) "name" a2] vI a3,.Expr (.Call (.Attribute (.Name bn p1) "__init__" apos) [.Name "self" p2,.Attribute (.Name "self" p3) "name" p4] [] pos) p5] /\
  (∀ env,swapsWith vI (some (.Attribute (.Name "self" a1) "name" a2)) a3.line env=pure false)/\(apos.endLine == pos.line)=true /\
  (∀ env:Env,eval (.Call (.Attribute (.Name bn p1) "__init__" apos) [.Name "self" p2,.Attribute (.Name "self" p3) "name" p4] [] pos) env=(do
   let ov ← eval (.Name bn p1) env
   standAt apos.atName
   let (f,first) ← holding [ov] (getMethod ov "__init__" (pl env))
   callWith pos f first (backTo pos (starEach [.Name "self" p2,.Attribute (.Name "self" p3) "name" p4] env)) (backToKw pos (keywordEach [] env)))):=
 ⟨"LookError",B0,_,_,_,_,_,_,_,_,_,_,_,XB,rfl,rfl,rfl,fun _=>rfl,rfl,fun _=>rfl⟩
theorem sui10{K:PySem.W.Frag}{mg:Str->Option Value}{C q1 q2 q3 q4:Addr}(aC:mg "NotThere"=some (.ref C))(e1:mg "NoKind"=some (.ref q1))(e2:mg "NoName"=some (.ref q2))(e3:mg "NoStrength"=some (.ref q3))(e4:mg "Twice"=some (.ref q4))(e5:mg "ValueError"=none)
  (kV1:PySem.W.kitOne K (.ref C) (.type "ValueError")=some true) (kA:PySem.W.kitAny K (.ref C) [.ref q1,.ref q2,.ref q3,.ref q4]=some false) (kO:PySem.W.kitOne K (.ref C) (.ref C)=some true) :
  XSui K mg (defScope (top 22)) C "e" "_law_start" "name" suiI:=by
 refine⟨"ValueError","NotThere",[("NoKind",_),("NoName",_),("NoStrength",_),("Twice",_)],[.ref q1,.ref q2,.ref q3,.ref q4],.type "ValueError",_,_,_,_,_,_,_,_,_,_,_,_,_,_,_,_,_,_,_,_,_,_,_,_,_,rfl,fun X h1 h2 => ?_,by simp,kV1,kA,kO⟩
 have gl:∀ x:Str,(defScope (top 22)).names.lookup x=some .globalImplicit->Gl X x:=fun x h=>by show X.env.scope.names.lookup x=_;rw[h1];exact h
 subst h2
 exact⟨nameIs_blt (gl _ rfl) e5 rfl (by decide) rfl,.cons (nameIs_own (gl _ rfl) e1 rfl) (.cons (nameIs_own (gl _ rfl) e2 rfl) (.cons (nameIs_own (gl _ rfl) e3 rfl) (.cons (nameIs_own (gl _ rfl) e4 rfl) .nil))),nameIs_own (gl _ rfl) aC rfl⟩
theorem all_mk{P:Program}{w:World}{K:PySem.W.Frag}{h:Heap}{mg:Str->Option Value}{fa:Addr}(X:K.In h)(G:h.Ns mainGlobals mg)(hfa:mg "law"=some (.ref fa))
  (nb:noneAll K=true)
  {q0:Tok} (z0:PySem.W.nsIn K mainGlobals "DEEPEST"=some (some (.int 8 q0)))
  {f0:Addr} {od0 an0:Option Addr} {sl0:Array (Option Value)} {oc0 kV0 dc0 pm0 cd0 ct0:Value} (a0:PySem.W.nsIn K mainGlobals "_law_mix"=some (some (.ref f0))) (l0:K.lookup f0=some ⟨oc0,od0,.func (PySem.W.fnOf "_law_mix" "_law_mix" (defArgs (top 14)) (defBody (top 14)) (defScope (top 14)) .none kV0 dc0 pm0 an0 cd0 ct0),sl0⟩) (y0:PySem.W.codeIn K cd0 "_law_mix"=true) (w0:PySem.W.keepIn K (.ref f0)=true)
  {f1:Addr} {od1 an1:Option Addr} {sl1:Array (Option Value)} {oc1 kV1 dc1 pm1 cd1 ct1:Value} (a1:PySem.W.nsIn K mainGlobals "_law_drawn"=some (some (.ref f1))) (l1:K.lookup f1=some ⟨oc1,od1,.func (PySem.W.fnOf "_law_drawn" "_law_drawn" (defArgs (top 15)) (defBody (top 15)) (defScope (top 15)) .none kV1 dc1 pm1 an1 cd1 ct1),sl1⟩) (y1:PySem.W.codeIn K cd1 "_law_drawn"=true) (w1:PySem.W.keepIn K (.ref f1)=true)
  {f2:Addr} {od2 an2:Option Addr} {sl2:Array (Option Value)} {oc2 kV2 dc2 pm2 cd2 ct2:Value} (a2:PySem.W.nsIn K mainGlobals "_law_whole"=some (some (.ref f2))) (l2:K.lookup f2=some ⟨oc2,od2,.func (PySem.W.fnOf "_law_whole" "_law_whole" (defArgs (top 19)) (defBody (top 19)) (defScope (top 19)) .none kV2 dc2 pm2 an2 cd2 ct2),sl2⟩) (y2:PySem.W.codeIn K cd2 "_law_whole"=true) (w2:PySem.W.keepIn K (.ref f2)=true)
  {fo1 T1:Addr} {ot1:Obj} {tk1:Tok} {n1:Nat} {odo1 ano1:Option Addr} {slo1:Array (Option Value)} {oco1 kVo1 dco1 pmo1 cdo1 cto1:Value} (ao1:PySem.W.nsIn K mainGlobals "own_copy"=some (some (.ref fo1))) (lo1:K.lookup fo1=some ⟨oco1,odo1,.func (PySem.W.fnOf "own_copy" "own_copy" (defArgs (top 2)) (defBody (top 2)) (defScope (top 2)) (.ref T1) kVo1 dco1 pmo1 ano1 cdo1 cto1),slo1⟩) (yo1:PySem.W.codeIn K cdo1 "own_copy"=true) (wo1:PySem.W.keepIn K (.ref fo1)=true) (lt1:K.lookup T1=some ot1) (dt1:ot1.data=.seq #[.int 0 tk1] n1)
  {fo2:Addr} {odo2 ano2:Option Addr} {slo2:Array (Option Value)} {oco2 kVo2 dco2 pmo2 cdo2 cto2:Value} (ao2:PySem.W.nsIn K mainGlobals "paper_of"=some (some (.ref fo2))) (lo2:K.lookup fo2=some ⟨oco2,odo2,.func (PySem.W.fnOf "paper_of" "paper_of" (defArgs (top 10)) (defBody (top 10)) (defScope (top 10)) .none kVo2 dco2 pmo2 ano2 cdo2 cto2),slo2⟩) (yo2:PySem.W.codeIn K cdo2 "paper_of"=true) (wo2:PySem.W.keepIn K (.ref fo2)=true)
  {fo3:Addr} {odo3 ano3:Option Addr} {slo3:Array (Option Value)} {oco3 kVo3 dco3 pmo3 cdo3 cto3:Value} (ao3:PySem.W.nsIn K mainGlobals "rest_behind"=some (some (.ref fo3))) (lo3:K.lookup fo3=some ⟨oco3,odo3,.func (PySem.W.fnOf "rest_behind" "rest_behind" (defArgs (top 11)) (defBody (top 11)) (defScope (top 11)) .none kVo3 dco3 pmo3 ano3 cdo3 cto3),slo3⟩) (yo3:PySem.W.codeIn K cdo3 "rest_behind"=true) (wo3:PySem.W.keepIn K (.ref fo3)=true)
  {fo4:Addr} {odo4 ano4:Option Addr} {slo4:Array (Option Value)} {oco4 kVo4 dco4 pmo4 cdo4 cto4:Value} (ao4:PySem.W.nsIn K mainGlobals "found_all"=some (some (.ref fo4))) (lo4:K.lookup fo4=some ⟨oco4,odo4,.func (PySem.W.fnOf "found_all" "found_all" (defArgs (top 12)) (defBody (top 12)) (defScope (top 12)) .none kVo4 dco4 pmo4 ano4 cdo4 cto4),slo4⟩) (yo4:PySem.W.codeIn K cdo4 "found_all"=true) (wo4:PySem.W.keepIn K (.ref fo4)=true)
  {fo5:Addr} {odo5 ano5:Option Addr} {slo5:Array (Option Value)} {oco5 kVo5 dco5 pmo5 cdo5 cto5:Value} (ao5:PySem.W.nsIn K mainGlobals "_law_names"=some (some (.ref fo5))) (lo5:K.lookup fo5=some ⟨oco5,odo5,.func (PySem.W.fnOf "_law_names" "_law_names" (defArgs (top 16)) (defBody (top 16)) (defScope (top 16)) .none kVo5 dco5 pmo5 ano5 cdo5 cto5),slo5⟩) (yo5:PySem.W.codeIn K cdo5 "_law_names"=true) (wo5:PySem.W.keepIn K (.ref fo5)=true)
  {fo6:Addr} {odo6 ano6:Option Addr} {slo6:Array (Option Value)} {oco6 kVo6 dco6 pmo6 cdo6 cto6:Value} (ao6:PySem.W.nsIn K mainGlobals "_law_table"=some (some (.ref fo6))) (lo6:K.lookup fo6=some ⟨oco6,odo6,.func (PySem.W.fnOf "_law_table" "_law_table" (defArgs (top 17)) (defBody (top 17)) (defScope (top 17)) .none kVo6 dco6 pmo6 ano6 cdo6 cto6),slo6⟩) (yo6:PySem.W.codeIn K cdo6 "_law_table"=true) (wo6:PySem.W.keepIn K (.ref fo6)=true)
  {fo7:Addr} {odo7 ano7:Option Addr} {slo7:Array (Option Value)} {oco7 kVo7 dco7 pmo7 cdo7 cto7:Value} (ao7:PySem.W.nsIn K mainGlobals "_law_paper"=some (some (.ref fo7))) (lo7:K.lookup fo7=some ⟨oco7,odo7,.func (PySem.W.fnOf "_law_paper" "_law_paper" (defArgs (top 18)) (defBody (top 18)) (defScope (top 18)) .none kVo7 dco7 pmo7 ano7 cdo7 cto7),slo7⟩) (yo7:PySem.W.codeIn K cdo7 "_law_paper"=true) (wo7:PySem.W.keepIn K (.ref fo7)=true)
  {fo8:Addr} {odo8 ano8:Option Addr} {slo8:Array (Option Value)} {oco8 kVo8 dco8 pmo8 cdo8 cto8:Value} (ao8:PySem.W.nsIn K mainGlobals "_law_alike"=some (some (.ref fo8))) (lo8:K.lookup fo8=some ⟨oco8,odo8,.func (PySem.W.fnOf "_law_alike" "_law_alike" (defArgs (top 20)) (defBody (top 20)) (defScope (top 20)) .none kVo8 dco8 pmo8 ano8 cdo8 cto8),slo8⟩) (yo8:PySem.W.codeIn K cdo8 "_law_alike"=true) (wo8:PySem.W.keepIn K (.ref fo8)=true)
  {fo9:Addr} {odo9 ano9:Option Addr} {slo9:Array (Option Value)} {oco9 kVo9 dco9 pmo9 cdo9 cto9:Value} (ao9:PySem.W.nsIn K mainGlobals "_law_list"=some (some (.ref fo9))) (lo9:K.lookup fo9=some ⟨oco9,odo9,.func (PySem.W.fnOf "_law_list" "_law_list" (defArgs (top 21)) (defBody (top 21)) (defScope (top 21)) .none kVo9 dco9 pmo9 ano9 cdo9 cto9),slo9⟩) (yo9:PySem.W.codeIn K cdo9 "_law_list"=true) (wo9:PySem.W.keepIn K (.ref fo9)=true)
  {fo10:Addr} {odo10 ano10:Option Addr} {slo10:Array (Option Value)} {oco10 kVo10 dco10 pmo10 cto10:Value} {c10:Addr} (ao10:PySem.W.nsIn K mainGlobals "_law_refused"=some (some (.ref fo10))) (lo10:K.lookup fo10=some ⟨oco10,odo10,.func (PySem.W.fnOf "_law_refused" "_law_refused" (defArgs (top 22)) (defBody (top 22)) (defScope (top 22)) .none kVo10 dco10 pmo10 ano10 (.ref c10) cto10),slo10⟩) (yo10:PySem.W.codeIn K (.ref c10) "_law_refused"=true) (wo10:PySem.W.keepIn K (.ref fo10)=true)
  {fo11:Addr} {odo11 ano11:Option Addr} {slo11:Array (Option Value)} {oco11 kVo11 dco11 pmo11 cdo11 cto11:Value} (ao11:PySem.W.nsIn K mainGlobals "_law_behind"=some (some (.ref fo11))) (lo11:K.lookup fo11=some ⟨oco11,odo11,.func (PySem.W.fnOf "_law_behind" "_law_behind" (defArgs (top 23)) (defBody (top 23)) (defScope (top 23)) .none kVo11 dco11 pmo11 ano11 cdo11 cto11),slo11⟩) (yo11:PySem.W.codeIn K cdo11 "_law_behind"=true) (wo11:PySem.W.keepIn K (.ref fo11)=true)
  {fo12:Addr} {odo12 ano12:Option Addr} {slo12:Array (Option Value)} {oco12 kVo12 dco12 pmo12 cdo12 cto12:Value} (ao12:PySem.W.nsIn K mainGlobals "_law_walked"=some (some (.ref fo12))) (lo12:K.lookup fo12=some ⟨oco12,odo12,.func (PySem.W.fnOf "_law_walked" "_law_walked" (defArgs (top 24)) (defBody (top 24)) (defScope (top 24)) .none kVo12 dco12 pmo12 ano12 cdo12 cto12),slo12⟩) (yo12:PySem.W.codeIn K cdo12 "_law_walked"=true) (wo12:PySem.W.keepIn K (.ref fo12)=true)
  {fo13:Addr} {odo13 ano13:Option Addr} {slo13:Array (Option Value)} {oco13 kVo13 dco13 pmo13 cdo13 cto13:Value} (ao13:PySem.W.nsIn K mainGlobals "law"=some (some (.ref fo13))) (lo13:K.lookup fo13=some ⟨oco13,odo13,.func (PySem.W.fnOf "law" "law" (defArgs (top 25)) (defBody (top 25)) (defScope (top 25)) .none kVo13 dco13 pmo13 ano13 cdo13 cto13),slo13⟩) (yo13:PySem.W.codeIn K cdo13 "law"=true) (wo13:PySem.W.keepIn K (.ref fo13)=true)
  {C N0 B0 fI cI q1 q2 q3 q4:Addr} (aC:PySem.W.nsIn K mainGlobals "NotThere"=some (some (.ref C)))
  {nmC qC:Str} {bsC bmC:List Value} {snC:List Str} {subC:List Value} {abC:Bool} {colC:Option Bool} {ddC:Option Addr} {k0C k1C k2C k3C k5C:Option Value} (lC:K.lookup C=some (excClassObj nmC qC C N0 bsC bmC true snC subC abC colC ddC k0C k1C k2C k3C k5C "ValueError.__new__")) (nC:PySem.W.nsIn K N0 "__init__"=some (some (.ref fI))) (tC:tailB K bmC=true) {cdC:ClassData} (x1:PySem.W.clsIn K C=some cdC) (x2:onlyVE cdC.mro=true) (x3:cdC.hasDict=true) (x4:PySem.W.findIn K (.ref C) "__setattr__"=some (some (.builtin "object.__setattr__"))) (x5:PySem.W.findIn K (.ref C) "__getattribute__"=some (some (.builtin "BaseException.__getattribute__"))) (x5b:PySem.W.findIn K (.ref C) "__getattr__"=some none) (x5c:PySem.W.mroIn K C (.type "BaseException")=some true) (x6:PySem.W.hasDictIn K C=true) (x7:nsB K N0 "__init__"=some (some (.ref fI))) (x8:PySem.W.keepIn K (.ref C)=true) (x9:PySem.W.typeIn K (.ref fI)=some (.type "function"))
  {odI anI:Option Addr} {slI:Array (Option Value)} {ocI kVI dcI pmI ctI:Value} (lI:K.lookup fI=some ⟨ocI,odI,.func (PySem.W.fnOf "__init__" "NotThere.__init__" (defArgs stI) (defBody stI) (defScope stI) .none kVI dcI pmI anI (.ref cI) ctI),slI⟩) (yI:PySem.W.codeIn K (.ref cI) "NotThere.__init__"=true) (wI:PySem.W.keepIn K (.ref fI)=true)
  (naC:PySem.W.findIn K (.ref C) "name"=some none) (aB:PySem.W.nsIn K mainGlobals "LookError"=some (some (.ref B0))) (gB:PySem.W.specialIn K (.ref B0) "__getattribute__"=some (some (.builtin "type.__getattribute__"))) (rB:PySem.W.readsIn K B0 (.type "type")=true) (iB:PySem.W.findCls K (.ref B0) (.type "type") "__init__"=some (.val (.builtin "ValueError.__init__")))
  (i1:PySem.W.findIn K (.ref C) "__class__"=some (some (.builtin "object.__class__"))) (i2:PySem.W.specialIn K (.builtin "object.__class__") "__get__"=some (some (.builtin "getset_descriptor.__get__"))) (i3:PySem.W.takesIn K (.builtin "object.__class__")=some true) (i4:PySem.W.mroIn K C (.type "object")=some true)
  (e1:PySem.W.nsIn K mainGlobals "NoKind"=some (some (.ref q1))) (e2:PySem.W.nsIn K mainGlobals "NoName"=some (some (.ref q2))) (e3:PySem.W.nsIn K mainGlobals "NoStrength"=some (some (.ref q3))) (e4:PySem.W.nsIn K mainGlobals "Twice"=some (some (.ref q4))) (e5:PySem.W.nsIn K mainGlobals "ValueError"=some none)
  (hex:PySem.W.exmOne K (.ref C) (.ref B0)=some true) (kV1:PySem.W.kitOne K (.ref C) (.type "ValueError")=some true) (kA:PySem.W.kitAny K (.ref C) [.ref q1,.ref q2,.ref q3,.ref q4]=some false) (kO:PySem.W.kitOne K (.ref C) (.ref C)=some true)
  {cA tA:Addr} (hcd:cdo13=.ref cA)
  : ∃ fd:FuncData,(∀ (s:Shared) (v:Value),BindsTo s fd ⟨[v],[]⟩ [("_law_script",v)])/\∀ base:Heap,K.In base->base.Ns mainGlobals mg->PySem.W.CodeHd base cA tA->(∃ Pl,base.BuiltinsAt mg Pl)->FnOk P w K mg base CX0 17 fa fd PO13 (lawTSp tA [] [] O13):=by
 have e:=hfa.symm.trans (PySem.W.mg_of X G ao13)
 cases e
 have E0:=fun_mk (st:=top 14) l0 y0 w0
 have b0:=E0.binds (ps:=PP0) fun _ _ _ _ _ _=>all3 fun _ _ _=>rfl
 have E1:=fun_mk (st:=top 15) l1 y1 w1
 have b1:=E1.binds (ps:=PP1) fun _ _ _ _ _ _=>all3 fun _ _ _=>rfl
 have E2:=fun_mk (st:=top 19) l2 y2 w2
 have b2:=E2.binds (ps:=PP2) fun _ _ _ _ _ _=>all1 fun _=>rfl
 have Eo1:FunD K "own_copy" "own_copy" (top 2) (.ref T1) fo1 _:=⟨⟨_,_,_,_,_,_,_,_,_,rfl,lo1,yo1⟩,wo1⟩
 have bo1:Binds K (PySem.W.fnOf "own_copy" "own_copy" (defArgs (top 2)) (defBody (top 2)) (defScope (top 2)) (.ref T1) kVo1 dco1 pmo1 ano1 cdo1 cto1) PO1 []:=fun s us X hl=>match us,hl with | [_,_],_=>PySem.W.binds_K X rfl lt1 dt1 rfl rfl
 have bo1d:Binds K (PySem.W.fnOf "own_copy" "own_copy" (defArgs (top 2)) (defBody (top 2)) (defScope (top 2)) (.ref T1) kVo1 dco1 pmo1 ano1 cdo1 cto1) PO1 [.int 0 tk1]:=fun s us X hl=>by
  match us,hl with
  | [],h=>simp[PO1]at h
  | [_],_=>exact PySem.W.binds_K X rfl lt1 dt1 rfl rfl
  | _::_::_,h=>simp[PO1]at h
 have EI:=fun_mk (st:=stI) lI yI wI
 have bI:=EI.binds (ps:=["self","name"]) fun _ _ _ _ _ _=>all2 fun _ _=>rfl
 have XB:XBase K mg "LookError" B0:=⟨PySem.W.mg_of X G aB,gB,rB,iB⟩
 have XC:XCls K C N0 fI:=⟨⟨_,_,_,_,_,_,_,_,_,_,_,_,_,_,lC,tail_of tC⟩,⟨_,x1,x2,x3⟩,x4,⟨x5,x5b,x5c⟩,x6,ns_of x7,x8,x9⟩
 have XD:XDef K mg C N0 fI cI _ stI "NotThere.__init__" "name" "self" "name" vI:=⟨⟨_,EI⟩,rfl,fnSc_ok scI,XC,bI,naC,rfl,rfl,rfl,bodyI XB⟩
 have Eo2:=fun_mk (st:=(top 10)) lo2 yo2 wo2
 have bo2:=Eo2.binds (ps:=PO2) fun _ _ _ _ _ _=>all3 fun _ _ _=>rfl
 have Eo3:=fun_mk (st:=(top 11)) lo3 yo3 wo3
 have bo3:=Eo3.binds (ps:=PO3) fun _ _ _ _ _ _=>all2 fun _ _=>rfl
 have Eo4:=fun_mk (st:=(top 12)) lo4 yo4 wo4
 have bo4:=Eo4.binds (ps:=PO4) fun _ _ _ _ _ _=>all3 fun _ _ _=>rfl
 have Eo5:=fun_mk (st:=(top 16)) lo5 yo5 wo5
 have bo5:=Eo5.binds (ps:=PO5) fun _ _ _ _ _ _=>all3 fun _ _ _=>rfl
 have Eo6:=fun_mk (st:=(top 17)) lo6 yo6 wo6
 have bo6:=Eo6.binds (ps:=PO6) fun _ _ _ _ _ _=>all4 fun _ _ _ _=>rfl
 have Eo7:=fun_mk (st:=(top 18)) lo7 yo7 wo7
 have bo7:=Eo7.binds (ps:=PO7) fun _ _ _ _ _ _=>all3 fun _ _ _=>rfl
 have Eo8:=fun_mk (st:=(top 20)) lo8 yo8 wo8
 have bo8:=Eo8.binds (ps:=PO8) fun _ _ _ _ _ _=>all2 fun _ _=>rfl
 have Eo9:=fun_mk (st:=(top 21)) lo9 yo9 wo9
 have bo9:=Eo9.binds (ps:=PO9) fun _ _ _ _ _ _=>all2 fun _ _=>rfl
 have Eo10:=fun_mk (st:=(top 22)) lo10 yo10 wo10
 have bo10:=Eo10.binds (ps:=PO10) fun _ _ _ _ _ _=>all2 fun _ _=>rfl
 have Eo11:=fun_mk (st:=(top 23)) lo11 yo11 wo11
 have bo11:=Eo11.binds (ps:=PO11) fun _ _ _ _ _ _=>all1 fun _=>rfl
 have Eo12:=fun_mk (st:=(top 24)) lo12 yo12 wo12
 have bo12:=Eo12.binds (ps:=PO12) fun _ _ _ _ _ _=>all3 fun _ _ _=>rfl
 have Eo13:=fun_mk (st:=(top 25)) lo13 yo13 wo13
 refine⟨PySem.W.fnOf "law" "law" (defArgs (top 25)) (defBody (top 25)) (defScope (top 25)) .none kVo13 dco13 pmo13 ano13 cdo13 cto13,fun s v=>.of_eq rfl,fun base _ _ hC hB => ?_⟩
 have V0:WldO P w K mg base ({}:TabO) 0:=WldO.start (none_all X G nb)
 have V1:=V0.addK (x:="DEEPEST") (d:=.int 8) (v:=.int 8) (PySem.W.mg_of X G z0) ⟨_,rfl⟩ rfl
 have Y0:WldO P w K mg base UP0 0:=V1
 have q0:=def_okO Y0 E0 sP0 kP0
 have Y1:WldO P w K mg base UP1 1:=(Y0.mono (Nat.le_succ 0)).addP (x:="_law_mix") (PySem.W.mg_of X G a0) w0 b0 (pure_of q0) (Nat.le_refl _)
 have q1:=def_okO Y1 E1 sP1 kP1
 have Y2:WldO P w K mg base UP2 2:=(Y1.mono (Nat.le_succ 1)).addP (x:="_law_drawn") (PySem.W.mg_of X G a1) w1 b1 (pure_of q1) (Nat.le_refl _)
 have q2:=def_okO Y2 E2 sP2 kP2
 have Y3:WldO P w K mg base UP3 3:=(Y2.mono (Nat.le_succ 2)).addP (x:="_law_whole") (PySem.W.mg_of X G a2) w2 b2 (pure_of q2) (Nat.le_refl _)
 have X0:WldO P w K mg base U0 3:=Y3
 have r0:=clo_ok X0 (j:=0) (d:=CD0) rfl so0 ko0 (fun cl doc pm c1 ctv=>all2 fun _ _=>rfl)
 have X1:WldO P w K mg base U1 4:=X0.addL (j:=0) rfl r0
 have r1:=def_okD X1 Eo1 so1 ko1
 have X2:WldO P w K mg base U2 5:=X1.addF (PySem.W.mg_of X G ao1) wo1 bo1 r1
 have r2:=def_okO X2 Eo2 so2 ko2
 have X3:WldO P w K mg base U3 6:=X2.addF (PySem.W.mg_of X G ao2) wo2 bo2 r2
 have r3:=def_okO X3 Eo3 so3 ko3
 have X4:WldO P w K mg base U4 7:=X3.addF (PySem.W.mg_of X G ao3) wo3 bo3 r3
 have r4:=def_okO X4 Eo4 so4 ko4
 have X5:WldO P w K mg base U5 8:=X4.addF (PySem.W.mg_of X G ao4) wo4 bo4 r4
 have r5:=def_okO X5 Eo5 so5 ko5
 have X6:WldO P w K mg base U6 9:=X5.addF (PySem.W.mg_of X G ao5) wo5 bo5 r5
 have r6:=def_okO X6 Eo6 so6 ko6
 have X7:WldO P w K mg base U7 10:=X6.addF (PySem.W.mg_of X G ao6) wo6 bo6 r6
 have r7:=def_okO X7 Eo7 so7 ko7
 have X8:WldO P w K mg base U8 11:=X7.addF (PySem.W.mg_of X G ao7) wo7 bo7 r7
 have r8:=def_okO X8 Eo8 so8 ko8
 have X9:WldO P w K mg base U9 12:=X8.addF (PySem.W.mg_of X G ao8) wo8 bo8 r8
 have r9:=def_okO X9 Eo9 so9 ko9
 have X10:WldO P w K mg base U10 13:=X9.addF (PySem.W.mg_of X G ao9) wo9 bo9 r9
 have r3x:=rb_ok X3 Eo3 so3 (cn:="NotThere") (sn:="start") (ve:=vI) rfl (mt:=m2 (cmpO .NotIn) (mVar 1) (mVar 0)) rfl (i:=1) rfl (.inl rfl) rfl rfl rfl rfl (PySem.W.mg_of X G aC) XD
  (oc_ve (Ooc:=O1) (r1.mono (by decide)) oc_str bo1d (PySem.W.mg_of X G ao1) wo1 rfl (.inl rfl) rfl rfl rfl)
 have r10:=(rf_ok (k:=9) (mt:=m2 (cmpO .NotIn) (mVar 1) (mVar 0)) (n:=2) (i:=1) (en:="e") (fld:="name") (bn:="LookError") Eo10 rfl (fnSc_ok sc10) r3x bo3 (PySem.W.mg_of X G ao3) wo3 rfl XC ⟨i1,i2,i3,i4⟩ naC
  (sui10 (PySem.W.mg_of X G aC) (PySem.W.mg_of X G e1) (PySem.W.mg_of X G e2) (PySem.W.mg_of X G e3) (PySem.W.mg_of X G e4) (PySem.W.mg_none_of X G e5) kV1 kA kO)
  (PySem.W.mg_of X G aB) hex (none_all X G nb _ (by decide)) rfl rfl rfl rfl rfl rfl (fun _=>rfl) rfl rfl rfl rfl rfl rfl rfl rfl).mono (by decide:10<=14)
 have X11:WldO P w K mg base U11 14:=X10.addF (PySem.W.mg_of X G ao10) wo10 bo10 r10
 have r11:=def_okO X11 Eo11 so11 ko11
 have X12:WldO P w K mg base U12 15:=X11.addF (PySem.W.mg_of X G ao11) wo11 bo11 r11
 have r12:=def_okO X12 Eo12 so12 ko12
 have X13:WldO P w K mg base U13 16:=X12.addF (PySem.W.mg_of X G ao12) wo12 bo12 r12
 have r13:=lawD_ok (α0:=[]) (Ω0:=[]) (T0:=tA) X13 (X13.withFz CD0.cn) Eo13 hcd so13 hb13 ka13 kb13 (j:=0) rfl rfl din hC hB
 exact r13
theorem walk{l:PySem.W.OpenLaw}{q:Program}{loose:List Str}{XP:(Str->Option Value)->Heap->Prop}{YP:World->Heap->Prop}{d:DefRec}{K:Params->PySem.W.Frag}{cA tA:Addr}(hn:l.most=some 63)(hdf:d.params.defaults=[])
  (hY:∀ (w:World) (h:Heap),YP w h->(K w.params).In h/\h.get? tA=some (PySem.W.tabObj #[])) (hK:∀ pm,noListIn (K pm)=true) (hT:∀ pm,PySem.W.noTabs (K pm)=true) (hC:∀ pm,PySem.W.codeHdIn (K pm) cA tA=true)
  (F:∀ (w:World) (mg:Str->Option Value) (fa:Addr) (h:Heap),(K w.params).In h->h.Ns mainGlobals mg->mg d.name=some (.ref fa) ->
   ∃ fd:FuncData,(∀ (s:Shared) (u:Value),BindsTo s fd ⟨[u],[]⟩ [("_law_script",u)])/\∀ base:Heap,(K w.params).In base->base.Ns mainGlobals mg->PySem.W.CodeHd base cA tA->(∃ Pl,base.BuiltinsAt mg Pl)->FnOk l.prog w (K w.params) mg base CX0 17 fa fd PO13 (lawTSp tA [] [] O13)) :
  PySem.W.WalkO q loose XP YP l.row.toRowW d [] (fun f vs=>PySem.call f vs):=
 L2.walk_ofT (n:=63) (k:=17) (x:="_law_script") (c:=cA) (T:=tA) (sp:=fun w=>lawTSp tA [] [] O13) hn (by decide) hdf ⟨rfl,by decide,by decide⟩ hY hC hT (fun pm a o h=>no_list (hK pm) h) F fun w H a ns hl h1 h2 h3=>⟨h1,by simp,a,ns,_,rfl,h2,fun κ=>sto_nil h3,h3,(law_true ns hl).choose_spec,fun _=>rfl⟩
end K35
def PySem.W.Fast.tw7039458175211659442:Nat:=0
theorem PySem.W.Fast.te7039458175211659442:PySem.W.Fast.tw7039458175211659442=0:=rfl
open PySem PySem.W PyProof.Rows
set_option maxRecDepth 100000 in
set_option maxHeartbeats 0 in
theorem PySem.Challenge.cw_taglook_k35_behind_a_start_holds : PySem.Challenge.rw_taglook_k35_behind_a_start.Holds := by
 w_on;o_law;k_head;(case hw=>w_witness2)
 k_fill
 refine K35.walk (l:=PySem.Challenge.rw_taglook_k35_behind_a_start) (cA:=222) (tA:=220) rfl rfl (fun w h Y=>⟨PySem.W.km_in_of Y,PySem.W.km_tabs_of Y _ (List.Mem.head _)⟩) ?hK ?hT ?hC ?F
 case hK=>intro pm;exact(Eq.refl true)
 case hT=>intro pm;exact(Eq.refl true)
 case hC=>intro pm;exact(Eq.refl true)
 case F=>
  intro w mg fa h KX G hmg
  refine' K35.all_mk KX G hmg ?nb ?z0 ?a0 ?l0 ?y0 ?w0 ?a1 ?l1 ?y1 ?w1 ?a2 ?l2 ?y2 ?w2 ?ao1 ?lo1 ?yo1 ?wo1 ?lt1 ?dt1 ?ao2 ?lo2 ?yo2 ?wo2 ?ao3 ?lo3 ?yo3 ?wo3 ?ao4 ?lo4 ?yo4 ?wo4 ?ao5 ?lo5 ?yo5 ?wo5 ?ao6 ?lo6 ?yo6 ?wo6 ?ao7 ?lo7 ?yo7 ?wo7 ?ao8 ?lo8 ?yo8 ?wo8 ?ao9 ?lo9 ?yo9 ?wo9 ?ao10 ?lo10 ?yo10 ?wo10 ?ao11 ?lo11 ?yo11 ?wo11 ?ao12 ?lo12 ?yo12 ?wo12 ?ao13 ?lo13 ?yo13 ?wo13 ?aC ?lC ?nC ?tC ?x1 ?x2 ?x3 ?x4 ?x5 ?x5b ?x5c ?x6 ?x7 ?x8 ?x9 ?lI ?yI ?wI ?naC ?aB ?gB ?rB ?iB ?i1 ?i2 ?i3 ?i4 ?e1 ?e2 ?e3 ?e4 ?e5 ?hex ?kV1 ?kA ?kO ?hcd
  (case nb=>exact(Eq.refl true))
  (case z0=>k_is)
  (case a0=>k_is)
  (case l0=>k_is)
  (case y0=>k_is)
  (case w0=>k_is)
  (case a1=>k_is)
  (case l1=>k_is)
  (case y1=>k_is)
  (case w1=>k_is)
  (case a2=>k_is)
  (case l2=>k_is)
  (case y2=>k_is)
  (case w2=>k_is)
  (case ao1=>k_is)
  (case lo1=>k_is)
  (case yo1=>k_is)
  (case wo1=>k_is)
  (case lt1=>k_is)
  (case dt1=>exact rfl)
  (case ao2=>k_is)
  (case lo2=>k_is)
  (case yo2=>k_is)
  (case wo2=>k_is)
  (case ao3=>k_is)
  (case lo3=>k_is)
  (case yo3=>k_is)
  (case wo3=>k_is)
  (case ao4=>k_is)
  (case lo4=>k_is)
  (case yo4=>k_is)
  (case wo4=>k_is)
  (case ao5=>k_is)
  (case lo5=>k_is)
  (case yo5=>k_is)
  (case wo5=>k_is)
  (case ao6=>k_is)
  (case lo6=>k_is)
  (case yo6=>k_is)
  (case wo6=>k_is)
  (case ao7=>k_is)
  (case lo7=>k_is)
  (case yo7=>k_is)
  (case wo7=>k_is)
  (case ao8=>k_is)
  (case lo8=>k_is)
  (case yo8=>k_is)
  (case wo8=>k_is)
  (case ao9=>k_is)
  (case lo9=>k_is)
  (case yo9=>k_is)
  (case wo9=>k_is)
  (case ao10=>k_is)
  (case lo10=>k_is)
  (case yo10=>k_is)
  (case wo10=>k_is)
  (case ao11=>k_is)
  (case lo11=>k_is)
  (case yo11=>k_is)
  (case wo11=>k_is)
  (case ao12=>k_is)
  (case lo12=>k_is)
  (case yo12=>k_is)
  (case wo12=>k_is)
  (case ao13=>k_is)
  (case lo13=>k_is)
  (case yo13=>k_is)
  (case wo13=>k_is)
  (case aC=>k_is)
  (case lC=>k_is)
  (case nC=>k_is)
  (case tC=>exact(Eq.refl true))
  (case x1=>k_is)
  (case x2=>exact rfl)
  (case x3=>exact rfl)
  (case x4=>k_is)
  (case x5=>k_is)
  (case x5b=>k_is)
  (case x5c=>k_is)
  (case x6=>k_is)
  (case x7=>exact rfl)
  (case x8=>k_is)
  (case x9=>k_is)
  (case lI=>k_is)
  (case yI=>k_is)
  (case wI=>k_is)
  (case naC=>k_is)
  (case aB=>k_is)
  (case gB=>k_is)
  (case rB=>k_is)
  (case iB=>k_is)
  (case i1=>k_is)
  (case i2=>k_is)
  (case i3=>k_is)
  (case i4=>k_is)
  (case e1=>k_is)
  (case e2=>k_is)
  (case e3=>k_is)
  (case e4=>k_is)
  (case e5=>k_is)
  (case hex=>exact(Eq.refl (some true)))
  (case kV1=>exact(Eq.refl (some true)))
  (case kA=>exact(Eq.refl (some false)))
  (case kO=>exact(Eq.refl (some true)))
  (case hcd=>rfl)
