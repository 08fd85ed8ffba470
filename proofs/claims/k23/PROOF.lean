import PyProof.Rows.All
import Wide.All
import OpenK.AllK
import Wide.FinOn
import Lean
import PyProof.EqAt
import PyProof.EqKinds
import PyProof.TupleCall
import PyProof.EnumFor
import PyProof.EnumMake
import PyProof.EnumStmt
import PyProof.Rows.EnumRows
import PyProof.RulesTry
import PyProof.Rows.StrWeight2
import PyProof.AutoListH
import PyProof.Draws
import PyProof.Rows.SortStr
import PyProof.Rows.SortShell
import PyProof.Rows.SortWalk
import PyProof.Rows.StrMeet
import PyProof.DictIter
import PyProof.DictWalks
import KE.KDictOf
import PyProof.AttrMissSeq
import PyProof.ListRange
import PyProof.DictItems
import PyProof.FitsReplace
import PySem.Challenge.RW_taglook_k23_lines_are_merged
set_option Elab.async false
set_option bootstrap.genMatcherCode false
set_option genSizeOfSpec false
set_option linter.all false
set_option maxRecDepth 100000
noncomputable section
namespace L2
open PySem PySem.Spec PyProof.Rows
abbrev Key:=Sum Int Str
noncomputable def kc:Key->Value->Bool
 | .inl k,v=>Value.isInt k v
 | .inr x,v=>Value.isStrOf x v
noncomputable def NM(w:World):Key->Int
 | .inl k=>hashInt k
 | .inr x=>hashStr w x
theorem bT:∀ {k:Key} {v:Value},kc k v=true->(∃ i t,k=Sum.inl i/\v=Value.int i t)\/(∃ x t,k=Sum.inr x/\v=Value.str x t)
 | .inl i,v,h=>by
  obtain⟨t,e⟩:=Value.isInt_shape (k:=i) (v:=v) h;exact .inl ⟨i,t,rfl,e⟩
 | .inr x,v,h=>by
  obtain⟨t,e⟩:=Value.isStrOf_shape (x:=x) (v:=v) h;exact .inr ⟨x,t,rfl,e⟩
theorem tX(i:Int)(t:Tok):kc (.inl i) (.int i t)=true:=by simp[kc,Value.isInt]
theorem tY(x:Str)(t:Tok):kc (.inr x) (.str x t)=true:=by simp[kc,Value.isStrOf]
theorem Cu(a b:Int):decide ((Sum.inl a:Key)=Sum.inl b)=(a == b):=by
 by_cases e:a=b
 ·subst e;simp
 ·have h:¬ (Sum.inl a:Key)=Sum.inl b:=fun q=>e (Sum.inl.inj q)
  rw[decide_eq_false h];exact(beq_eq_false_iff_ne.mpr e).symm
theorem Cv(a b:Str):decide ((Sum.inr a:Key)=Sum.inr b)=decide (a=b):=by
 by_cases e:a=b
 ·subst e;simp
 ·have h:¬ (Sum.inr a:Key)=Sum.inr b:=fun q=>e (Sum.inr.inj q)
  rw[decide_eq_false h,decide_eq_false e]
theorem Cw(a:Int)(b:Str):decide ((Sum.inl a:Key)=Sum.inr b)=false:=decide_eq_false (fun q=>nomatch q)
theorem Cy(a:Str)(b:Int):decide ((Sum.inr a:Key)=Sum.inl b)=false:=decide_eq_false (fun q=>nomatch q)
def bz(prog:Program)(w:World):PySem.KeyKind prog w Key where
 is:=kc
 hash:=NM w
 inj:=fun v a b ha hb=>by
  rcases bT ha with ⟨i,t,rfl,rfl⟩ | ⟨x,t,rfl,rfl⟩
  ·rcases bT hb with ⟨j,u,rfl,e⟩ | ⟨y,u,rfl,e⟩
   ·injection e with e1 _;rw[e1]
   ·exact nomatch e
  ·rcases bT hb with ⟨j,u,rfl,e⟩ | ⟨y,u,rfl,e⟩
   ·exact nomatch e
   ·injection e with e1 _;rw[e1]
 byValue:=fun k v h=>by
  rcases bT h with ⟨i,t,rfl,rfl⟩ | ⟨x,t,rfl,rfl⟩<;>rfl
 pyHash:=fun hv h=>by
  rcases bT hv with ⟨i,t,rfl,rfl⟩ | ⟨x,t,rfl,rfl⟩
  ·exact wpAny_pyHash_int h
  ·exact wpAny_pyHash_str h
 eqBool:=fun hu hv h=>by
  rcases bT hu with ⟨i,t,rfl,rfl⟩ | ⟨x,t,rfl,rfl⟩
  ·rcases bT hv with ⟨j,u,rfl,rfl⟩ | ⟨y,u,rfl,rfl⟩
   ·rw[Cu]at h;exact wpAny_eqBool_int h
   ·rw[Cw]at h;exact SeqAt.EqAt.int_str i t y u _ _ _ _ h
  ·rcases bT hv with ⟨j,u,rfl,rfl⟩ | ⟨y,u,rfl,rfl⟩
   ·rw[Cy]at h;exact SeqAt.EqAt.str_int x t j u _ _ _ _ h
   ·rw[Cv]at h;exact wpAny_eqBool_str h
 «strs» := fun k x t v h=>by
  rcases bT h with ⟨i,u,rfl,e⟩ | ⟨y,u,rfl,e⟩
  ·exact nomatch e
  ·injection e with e1 _
   subst e1;cases v<;>rfl
theorem om(prog:Program)(w:World)(i:Int)(t:Tok):(bz prog w).is (.inl i) (.int i t)=true:=tX i t
theorem oo(prog:Program)(w:World)(x:Str)(t:Tok):(bz prog w).is (.inr x) (.str x t)=true:=tY x t
inductive V where
 | non | bl (b:Bool) | int (i:Int) | str (x:Str) | FR (b:Array UInt8) | flt (b:UInt64) | ref (a:Addr) | ty (n:String)
 deriving DecidableEq
def RelV:V->Value->Prop
 | .non,u=>u=Value.none
 | .bl b,u=>u=Value.bool b
 | .int i,u=>∃ t,u=Value.int i t
 | .str x,u=>∃ t,u=Value.str x t
 | .FR b,u=>∃ t,u=Value.bytes b t
 | .flt b,u=>∃ t,u=Value.float b t
 | .ref a,u=>u=Value.ref a
 | .ty n,u=>u=Value.type n
abbrev Vals:List V->List Value->Prop:=Paired RelV
theorem Vals.length{xs:List V}{us:List Value}(r:Vals xs us):xs.length=us.length:=Paired.length r
theorem Vals.get:∀ {xs:List V} {us:List Value} {i:Nat} {x:V},Vals xs us->xs[i]?=some x->∃ u,us[i]?=some u/\RelV x u
 | _,_,_,_,.nil,e=>by simp at e
 | _,_,0,_,.cons r _,e=>by simp at e;subst e;exact⟨_,rfl,r⟩
 | _,_,i + 1,x,.cons _ t,e=>by
  obtain⟨u,h1,h2⟩:=Vals.get (i:=i) (x:=x) t (by simpa using e)
  exact⟨u,by simpa using h1,h2⟩
theorem Vals.set{x:V}{u:Value}(r:RelV x u):∀ {xs:List V} {us:List Value} (i:Nat),Vals xs us->Vals (xs.set i x) (us.set i u)
 | _,_,_,.nil=>.nil
 | _,_,0,.cons _ t=>.cons r t
 | _,_,i + 1,.cons q t=>.cons q (Vals.set r i t)
theorem Vals.append:∀ {xs ys:List V} {us ws:List Value},Vals xs us->Vals ys ws->Vals (xs++ys) (us++ws)
 | _,_,_,_,.nil,s=>s
 | _,_,_,_,.cons r t,s=>.cons r (Vals.append t s)
theorem Vals.take:∀ {xs:List V} {us:List Value} (n:Nat),Vals xs us->Vals (xs.take n) (us.take n)
 | _,_,0,_=>.nil
 | _,_,_ + 1,.nil=>.nil
 | _,_,n + 1,.cons r t=>.cons r (Vals.take n t)
theorem Vals.drop:∀ {xs:List V} {us:List Value} (n:Nat),Vals xs us->Vals (xs.drop n) (us.drop n)
 | _,_,0,r=>r
 | _,_,_ + 1,.nil=>.nil
 | _,_,n + 1,.cons _ t=>Vals.drop n t
def f9:Option V->Option Value->Prop
 | some v,some u=>RelV v u
 | none,none=>True
 | _,_=>False
def KV{κ:Type}:List (κ×V)->List (κ×Value)->Prop:=Paired fun (p:κ×V) (q:κ×Value)=>p.1=q.1/\RelV p.2 q.2
noncomputable def kV:Key->V
 | .inl i=>.int i
 | .inr x=>.str x
inductive HO where
 | lst (xs:List V)
 | tup (xs:List V)
 | dK (kvs:List (Key×V)) | dT (kvs:List (List Key×V))
 | set (S:Int->Bool) (n:Nat)
 | ins (C dx:Addr) (fs:List (Str×V))
 | own (x:Addr)
 | xd (fs:List (Str×V))
 | met (f x:Addr)
 | NN (lo hi:Int)
 | dD (o:Obj) (u:HO)
 | Cz (ps:Array Value)
 | ext (φ:Heap->Prop)
abbrev Hp:=Addr->Option HO
noncomputable def upd(H:Hp)(a:Addr)(o:HO):Hp:=fun b=>if b=a then some o else H b
theorem aS{H:Hp}{a:Addr}{o:HO}:upd H a o a=some o:=by unfold upd;rw[if_pos rfl]
theorem aF{H:Hp}{a b:Addr}{o:HO}(h:b≠a):upd H a o b=H b:=by unfold upd;rw[if_neg h]
theorem Gk{H:Hp}{a b:Addr}{o u:HO}(h:H a=some o)(h':H b=some u)(d:o≠u):a≠b:=by
 intro e;subst e;rw[h]at h';exact d (Option.some.inj h')
theorem bb{H:Hp}{a b:Addr}{o:HO}(h:H a=some o)(h':H b=none):a≠b:=by
 intro e;subst e;rw[h]at h';cases h'
section
variable(P:Program)(w:World)
def bJ(H:Hp)(h:Heap)(a:Addr):HO->Prop
 | .lst xs=>xs.length<=sizeLine/\∃ (its:List Value) (n:Nat),Vals xs its/\h.get? a=some { cls:=.type "list",data:=.seq its.toArray n }
 | .tup xs=>xs.length<=sizeLine/\∃ its:List Value,Vals xs its/\IsTup h a its.toArray
 | .dK kvs=>kvs.length<=sizeLine/\(a == sysModules)=false/\∃ vs,KV kvs vs/\h.DictOf (bz P w) a vs
 | .dT kvs=>kvs.length<=sizeLine/\(a == sysModules)=false/\∃ xs:List (List Key×Addr×Value),
   Paired (fun (p:List Key×V) (q:List Key×Addr×Value)=>p.1=q.1/\H q.2.1=some (.tup (p.1.map kV))/\RelV p.2 q.2.2) kvs xs /\
   ∃ o es ep,h.get? a=some o/\o.ExactDict/\o.data=.dict es ep/\es.toList=xs.map (entryOfKey (tupleKind (bz P w)))/\(xs.map (·.1)).Nodup
 | .set S n=>h.SetOf (intKind P w) a S n
 | .ins C dx fs=>H dx=some (.own a)/\fs.length<=1000/\dx≠a/\h.get? a=some (PySem.W.instObj C dx) /\
   ∃ mA,h.Ns1 dx mA/\(∀ f,f9 (fs.lookup f) (mA f))/\PySem.Within mA (fs.map (·.1))
 | .own _=>∃ o,h.get? a=some o
 | .xd fs=>∃ mA,h.Ns1 a mA/\∀ f,f9 (fs.lookup f) (mA f)
 | .NN lo hi=>∃ t u v,h.get? a=some { cls:=.type "range",data:=.fields #[.int lo t,.int hi u,.int 1 v] }
 | .dD o u=>h.get? a=some o/\bJ H h a u
 | .Cz ps=>h.get? a=some { cls:=.none,data:=.fields ps }
 | .met f x=>h.get? a=some (PySem.W.methodObj (.ref f) (.ref x))
 | .ext φ=>φ h/\(∃ o,h.get? a=some o)/\∀ h1 h2:Heap,φ h1->(∀ o,h1.get? a=some o->h2.get? a=some o)->φ h2
def ic(H:Hp)(h:Heap):Prop:=∀ a o,H a=some o->bJ P w H h a o
end
section
variable{P:Program}{w:World}{H H':Hp}{h h':Heap}{a:Addr}{o:HO}
theorem bJ.lt(x:bJ P w H h a o):a < h.objs.size:=by
 cases o with
 | lst xs=>obtain⟨_,_,_,_,e⟩:=x;exact Heap.lt_size e
 | tup xs=>obtain⟨_,_,_,p⟩:=x;exact p.lt
 | dK kvs=>obtain⟨_,_,_,_,o,_,_,e,_⟩:=x;exact Heap.lt_size e
 | dT kvs=>obtain⟨_,_,_,_,o,_,_,e,_⟩:=x;exact Heap.lt_size e
 | set S n=>obtain⟨o,_,_,_,e,_⟩:=x;exact Heap.lt_size e
 | ins C dx fs=>obtain⟨_,_,_,e,_⟩:=x;exact Heap.lt_size e
 | own y=>obtain⟨_,e⟩:=x;exact Heap.lt_size e
 | xd fs=>obtain⟨_,⟨_,_,_,e,_⟩,_⟩:=x;exact Heap.lt_size e
 | NN lo hi=>obtain⟨_,_,_,e⟩:=x;exact Heap.lt_size e
 | dD ob u=>obtain⟨e,_⟩:=x;exact Heap.lt_size e
 | Cz ps=>exact Heap.lt_size (show h.get? a=some _ from x)
 | met f y=>exact Heap.lt_size (show h.get? a=some _ from x)
 | ext φ=>obtain⟨_,⟨_,e⟩,_⟩:=x;exact Heap.lt_size e
theorem Paired.CA{α β:Type}{F G:α->β->Prop}:∀ {l₁:List α} {l₂:List β},Paired F l₁ l₂->(∀ a b,F a b->G a b)->Paired G l₁ l₂
 | _,_,.nil,_=>.nil
 | _,_,.cons r t,f=>.cons (f _ _ r) (Paired.CA t f)
theorem bJ.stay(x:bJ P w H h a o)(k:∀ b u,(b=a\/H b=some (.own a))->h.get? b=some u->h'.get? b=some u)
  (ho:∀ b,H b=some (.own a)->H' b=some (.own a)) (ht:∀ b xs,H b=some (.tup xs)->H' b=some (.tup xs)):bJ P w H' h' a o:=by
 induction o with
 | lst xs=>obtain⟨z,its,n,r,e⟩:=x;exact⟨z,its,n,r,k _ _ (.inl rfl) e⟩
 | tup xs=>obtain⟨z,its,r,ob,e,c⟩:=x;exact⟨z,its,r,ob,k _ _ (.inl rfl) e,c⟩
 | dK kvs=>obtain⟨z,y,vs,r,ob,es,ep,e,c⟩:=x;exact⟨z,y,vs,r,ob,es,ep,k _ _ (.inl rfl) e,c⟩
 | dT kvs=>
  obtain⟨z,y,xs,r,ob,es,ep,e,c⟩:=x;exact⟨z,y,xs,Paired.CA r fun p q z=>⟨z.1,ht _ _ z.2.1,z.2.2⟩,ob,es,ep,k _ _ (.inl rfl) e,c⟩
 | set S n=>obtain⟨ob,es,ep,t,e,c⟩:=x;exact⟨ob,es,ep,t,k _ _ (.inl rfl) e,c⟩
 | ins C dx fs=>
  obtain⟨d,z,ne,e,mA,⟨od,es,ep,e2,c⟩,r⟩:=x;exact⟨ho _ d,z,ne,k _ _ (.inl rfl) e,mA,⟨od,es,ep,k _ _ (.inr d) e2,c⟩,r⟩
 | own y=>obtain⟨ob,e⟩:=x;exact⟨ob,k _ _ (.inl rfl) e⟩
 | xd fs=>obtain⟨mA,⟨od,es,ep,e,c⟩,r⟩:=x;exact⟨mA,⟨od,es,ep,k _ _ (.inl rfl) e,c⟩,r⟩
 | NN lo hi=>obtain⟨t,u,v,e⟩:=x;exact⟨t,u,v,k _ _ (.inl rfl) e⟩
 | dD ob u ih=>obtain⟨e,q⟩:=x;exact⟨k _ _ (.inl rfl) e,ih q⟩
 | Cz ps=>
  have e:h.get? a=some { cls:=.none,data:=.fields ps }:=x
  show h'.get? a=some { cls:=.none,data:=.fields ps }
  exact k a _ (.inl rfl) e
 | met f y=>
  have e:h.get? a=some (PySem.W.methodObj (.ref f) (.ref y)):=x
  show h'.get? a=some (PySem.W.methodObj (.ref f) (.ref y))
  exact k a _ (.inl rfl) e
 | ext φ=>obtain⟨p,⟨o,e⟩,st⟩:=x;exact⟨st _ _ p fun o q=>k _ _ (.inl rfl) q,⟨o,k _ _ (.inl rfl) e⟩,st⟩
theorem ic.lt(x:ic P w H h)(e:H a=some o):a < h.objs.size:=(x a o e).lt
theorem ic.fresh(x:ic P w H h)(e:h.objs.size<=a):H a=none:=by
 cases q:H a with
 | none=>rfl
 | some u=>exact absurd (Nat.lt_of_lt_of_le (x.lt q) e) (Nat.lt_irrefl _)
theorem ic.kept(x:ic P w H h)(k:∀ b u,h.get? b=some u->h'.get? b=some u):ic P w H h':=fun a o e=>
 (x a o e).stay (fun b u _ q=>k b u q) (fun _ q=>q) fun _ _ q=>q
theorem ic.laid(x:ic P w H h)(k:∀ b u,h.get? b=some u->h'.get? b=some u)(hp:h.objs.size<=a)(new:bJ P w (upd H a o) h' a o):ic P w (upd H a o) h':=fun b u e=>by
 have hn:=x.fresh hp
 by_cases hb:b=a
 ·subst hb;rw[aS]at e;cases e;exact new
 ·rw[aF hb]at e
  exact(x b u e).stay (fun c v _ q=>k c v q) (fun c q=>by rw[aF (bb q hn)];exact q) fun c xs q=>by rw[aF (bb q hn)];exact q
end
def Rd(H:Hp)(a:Addr)(u:HO):Prop:=H a=some u\/∃ o,H a=some (.dD o u)
theorem Rd.ok{P:Program}{w:World}{H:Hp}{h:Heap}{a:Addr}{u:HO}(r:Rd H a u)(x:ic P w H h):bJ P w H h a u:=by
 rcases r with r | ⟨o,r⟩
 ·exact x a u r
 ·obtain⟨_,q⟩:=x a _ r
  exact q
def Gm:Option HO->Prop
 | some (.lst _)=>True
 | some (.dK _)=>True
 | some (.dT _)=>True
 | some (.set _ _)=>True
 | some (.ins _ _ _)=>True
 | some (.ext _)=>True
 | _=>False
section
variable{P:Program}{w:World}{H:Hp}{h h':Heap}{x e:Addr}{o':HO}
theorem ic.write(ok:ic P w H h)(mu:Gm (H x))(he:e=x\/H e=some (.own x))(k:∀ b u,b≠e->h.get? b=some u->h'.get? b=some u)(heo:∃ u,h'.get? e=some u)
  (new:bJ P w (upd H x o') h' x o'):ic P w (upd H x o') h':=fun b u q=>by
 have Gn:∀ c y,H c=some (.own y)->c≠x:=fun c y r z=>by subst z;rw[r]at mu;exact mu
 have NO:∀ c xs,H c=some (.tup xs)->c≠x:=fun c xs r z=>by subst z;rw[r]at mu;exact mu
 by_cases hb:b=x
 ·subst hb;rw[aS]at q;cases q;exact new
 ·rw[aF hb]at q
  by_cases hbe:b=e
  ·have q':H b=some (.own x):=by
    rcases he with z | z
    ·exact absurd (hbe.trans z) hb
    ·rw[hbe];exact z
   rw[q]at q';cases q'
   obtain⟨v,hv⟩:=heo;exact⟨v,by rw[hbe];exact hv⟩
  ·refine(ok b u q).stay (fun c v hc r=>k c v ?_ r) (fun c r=>by rw[aF (Gn c b r)];exact r) fun c xs r=>by rw[aF (NO c xs r)];exact r
   rcases hc with rfl | hc
   ·exact hbe
   ·rintro rfl
    rcases he with z | z
    ·exact Gn c b hc z
    ·rw[hc]at z;cases z;exact hb rfl
end
structure Un(fs ex:List Addr)(H H':Hp)(h h':Heap):Prop where
 keep:∀ b o,h.get? b=some o->H b=none->b∉fs->b∉ex->h'.get? b=some o
 slot:∀ b o,h.get? b=some o->H b=none->b∈fs->b∉ex->∃ sl,h'.get? b=some { o with slots:=sl }
 free:∀ b o,h.get? b=some o->H b=none->b∉ex->H' b=none
 there:∀ b o,h.get? b=some o->b∉ex->∃ o',h'.get? b=some o'
 tups:∀ b xs,H b=some (.tup xs)->H' b=some (.tup xs)
 ix:∀ b o u,H b=some (.dD o u)->H' b=some (.dD o u)
 kd:∀ b ps,H b=some (.Cz ps)->∃ more,H' b=some (.Cz (ps++more))
section
variable{fs fs' ex ex':List Addr}{H H1 H2:Hp}{h h1 h2 h':Heap}{a x e:Addr}{o:HO}
theorem Un.any(u:Un fs ex H H1 h h1){b:Addr}{ob:Obj}(q:h.get? b=some ob)(n:H b=none)(hx:b∉ex):∃ sl,h1.get? b=some { ob with slots:=sl }:=by
 by_cases hb:b∈fs
 ·exact u.slot b ob q n hb hx
 ·exact⟨ob.slots,u.keep b ob q n hb hx⟩
theorem Un.trans(a:Un fs ex H H1 h h1)(b:Un fs ex H1 H2 h1 h2):Un fs ex H H2 h h2 where
 keep:=fun c ob q n hc hx=>b.keep c ob (a.keep c ob q n hc hx) (a.free c ob q n hx) hc hx
 slot:=fun c ob q n hc hx=>by
  obtain⟨sl,e1⟩:=a.slot c ob q n hc hx;obtain⟨sl',e2⟩:=b.slot c _ e1 (a.free c ob q n hx) hc hx;exact⟨sl',e2⟩
 free:=fun c ob q n hx=>by
  obtain⟨o',e1⟩:=a.there c ob q hx;exact b.free c o' e1 (a.free c ob q n hx) hx
 there:=fun c ob q hx=>by
  obtain⟨o',e1⟩:=a.there c ob q hx;exact b.there c o' e1 hx
 tups:=fun c xs q=>b.tups c xs (a.tups c xs q)
 ix:=fun c ob xs q=>b.ix c ob xs (a.ix c ob xs q)
 kd:=fun c ps q=>by
  obtain⟨m1,e1⟩:=a.kd c ps q;obtain⟨m2,e2⟩:=b.kd c _ e1;exact⟨m1++m2,by rw[e2,Array.append_assoc]⟩
theorem Un.kept(k:∀ b u,h.get? b=some u->h'.get? b=some u):Un fs ex H H h h':=
 ⟨fun b ob q _ _ _=>k b ob q,fun b ob q _ _ _=>⟨ob.slots,k b ob q⟩,fun _ _ _ n _=>n,fun b ob q _=>⟨ob,k b ob q⟩,fun _ _ q=>q,fun _ _ _ q=>q,fun _ ps q=>⟨#[],by rw[q];simp⟩⟩
theorem Un.refl:Un fs ex H H h h:=Un.kept fun _ _ q=>q
theorem Un.laid(k:∀ b u,h.get? b=some u->h'.get? b=some u)(hp:h.objs.size<=a)(hn:H a=none):Un fs ex H (upd H a o) h h' where
 keep:=fun b u q _ _ _=>k b u q
 slot:=fun b u q _ _ _=>⟨u.slots,k b u q⟩
 free:=fun b u q n _=>by rw[aF (Nat.ne_of_lt (Nat.lt_of_lt_of_le (Heap.lt_size q) hp))];exact n
 there:=fun b u q _=>⟨u,k b u q⟩
 tups:=fun b xs q=>by rw[aF (bb q hn)];exact q
 ix:=fun b u xs q=>by rw[aF (bb q hn)];exact q
 kd:=fun b ps q=>⟨#[],by rw[aF (bb q hn),q];simp⟩
theorem Un.write(mu:Gm (H x))(he:e=x\/H e=some (.own x))(k:∀ b u,b≠e->h.get? b=some u->h'.get? b=some u)(heo:∃ u,h'.get? e=some u):Un fs ex H (upd H x o) h h':=by
 have hx:∀ b,H b=none->b≠x:=fun b n z=>by subst z;rw[n]at mu;exact mu
 have hb:∀ b,H b=none->b≠e:=fun b n z=>by
  subst z;rcases he with r | r
  ·exact hx b n r
  ·rw[n]at r;cases r
 have hm:∀ b u,H b=some u->¬ Gm (some u)->b≠x:=fun b u q nm z=>by subst z;rw[q]at mu;exact nm mu
 refine⟨fun b u q n _ _=>k b u (hb b n) q,fun b u q n _ _=>⟨u.slots,k b u (hb b n) q⟩,fun b u q n _=>by rw[aF (hx b n)];exact n,fun b u q _ => ?_,
  fun b xs q=>by rw[aF (hm b _ q fun z=>z)];exact q,fun b u xs q=>by rw[aF (hm b _ q fun z=>z)];exact q,fun b ps q=>⟨#[],by rw[aF (hm b _ q fun z=>z),q];simp⟩⟩
 by_cases hbe:b=e
 ·subst hbe;exact heo
 ·exact⟨u,k b u hbe q⟩
end
noncomputable def LV(h:Heap)(H:Hp):List Addr:=(List.range h.objs.size).filter fun a=>(H a).isSome
def mT(h:Heap)(H:Hp):Heap:=PySem.W.hideAll h (LV h H)
theorem tZ(h:Heap)(H:Hp):(mT h H).objs.size=h.objs.size:=PySem.W.hideAll_size _ _
theorem vf{h:Heap}{H:Hp}{b:Addr}{o:Obj}(e:h.get? b=some o)(n:H b=none):(mT h H).get? b=some o:=
 PySem.W.hideAll_get _ e fun hm=>by
  have q:(H b).isSome=true:=(List.mem_filter.mp hm).2;rw[n]at q;simp at q
theorem yn{h:Heap}{H:Hp}{b:Addr}{o:Obj}(e:(mT h H).get? b=some o):h.get? b=some o/\H b=none:=by
 have e':h.get? b=some o:=PySem.W.of_hideAll (LV h H) e;refine⟨e',?_⟩;cases q:H b with
 | none=>rfl
 | some x=>
  have hm:b∈LV h H:=List.mem_filter.mpr ⟨List.mem_range.mpr (Heap.lt_size e'),by simp[q]⟩
  have z:(mT h H).get? b=none:=PySem.W.hideAll_none (LV h H) hm;rw[z]at e;cases e
noncomputable def yo(g h:Heap)(L:Addr):List (Addr×Obj):=(List.range h.objs.size).filterMap fun a=>if a=L\/(g.get? a).isSome=true then none else (h.get? a).map fun o=>(a,o)
def rest(g h:Heap)(L d:Addr):List (Addr×Obj):=(yo g h L).filter fun p=>decide (p.1≠d)
structure Mod(K:PySem.W.Frag)(mg:Str->Option Value)(base:Heap):Prop where
 Gp:K.In base
 glob:base.Ns mainGlobals mg
 blt:∃ mb,base.Ns builtinsNs mb/\∀ x:Str,x≠"__name__"->mb x=bootBuiltins x
 nolimit:base.NoLimit
structure Cx where
 prog:Program
 w:World
 K:PySem.W.Frag
 mg:Str->Option Value
 base:Heap
 A:Around
 N:List Str
 s₀:Shared
 H₀:Hp
 env:Env
 outer:List Env
 stack:List Env
 ex:List Addr
 fn:Str->Bool
 calm:Bool
 pn:List (Addr×Obj)
 xe:Value->Shared->Prop
noncomputable def frs(l:List Env):List Addr:=l.filterMap (·.frame)
abbrev Cx.fs(X:Cx):List Addr:=frs X.outer
def FT(sc:Scope)(x:Str):Prop:=sc.names.lookup x=some .local\/sc.names.lookup x=some .cell\/sc.names.lookup x=some .free
def Loc(sc:Scope)(x:Str):Prop:=sc.names.lookup x=some .local\/sc.names.lookup x=some .cell
def Look(env:Env)(h:Heap)(m:Str->Option Value)(x:Str)(u:Value):Prop:=
 (env.kindOf x=some .local/\m x=some u)\/((env.kindOf x=some .cell\/env.kindOf x=some .free)/\∃ c,env.cells.lookup x=some c/\h.IsCell c (some u))
structure Cx.Ok(X:Cx):Prop where
 mod:Mod X.K X.mg X.base
 kind:X.env.scope.kind=.function
 glob:X.env.globals=mainGlobals
 blt:X.env.builtins=builtinsNs
 above:X.s₀.heap.objs.size<=X.env.locals
 inj:∀ x y c,X.env.cells.lookup x=some c->X.env.cells.lookup y=some c->x=y
 has:∀ x,(X.env.kindOf x=some .cell\/X.env.kindOf x=some .free)->∃ c,X.env.cells.lookup x=some c
 cab:∀ x c,X.fn x=true->X.env.cells.lookup x=some c->X.s₀.heap.objs.size<=c
 hd:X.calm=true->X.A.handled=none
 frames:X.A.frames=some X.stack
 LW:X.stack=X.outer\/(X.stack=X.env::X.outer/\X.env.frame=some X.env.locals)
 LX:∀ b∈X.ex,b≠X.env.locals/\∀ x c,X.env.cells.lookup x=some c->c≠b
 bs:∀ b o,X.base.get? b=some o->X.s₀.heap.get? b=some o/\X.H₀ b=none
 Bv:X.base.objs.size<=X.s₀.heap.objs.size
 vg:∀ b o,X.base.get? b=some o->b∉X.ex
 vh:∀ b∈X.ex,b∉X.fs
 jF:X.s₀.heap.FunFrames X.base X.outer
 CB:∀ b∈X.fs,X.H₀ b=none
structure Inv(X:Cx)(pins:List (Addr×Obj))(σ:List (Option V))(H:Hp)(s:Shared):Prop where
 ok:X.Ok
 os:s.os=X.s₀.os
 bare:AllBare s.gens
 base:Un X.fs X.ex X.H₀ H X.s₀.heap s.heap
 loc:∃ m,s.heap.Ns X.env.locals m/\∀ (i:Nat) (x:Str) (v:V),X.N[i]?=some x->σ[i]?=some (some v)->FT X.env.scope x->∃ u,RelV v u/\Look X.env s.heap m x u
 cell:∀ x c,X.env.cells.lookup x=some c->∃ v,s.heap.IsCell c v
 free:H X.env.locals=none
 gj:∀ x c,X.env.cells.lookup x=some c->(H c=none\/∃ o u,H c=some (.dD o u))/\(X.fn x=true->H c=none)
 pin:∀ p∈X.pn++pins,s.heap.get? p.1=some p.2/\H p.1=none/\p.1≠X.env.locals/\p.1∉X.fs/\∀ v,p.2.data≠.cell v
 hok:ic X.prog X.w H s.heap
 len:σ.length=X.N.length
section
variable{X:Cx}{pins:List (Addr×Obj)}{σ:List (Option V)}{H H':Hp}{s:Shared}{h':Heap}
theorem Cx.Ok.NP(ok:X.Ok){b:Addr}{o:Obj}(e:X.base.get? b=some o):b∉X.fs:=fun hb=>by
 have:=(ok.jF.mem hb).1;rw[e]at this;cases this
theorem Inv.bs(I:Inv X pins σ H s):∀ b o,X.base.get? b=some o->s.heap.get? b=some o/\H b=none:=fun b o e=>
 ⟨I.base.keep b o (I.ok.bs b o e).1 (I.ok.bs b o e).2 (I.ok.NP e) (I.ok.vg b o e),I.base.free b o (I.ok.bs b o e).1 (I.ok.bs b o e).2 (I.ok.vg b o e)⟩
theorem Inv.bk(I:Inv X pins σ H s):∀ b o,X.base.get? b=some o->s.heap.get? b=some o:=fun b o e=>(I.bs b o e).1
theorem Inv.mod(I:Inv X pins σ H s):Mod X.K X.mg X.base:=I.ok.mod
theorem Inv.iy(I:Inv X pins σ H s):X.K.In s.heap:=I.ok.mod.Gp.keeps I.bk
theorem Inv.lt(I:Inv X pins σ H s):X.env.locals < s.heap.objs.size:=let ⟨_,hn,_⟩:=I.loc;hn.lt
theorem Inv.sz(I:Inv X pins σ H s):X.s₀.heap.objs.size<=s.heap.objs.size:=Nat.le_trans I.ok.above (Nat.le_of_lt I.lt)
theorem Inv.NQ(I:Inv X pins σ H s){a:Addr}(h:s.heap.objs.size<=a):a∉X.fs:=fun hb=>by
 obtain⟨_,o,ho,_⟩:=I.ok.jF.mem hb;exact absurd (Nat.lt_of_lt_of_le (Heap.lt_size ho) (Nat.le_trans I.sz h)) (Nat.lt_irrefl _)
theorem Inv.yp(I:Inv X pins σ H s):∀ x c,X.env.cells.lookup x=some c->c≠X.env.locals:=fun x c e z=>by
 obtain⟨v,o,ho,hd⟩:=I.cell x c e;obtain⟨m,⟨o',es,ep,ho',hd',_⟩,_⟩:=I.loc;rw[z,ho']at ho;cases ho;rw[hd']at hd;cases hd
theorem Inv.jF(I:Inv X pins σ H s):s.heap.FunFrames X.base X.outer:=by
 have all:∀ (l:List Env),(∀ b∈frs l,b∈X.fs)->X.s₀.heap.FunFrames X.base l->s.heap.FunFrames X.base l:=by
  intro l
  induction l with
  | nil=>intro _ _;trivial
  | cons env r ih=>
   intro hs hl;obtain⟨hk,⟨L,o,hf,hn,ho,hd⟩,hr⟩:=hl;have hL:L∈X.fs:=hs L (by unfold frs;rw[List.filterMap_cons,hf];exact List.mem_cons_self)
   obtain⟨sl,e⟩:=I.base.slot L o ho (I.ok.CB L hL) hL fun z=>I.ok.vh L z hL
   exact⟨hk,⟨L,_,hf,hn,e,hd⟩,ih (fun b hb=>hs b (by unfold frs;rw[List.filterMap_cons,hf];exact List.mem_cons_of_mem _ hb)) hr⟩
 exact all X.outer (fun _ hb=>hb) I.ok.jF
theorem Inv.stack(I:Inv X pins σ H s):s.heap.FunFrames X.base X.stack:=by
 rcases I.ok.LW with e | ⟨e,hf⟩
 ·rw[e];exact I.jF
 ·rw[e]
  obtain⟨m,hn,_⟩:=I.loc;refine .cons (by rw[I.ok.kind];decide) hf hn ?_ I.jF
  exact Heap.get?_none_of_le (Nat.le_trans I.ok.Bv I.ok.above)
theorem Inv.qj(I:Inv X pins σ H s):∀ b∈frs X.stack,b∈X.env.locals::X.fs:=fun b hb=>by
 rcases I.ok.LW with e | ⟨e,hf⟩
 ·rw[e]at hb;exact List.mem_cons_of_mem _ hb
 ·rw[e]at hb
  unfold frs at hb;rw[List.filterMap_cons,hf]at hb;exact hb
theorem Inv.rV(I:Inv X pins σ H s):∀ b∈frs X.stack,H b=none:=fun b hb=>by
 rcases List.mem_cons.mp (I.qj b hb) with e | hb
 ·rw[e];exact I.free
 ·obtain⟨_,o,ho,_⟩:=I.ok.jF.mem hb
  exact I.base.free b o ho (I.ok.CB b hb) fun z=>I.ok.vh b z hb
theorem Inv.step{g':Array GenState}{t':Nat}{d':Drawn}{ch:List Addr}(I:Inv X pins σ H s)
  (hch:∀ b∈ch,(b∈X.ex\/X.s₀.heap.objs.size<=b)/\b≠X.env.locals/\(∀ x c,X.env.cells.lookup x=some c->c≠b)/\∀ p∈X.pn++pins,p.1≠b)
  (keep:∀ b o,b≠X.env.locals->b∉X.fs->b∉ch->s.heap.get? b=some o->H b=none->h'.get? b=some o)
  (slot:∀ b o,b≠X.env.locals->b∈X.fs->b∉ch->s.heap.get? b=some o->H b=none->∃ sl,h'.get? b=some { o with slots:=sl }) (free:∀ b o,b∉ch->s.heap.get? b=some o->H b=none->H' b=none)
  (there:∀ b o,b∉ch->s.heap.get? b=some o->∃ o',h'.get? b=some o')
  (tups:∀ b xs,H b=some (.tup xs)->H' b=some (.tup xs)) (ix:∀ b o u,H b=some (.dD o u)->H' b=some (.dD o u)) (kd:∀ b ps,H b=some (.Cz ps)->∃ more,H' b=some (.Cz (ps++more)))
  (ns:∀ m,s.heap.Ns X.env.locals m->h'.Ns X.env.locals m) (hok:ic X.prog X.w H' h') (hg:AllBare g') :
  Inv X pins σ H' { s with heap:=h',gens:=g',drawn:=d',toks:=t' }:=by
 have S6:∀ b o,X.s₀.heap.get? b=some o->b≠X.env.locals:=fun b o e=>Nat.ne_of_lt (Nat.lt_of_lt_of_le (Heap.lt_size e) I.ok.above)
 have FU:∀ b o,X.s₀.heap.get? b=some o->b∉X.ex->b∉ch:=fun b o e hx hb=>by
  rcases(hch b hb).1 with z | z
  ·exact hx z
  ·exact absurd (Nat.lt_of_lt_of_le (Heap.lt_size e) z) (Nat.lt_irrefl _)
 have cellK:∀ x c,X.env.cells.lookup x=some c->∀ v,s.heap.IsCell c v->h'.IsCell c v:=fun x c e v ⟨o,ho,hd⟩=>by
  have Bw:c∉ch:=fun z=>(hch c z).2.2.1 x c e rfl
  rcases(I.gj x c e).1 with hn | ⟨oz,uz,hz⟩
  ·by_cases hc:c∈X.fs
   ·obtain⟨sl,q⟩:=slot c o (I.yp x c e) hc Bw ho hn
    exact⟨_,q,hd⟩
   ·exact⟨o,keep c o (I.yp x c e) hc Bw ho hn,hd⟩
  ·have e1:s.heap.get? c=some oz:=(I.hok c _ hz).1
   have e2:h'.get? c=some oz:=(hok c _ (ix c oz uz hz)).1;rw[ho]at e1;cases e1
   exact⟨o,e2,hd⟩
 refine⟨I.ok,I.os,hg,⟨fun b o e n hb hx => ?_,fun b o e n hb hx => ?_,fun b o e n hx => ?_,fun b o e hx => ?_,fun b xs e=>tups b xs (I.base.tups b xs e),fun b o xs e=>ix b o xs (I.base.ix b o xs e),fun b ps e => ?_⟩,?_,fun x c e => ?_,?_,fun x c e => ?_,fun p hp => ?_,hok,I.len⟩
 ·exact keep b o (S6 b o e) hb (FU b o e hx) (I.base.keep b o e n hb hx) (I.base.free b o e n hx)
 ·obtain⟨sl,e1⟩:=I.base.slot b o e n hb hx
  obtain⟨sl',e2⟩:=slot b _ (S6 b o e) hb (FU b o e hx) e1 (I.base.free b o e n hx);exact⟨sl',e2⟩
 ·obtain⟨o',e1⟩:=I.base.there b o e hx
  exact free b o' (FU b o e hx) e1 (I.base.free b o e n hx)
 ·obtain⟨o',e1⟩:=I.base.there b o e hx
  exact there b o' (FU b o e hx) e1
 ·obtain⟨m1,e1⟩:=I.base.kd b ps e
  obtain⟨m2,e2⟩:=kd b _ e1;exact⟨m1++m2,by rw[e2,Array.append_assoc]⟩
 ·obtain⟨m,hn,hl⟩:=I.loc
  refine⟨m,ns m hn,fun i x v e1 e2 e3 => ?_⟩
  obtain⟨u,r,l⟩:=hl i x v e1 e2 e3;refine⟨u,r,?_⟩;rcases l with l | ⟨k,c,e,z⟩
  ·exact .inl l
  ·exact .inr ⟨k,c,e,cellK x c e _ z⟩
 ·obtain⟨v,z⟩:=I.cell x c e
  exact⟨v,cellK x c e v z⟩
 ·obtain⟨m,⟨o,_,_,ho,_⟩,_⟩:=I.loc
  exact free _ o (fun z=>(hch _ z).2.1 rfl) ho I.free
 ·obtain⟨v,o,ho,hd⟩:=I.cell x c e
  have Bw:c∉ch:=fun z=>(hch c z).2.2.1 x c e rfl
  refine⟨?_,fun hf=>free c o Bw ho ((I.gj x c e).2 hf)⟩
  rcases(I.gj x c e).1 with hn | ⟨oz,uz,hz⟩
  ·exact .inl (free c o Bw ho hn)
  ·exact .inr ⟨oz,uz,ix c oz uz hz⟩
 ·obtain⟨e,n,ne,nf,d⟩:=I.pin p hp
  have Bw:p.1∉ch:=fun z=>(hch p.1 z).2.2.2 p hp rfl
  exact⟨keep p.1 p.2 ne nf Bw e n,free p.1 p.2 Bw e n,ne,nf,d⟩
theorem Inv.un{t':Nat}(I:Inv X pins σ H s)(u:Un X.fs [] H H' s.heap h')(hok:ic X.prog X.w H' h'):Inv X pins σ H' { s with heap:=h',toks:=t' }:=by
 obtain⟨m,⟨o,es,ep,ho,r⟩,_⟩:=id I.loc;obtain⟨sl,hL⟩:=u.any ho I.free (by simp)
 exact I.step (g':=s.gens) (d':=s.drawn) (ch:=[]) (fun _ z=>nomatch z) (fun b o _ hb _ e n=>u.keep b o e n hb (by simp)) (fun b o _ hb _ e n=>u.slot b o e n hb (by simp)) (fun b o _ e n=>u.free b o e n (by simp)) (fun b o _ e=>u.there b o e (by simp)) u.tups u.ix u.kd (fun m' hm=>by
  obtain⟨o',es',ep',ho',r'⟩:=hm;rw[ho]at ho';cases ho'
  exact⟨_,es',ep',hL,r'⟩) hok I.bare
theorem Inv.call{g':Array GenState}{t':Nat}{d':Drawn}{ch:List Addr}(I:Inv X pins σ H s)(u:Un (frs X.stack) ch H H' s.heap h')(hok:ic X.prog X.w H' h')(hg:AllBare g')
  (hch:∀ b∈ch,(b∈X.ex\/X.s₀.heap.objs.size<=b)/\b≠X.env.locals/\(∀ x c,X.env.cells.lookup x=some c->c≠b)/\∀ p∈X.pn++pins,p.1≠b) :
  Inv X pins σ H' { s with heap:=h',gens:=g',drawn:=d',toks:=t' }:=by
 obtain⟨m,⟨o,es,ep,ho,r⟩,_⟩:=id I.loc;obtain⟨sl,hL⟩:=u.any ho I.free fun z=>(hch _ z).2.1 rfl
 exact I.step (ch:=ch) hch (fun b o hL hb hc e n=>u.keep b o e n (fun z=>(List.mem_cons.mp (I.qj b z)).elim hL hb) hc) (fun b o _ _ hc e n=>u.any e n hc) (fun b o hc e n=>u.free b o e n hc) (fun b o hc e=>u.there b o e hc) u.tups u.ix u.kd (fun m' hm=>by
  obtain⟨o',es',ep',ho',r'⟩:=hm;rw[ho]at ho';cases ho'
  exact⟨_,es',ep',hL,r'⟩) hok hg
theorem Inv.turned{t':Nat}{it:Addr}(I:Inv X pins σ H s)(k:∀ b o,b≠it->s.heap.get? b=some o->h'.get? b=some o)(hn:H it=none)(hL:it≠X.env.locals)
  (h1:it∈X.ex\/X.s₀.heap.objs.size<=it) (h2:∀ x c,X.env.cells.lookup x=some c->c≠it) (h3:∀ p∈X.pn++pins,p.1≠it):Inv X pins σ H { s with heap:=h',toks:=t' }:=by
 have S7:∀ b u,H b=some u->b≠it:=fun b u e z=>by rw[z,hn]at e;cases e
 refine I.step (g':=s.gens) (d':=s.drawn) (ch:=[it]) (fun b hb => ?_) (fun b o _ _ hc e _=>k b o (fun z=>hc (by simp[z])) e) (fun b o _ _ hc e _=>⟨o.slots,k b o (fun z=>hc (by simp[z])) e⟩) (fun _ _ _ _ n=>n)
  (fun b o hc e=>⟨o,k b o (fun z=>hc (by simp[z])) e⟩) (fun _ _ e=>e) (fun _ _ _ e=>e) (fun b ps e=>⟨#[],by rw[e];simp⟩) (fun m hm => ?_) (fun b u e => ?_) I.bare
 ·have e:b=it:=by simpa using hb
  subst e;exact⟨h1,hL,h2,h3⟩
 ·obtain⟨o,es,ep,ho,r⟩:=hm
  exact⟨o,es,ep,k _ o (Ne.symm hL) ho,r⟩
 ·refine(I.hok b u e).stay (fun c v hc q=>k c v ?_ q) (fun _ q=>q) fun _ _ q=>q
  rcases hc with z | z
  ·rw[z];exact S7 b u e
  ·exact S7 c _ z
theorem Inv.tok(I:Inv X pins σ H s)(t:Nat):Inv X pins σ H { s with toks:=t }:=I.un (h':=s.heap) (t':=t) Un.refl I.hok
theorem Inv.kept{t':Nat}(I:Inv X pins σ H s)(k:∀ b u,s.heap.get? b=some u->h'.get? b=some u):Inv X pins σ H { s with heap:=h',toks:=t' }:=I.un (Un.kept k) (I.hok.kept k)
theorem Inv.laid{a:Addr}{o:HO}{t':Nat}(I:Inv X pins σ H s)(k:∀ b u,s.heap.get? b=some u->h'.get? b=some u)(hp:s.heap.objs.size<=a)(new:bJ X.prog X.w (upd H a o) h' a o) :
  Inv X pins σ (upd H a o) { s with heap:=h',toks:=t' }:=I.un (Un.laid k hp (I.hok.fresh hp)) (I.hok.laid k hp new)
theorem Inv.write{x e:Addr}{o:HO}{t':Nat}(I:Inv X pins σ H s)(mu:Gm (H x))(he:e=x\/H e=some (.own x))(k:∀ b u,b≠e->s.heap.get? b=some u->h'.get? b=some u)(heo:∃ u,h'.get? e=some u)
  (new:bJ X.prog X.w (upd H x o) h' x o):Inv X pins σ (upd H x o) { s with heap:=h',toks:=t' }:=I.un (Un.write mu he k heo) (I.hok.write mu he k heo new)
theorem Inv.weak{σ':List (Option V)}(I:Inv X pins σ H s)(hl:σ'.length=σ.length)(w:∀ (i:Nat) v,σ'[i]?=some (some v)->σ[i]?=some (some v)):Inv X pins σ' H s:=
 ⟨I.ok,I.os,I.bare,I.base,let ⟨m,hn,hl'⟩:=I.loc;⟨m,hn,fun i x v e1 e2 e3=>hl' i x v e1 (w i v e2) e3⟩,I.cell,I.free,I.gj,I.pin,I.hok,hl.trans I.len⟩
theorem Inv.rW{Bx:List (Addr×Obj)}(I:Inv X pins σ H s)(h:∀ p∈Bx,s.heap.get? p.1=some p.2/\H p.1=none/\p.1≠X.env.locals/\p.1∉X.fs/\∀ v,p.2.data≠.cell v):Inv X Bx σ H s:=
 ⟨I.ok,I.os,I.bare,I.base,I.loc,I.cell,I.free,I.gj,fun p hp=>(List.mem_append.mp hp).elim (fun z=>I.pin p (List.mem_append_left _ z)) (h p),I.hok,I.len⟩
theorem oq{N:List Str}(hN:N.Nodup){i j:Nat}{x:Str}(a:N[i]?=some x)(b:N[j]?=some x):i=j:=by
 obtain⟨h1,e1⟩:=List.getElem?_eq_some_iff.mp a;obtain⟨h2,e2⟩:=List.getElem?_eq_some_iff.mp b;exact(List.getElem_inj hN).mp (e1.trans e2.symm)
theorem lS{M:Model}{A:Around}{E:Value->Shared->Prop}{i:Nat}{x:Str}{v:V}{u:Value}{Q:Unit->Shared->Prop}(I:Inv X pins σ H s)(hN:X.N.Nodup)(hi:X.N[i]?=some x)(hx:Loc X.env.scope x)(r:RelV v u)
  (h:∀ s',Inv X pins (σ.set i (some v)) H s'->(∃ a,Heap.SameBut a s.heap s'.heap/\(a=X.env.locals\/X.env.cells.lookup x=some a))->Q () s') (hf:X.fn x=true\/X.env.scope.names.lookup x=some .local:=by first | exact .inl rfl | exact .inr rfl | assumption):wpAny M A (storeName X.env x u) Q E s:=by
 obtain⟨m,hn,hl⟩:=id I.loc;have hcls:(X.env.scope.kind == .class || (X.env.scope.kind == .module && X.env.locals != X.env.globals))=false:=by rw[I.ok.kind];rfl
 have Gq:i < σ.length:=by rw[I.len];exact(List.getElem?_eq_some_iff.mp hi).1
 have yp:=I.yp
 have tracked:∀ {a:Addr} {h':Heap},(∃ o,s.heap.get? a=some o/\H a=none)->Heap.SameBut a s.heap h'->ic X.prog X.w H h':=fun {a h'} ha hs b ob e=>by
  obtain⟨_,_,hfree⟩:=ha;refine(I.hok b ob e).stay (fun c w' hc q=>(hs.2 c ?_).trans q) (fun _ q=>q) fun _ _ q=>q
  rintro rfl;rcases hc with rfl | hc
  ·rw[hfree]at e;cases e
  ·rw[hfree]at hc;cases hc
 rcases hx with hk | hk
 ·refine wpAny_storeName_local hk hn (fun h' hn' hs => ?_) hcls
  obtain⟨oL,_,_,hoL,_⟩:=id hn;refine h _ ⟨I.ok,I.os,I.bare,⟨fun b o e n hb hx => ?_,fun b o e n hb hx => ?_,I.base.free,fun b o e hx => ?_,I.base.tups,I.base.ix,I.base.kd⟩,⟨_,hn',fun j y v' e1 e2 e3 => ?_⟩,fun y c e => ?_,I.free,I.gj,fun p hp => ?_,tracked ⟨oL,hoL,I.free⟩ hs,by simpa using I.len⟩ ⟨_,hs,.inl rfl⟩
  ·exact(hs.2 b (Nat.ne_of_lt (Nat.lt_of_lt_of_le (Heap.lt_size e) I.ok.above))).trans (I.base.keep b o e n hb hx)
  ·obtain⟨sl,e1⟩:=I.base.slot b o e n hb hx
   exact⟨sl,(hs.2 b (Nat.ne_of_lt (Nat.lt_of_lt_of_le (Heap.lt_size e) I.ok.above))).trans e1⟩
  ·obtain⟨o',e1⟩:=I.base.there b o e hx
   exact⟨o',(hs.2 b (Nat.ne_of_lt (Nat.lt_of_lt_of_le (Heap.lt_size e) I.ok.above))).trans e1⟩
  ·by_cases hj:j=i
   ·subst hj
    rw[hi]at e1;cases e1
    rw[List.getElem?_set_self Gq]at e2;cases e2;exact⟨u,r,.inl ⟨hk,by simp⟩⟩
   ·rw[List.getElem?_set_ne (Ne.symm hj)]at e2
    obtain⟨u',r',q⟩:=hl j y v' e1 e2 e3;refine⟨u',r',?_⟩;rcases q with ⟨k,e⟩ | ⟨k,c,e,z⟩
    ·refine .inl ⟨k,?_⟩
     have:y≠x:=fun e=>hj (oq hN e1 (e▸hi))
     simp[this,e]
    ·exact .inr ⟨k,c,e,z.sameBut hs (yp y c e)⟩
  ·obtain⟨w',z⟩:=I.cell y c e
   exact⟨w',z.sameBut hs (yp y c e)⟩
  ·obtain⟨e,n,ne,nf,d⟩:=I.pin p hp
   exact⟨(hs.2 p.1 ne).trans e,n,ne,nf,d⟩
 ·have hfn:X.fn x=true:=by
   rcases hf with z | z
   ·exact z
   ·rw[z]at hk;cases hk
  obtain⟨c,hc⟩:=I.ok.has x (.inl hk);obtain⟨w',z⟩:=I.cell x c hc;refine wpAny_storeName_cell I.ok.kind hk hc z (fun h' hc' hs => ?_)
  obtain⟨oc,hoc,NR⟩:=id z;refine h { s with heap:=h' } ⟨I.ok,I.os,I.bare,⟨fun b o e n hb hx => ?_,fun b o e n hb hx => ?_,I.base.free,fun b o e hx => ?_,I.base.tups,I.base.ix,I.base.kd⟩,⟨m,hn.sameBut hs (Ne.symm (yp x c hc)),fun j y v' e1 e2 e3 => ?_⟩,fun y c' e => ?_,I.free,I.gj,fun p hp => ?_,tracked ⟨oc,hoc,(I.gj x c hc).2 hfn⟩ hs,by simpa using I.len⟩ ⟨c,hs,.inr hc⟩
  ·exact(hs.2 b (Nat.ne_of_lt (Nat.lt_of_lt_of_le (Heap.lt_size e) (I.ok.cab x c hfn hc)))).trans (I.base.keep b o e n hb hx)
  ·obtain⟨sl,e1⟩:=I.base.slot b o e n hb hx
   exact⟨sl,(hs.2 b (Nat.ne_of_lt (Nat.lt_of_lt_of_le (Heap.lt_size e) (I.ok.cab x c hfn hc)))).trans e1⟩
  ·obtain⟨o',e1⟩:=I.base.there b o e hx
   exact⟨o',(hs.2 b (Nat.ne_of_lt (Nat.lt_of_lt_of_le (Heap.lt_size e) (I.ok.cab x c hfn hc)))).trans e1⟩
  ·by_cases hj:j=i
   ·subst hj
    rw[hi]at e1;cases e1
    rw[List.getElem?_set_self Gq]at e2;cases e2;exact⟨u,r,.inr ⟨.inl hk,c,hc,hc'⟩⟩
   ·rw[List.getElem?_set_ne (Ne.symm hj)]at e2
    obtain⟨u',r',q⟩:=hl j y v' e1 e2 e3;refine⟨u',r',?_⟩;rcases q with q | ⟨k,c',e,z'⟩
    ·exact .inl q
    ·refine .inr ⟨k,c',e,z'.sameBut hs ?_⟩
     rintro rfl;exact hj (oq hN e1 (I.ok.inj _ _ _ e hc▸hi))
  ·by_cases hcc:c'=c
   ·subst hcc;exact⟨_,hc'⟩
   ·obtain⟨w2,z2⟩:=I.cell y c' e
    exact⟨w2,z2.sameBut hs hcc⟩
  ·obtain⟨e,n,ne,nf,d⟩:=I.pin p hp
   refine⟨(hs.2 p.1 ?_).trans e,n,ne,nf,d⟩;intro q;rw[q,hoc]at e;have q':oc=p.2:=Option.some.inj e;exact d w' (by rw[← q'];exact NR)
theorem ot{M:Model}{A:Around}{E:Value->Shared->Prop}{i:Nat}{x:Str}{v:V}{u:Value}{Q:Unit->Shared->Prop}(I:Inv X pins σ H s)(hN:X.N.Nodup)(hi:X.N[i]?=some x)(hx:Loc X.env.scope x)(r:RelV v u)
  (h:∀ s',Inv X pins (σ.set i (some v)) H s'->Q () s') (hf:X.fn x=true\/X.env.scope.names.lookup x=some .local:=by first | exact .inl rfl | exact .inr rfl | assumption):wpAny M A (storeName X.env x u) Q E s:=
 lS I hN hi hx r (fun s' I' _=>h s' I') hf
theorem Inv.call'{s':Shared}{ch:List Addr}(I:Inv X pins σ H s)(ho:s'.os=s.os)(u:Un (frs X.stack) ch H H' s.heap s'.heap)(hok:ic X.prog X.w H' s'.heap)(hg:AllBare s'.gens)
  (hch:∀ b∈ch,(b∈X.ex\/X.s₀.heap.objs.size<=b)/\b≠X.env.locals/\(∀ x c,X.env.cells.lookup x=some c->c≠b)/\∀ p∈X.pn++pins,p.1≠b):Inv X pins σ H' s':=by
 obtain⟨h',g',d',t',o'⟩:=s';have e:o'=s.os:=ho;subst e;exact I.call (g':=g') (t':=t') (d':=d') u hok hg hch
end
abbrev XK:=Value->Option Addr->Hp->Prop
abbrev St:=List (Option V)
abbrev VK:=V->Hp->Prop
abbrev TE:=St->Hp->VK->Prop
abbrev TT:=St->Hp->(Bool->Hp->Prop)->Prop
abbrev TA:=St->Hp->(List V->Hp->Prop)->Prop
structure Ends where
 nx:St->Hp->Prop
 rt:VK
 bk:St->Hp->Prop:=fun _ _=>False
 ct:St->Hp->Prop:=fun _ _=>False
abbrev TS:=Ends->St->Hp->Prop
def EP(X:Cx)(pins:List (Addr×Obj))(σ:St)(Q:VK)(u:Value)(s':Shared):Prop:=∃ v H',Inv X pins σ H' s'/\RelV v u/\Q v H'
def TP(X:Cx)(pins:List (Addr×Obj))(σ:St)(Q:Bool->Hp->Prop)(b:Bool)(s':Shared):Prop:=∃ H',Inv X pins σ H' s'/\Q b H'
def AP(X:Cx)(pins:List (Addr×Obj))(σ:St)(Q:List V->Hp->Prop)(us:List Value)(s':Shared):Prop:=∃ vs H',Inv X pins σ H' s'/\Vals vs us/\Q vs H'
def SP(X:Cx)(pins:List (Addr×Obj))(D:Ends)(f:Flow)(s':Shared):Prop:=
 match f with
 | .next=>∃ σ' H',Inv X pins σ' H' s'/\D.nx σ' H'
 | .brk=>∃ σ' H',Inv X pins σ' H' s'/\D.bk σ' H'
 | .cont=>∃ σ' H',Inv X pins σ' H' s'/\D.ct σ' H'
 | .ret u=>∃ v σ' H',Inv X pins σ' H' s'/\RelV v u/\D.rt v H'
def PE(X:Cx)(e:Expr)(t:TE):Prop:=
 ∀ (pins:List (Addr×Obj)) (s:Shared) (σ:St) (H:Hp) (Q:VK),Inv X pins σ H s->t σ H Q->wpAny (model X.prog X.w) X.A (eval e X.env) (EP X pins σ Q) X.xe s
def PT(X:Cx)(e:Expr)(t:TT):Prop:=
 ∀ (pins:List (Addr×Obj)) (s:Shared) (σ:St) (H:Hp) (Q:Bool->Hp->Prop),Inv X pins σ H s->t σ H Q->wpAny (model X.prog X.w) X.A (isTrue e X.env (eval e X.env)) (TP X pins σ Q) X.xe s
def PW(X:Cx)(e:Expr)(t:TT):Prop:=
 ∀ (whole:Sem Value) (pins:List (Addr×Obj)) (s:Shared) (σ:St) (H:Hp) (Q:Bool->Hp->Prop),Inv X pins σ H s->t σ H Q->wpAny (model X.prog X.w) X.A (isTrue e X.env whole) (TP X pins σ Q) X.xe s
theorem PW.pt{X:Cx}{e:Expr}{t:TT}(h:PW X e t):PT X e t:=h _
def PA(X:Cx)(es:List Expr)(t:TA):Prop:=
 ∀ (pos:Pos) (pins:List (Addr×Obj)) (s:Shared) (σ:St) (H:Hp) (Q:List V->Hp->Prop),Inv X pins σ H s->t σ H Q->wpAny (model X.prog X.w) X.A (spliced (backTo pos (starEach es X.env))) (AP X pins σ Q) X.xe s
def PS(X:Cx)(st:Stmt)(t:TS):Prop:=
 ∀ (pins:List (Addr×Obj)) (s:Shared) (σ:St) (H:Hp) (D:Ends),Inv X pins σ H s->t D σ H->wpAny (model X.prog X.w) X.A (exec st X.env) (SP X pins D) X.xe s
def jt(X:Cx)(st:List Stmt)(t:TS):Prop:=
 ∀ (pins:List (Addr×Obj)) (s:Shared) (σ:St) (H:Hp) (D:Ends),Inv X pins σ H s->t D σ H->wpAny (model X.prog X.w) X.A (execs st X.env) (SP X pins D) X.xe s
theorem cu{α:Type}{t:Sem α}{Q Q':α->Shared->Prop}{M:Model}{A:Around}{E:Value->Shared->Prop}{s:Shared}(h:wpAny M A t Q E s)(hQ:∀ a s,Q a s->Q' a s):wpAny M A t Q' E s:=wpAny_mono h hQ fun _ _ x=>x
section
variable{X:Cx}
noncomputable def NS(i:Nat):TE:=fun σ H Q=>∃ v,σ[i]?=some (some v)/\Q v H
noncomputable def tC(v:V):TE:=fun _ H Q=>Q v H
theorem CC{i:Nat}{x:Str}{pos:Pos}(hN:X.N[i]?=some x)(hv:FT X.env.scope x)(hd:(x == ("__debug__":Str))=false:=by decide)(hcd:(x == ("__classdict__":Str))=false:=by decide):PE X (.Name x pos) (NS i):=by
 intro pins s σ H Q I h;obtain⟨v,e,h⟩:=h;obtain⟨m,hn,hl⟩:=I.loc;obtain⟨u,r,l⟩:=hl i x v hN e hv;have fin:EP X pins σ Q u s:=⟨v,H,I,r,h⟩;rcases l with ⟨hk,hm⟩ | ⟨hk,c,hc,hcell⟩
 ·exact wpAny_Name (wpAny_loadName_local I.ok.kind hk hn hm fin) hd
 ·rcases hk with hk | hk
  ·exact wpAny_Name (wpAny_loadName_cell I.ok.kind hk hc hcell fin) hd
  ·exact wpAny_Name (wpAny_loadName_free I.ok.kind hk hc hcell fin hcd) hd
theorem CD{i j pos}:PE X (.Constant (.int i) j pos) (tC (.int i)):=fun _ _ _ H _ I h=>wpAny_Constant_int ⟨.int i,H,I.tok _,⟨_,rfl⟩,h⟩
theorem Gr{b j pos}:PE X (.Constant (.bool b) j pos) (tC (.bl b)):=fun _ _ _ H _ I h=>Constant_bool ⟨.bl b,H,I,rfl,h⟩
theorem CF{j pos}:PE X (.Constant .none j pos) (tC .non):=fun _ _ _ H _ I h=>Constant_none ⟨.non,H,I,rfl,h⟩
theorem CG{x j pos}:PE X (.Constant (.str x) j pos) (tC (.str x)):=fun _ _ _ H _ I h=>Calls.Constant_str ⟨.str x,H,I.tok _,⟨_,rfl⟩,h⟩
def Gl(X:Cx)(x:Str):Prop:=X.env.kindOf x=some .globalImplicit
theorem iz{E:Value->Shared->Prop}{pins:List (Addr×Obj)}{s:Shared}{σ:St}{H:Hp}{x:Str}{u:Value}{pos:Pos}{Q:Value->Shared->Prop}(I:Inv X pins σ H s)(hg:Gl X x)(hm:X.mg x=some u)(h:Q u s)
  (hd:(x == ("__debug__":Str))=false:=by decide):wpAny (model X.prog X.w) X.A (eval (.Name x pos) X.env) Q E s:=
 Calls.Name_function_global I.ok.kind hg (Calls.loadGlobal_global (by rw[I.ok.glob];exact I.mod.glob.keeps I.bk) hm h) hd
theorem ke{E:Value->Shared->Prop}{pins:List (Addr×Obj)}{s:Shared}{σ:St}{H:Hp}{x:Str}{u:Value}{pos:Pos}{Q:Value->Shared->Prop}(I:Inv X pins σ H s)(hg:Gl X x)(hm:X.mg x=none)(hv:bootBuiltins x=some u)(h:Q u s)
  (hn:x≠"__name__":=by decide) (hd:(x == ("__debug__":Str))=false:=by decide):wpAny (model X.prog X.w) X.A (eval (.Name x pos) X.env) Q E s:=by
 obtain⟨mb,h1,h2⟩:=I.mod.blt;exact Calls.Name_function_global I.ok.kind hg (Calls.loadGlobal_builtin (by rw[I.ok.glob];exact I.mod.glob.keeps I.bk) hm (by rw[I.ok.blt];exact h1.keeps I.bk) ((h2 x hn).trans hv) h) hd
theorem yq{x:Str}{v:V}{u:Value}{pos:Pos}(hg:Gl X x)(hm:X.mg x=some u)(r:RelV v u)(hd:(x == ("__debug__":Str))=false:=by decide):PE X (.Name x pos) (tC v):=
 fun _ _ _ H _ I h=>iz I hg hm ⟨v,H,I,r,h⟩ hd
theorem yr{x:Str}{v:V}{u:Value}{pos:Pos}(hg:Gl X x)(hm:X.mg x=none)(hv:bootBuiltins x=some u)(r:RelV v u)(hn:x≠"__name__":=by decide)(hd:(x == ("__debug__":Str))=false:=by decide):PE X (.Name x pos) (tC v):=
 fun _ _ _ H _ I h=>ke I hg hm hv ⟨v,H,I,r,h⟩ hn hd
variable{a b:Expr}{ta tb:TE}{pos:Pos}
variable{tA LY:TT}{rest:List Expr}
noncomputable def NT(t u:TT):TT:=fun σ H Q=>t σ H fun c H1=>if c=true then u σ H1 Q else Q false H1
noncomputable def VS(t u:TT):TT:=fun σ H Q=>t σ H fun c H1=>if c=true then Q true H1 else u σ H1 Q
noncomputable def NU(t:TT):TT:=fun σ H Q=>t σ H fun c H1=>Q (!c) H1
theorem pw_and1(ha:PT X a tA):PW X (.BoolOp .And [a] pos) tA:=by
 intro wh pins s σ H Q I h;refine isTrue_and (cu (ha pins s σ H Q I h) fun c s1 e => ?_)
 cases c with
 | true=>exact isTrue_and_nil e
 | false=>exact e
theorem pw_or1(ha:PT X a tA):PW X (.BoolOp .Or [a] pos) tA:=by
 intro wh pins s σ H Q I h;refine isTrue_or (cu (ha pins s σ H Q I h) fun c s1 e => ?_)
 cases c with
 | false=>exact isTrue_or_nil e
 | true=>exact e
theorem pw_and(ha:PT X a tA)(hb:PW X (.BoolOp .And (b::rest) pos) LY):PW X (.BoolOp .And (a::b::rest) pos) (NT tA LY):=by
 intro wh pins s σ H Q I h;refine isTrue_and (cu (ha pins s σ H _ I h) fun c s1 ⟨H1,I1,q1⟩ => ?_)
 cases c with
 | true=>exact hb wh pins s1 σ H1 Q I1 q1
 | false=>exact⟨H1,I1,q1⟩
theorem pw_or(ha:PT X a tA)(hb:PW X (.BoolOp .Or (b::rest) pos) LY):PW X (.BoolOp .Or (a::b::rest) pos) (VS tA LY):=by
 intro wh pins s σ H Q I h;refine isTrue_or (cu (ha pins s σ H _ I h) fun c s1 ⟨H1,I1,q1⟩ => ?_)
 cases c with
 | true=>exact⟨H1,I1,q1⟩
 | false=>exact hb wh pins s1 σ H1 Q I1 q1
theorem CH(ha:PT X a tA):PT X (.UnaryOp .Not a pos) (NU tA):=by
 intro pins s σ H Q I h;exact isTrue_not (ha pins s σ H (fun c H1=>Q (!c) H1) I h)
theorem CI{op}{t:TE}(h:PE X a t):PE X (.BoolOp op [a] pos) t:=fun pins s σ H Q I hw=>BoolOp_one (h pins s σ H Q I hw)
noncomputable def By(t:TT)(ta tb:TE):TE:=fun σ H Q=>t σ H fun c H1=>if c=true then ta σ H1 Q else tb σ H1 Q
theorem vi{c:Expr}(hc:PT X c tA)(ha:PE X a ta)(hb:PE X b tb):PE X (.IfExp c a b pos) (By tA ta tb):=by
 intro pins s σ H Q I h;refine wpAny_IfExp (cu (hc pins s σ H _ I h) fun d s1 ⟨H1,I1,q1⟩ => ?_)
 cases d with
 | true=>exact ha pins s1 σ H1 Q I1 q1
 | false=>exact hb pins s1 σ H1 Q I1 q1
end
def jO(K:PySem.W.Frag)(H:Hp)(a:Addr)(xs:List V):Prop:=
 Rd H a (.lst xs) \/
  ∃ (o:Obj) (its:Array Value) (n:Nat),K.lookup a=some o/\o.cls=.type "list"/\o.dict=none/\o.data=.seq its n/\its.size<=sizeLine/\Vals xs its.toList
def f_(K:PySem.W.Frag)(H:Hp)(a:Addr)(xs:List V):Prop:=
 Rd H a (.tup xs) \/
  ∃ (o:Obj) (its:Array Value) (n:Nat),K.lookup a=some o/\o.cls=.type "tuple"/\o.data=.seq its n/\its.size<=sizeLine/\Vals xs its.toList
noncomputable def NV:Value->Option V
 | .none=>some .non
 | .bool b=>some (.bl b)
 | .int i _=>some (.int i)
 | .str x _=>some (.str x)
 | .bytes b _=>some (.FR b)
 | .float b _=>some (.flt b)
 | .ref a=>some (.ref a)
 | .type n=>some (.ty n)
 | _=>none
theorem RelV.abs{x:V}{u:Value}(r:RelV x u):NV u=some x:=by
 cases x with
 | non=>cases r;rfl
 | bl _=>cases r;rfl
 | int _=>obtain⟨t,rfl⟩:=r;rfl
 | str _=>obtain⟨t,rfl⟩:=r;rfl
 | FR _=>obtain⟨t,rfl⟩:=r;rfl
 | flt _=>obtain⟨t,rfl⟩:=r;rfl
 | ref _=>cases r;rfl
 | ty _=>cases r;rfl
theorem RelV.inj{x y:V}{u:Value}(r:RelV x u)(q:RelV y u):x=y:=Option.some.inj (r.abs.symm.trans q.abs)
theorem Vals.inj:∀ {xs ys:List V} {us:List Value},Vals xs us->Vals ys us->xs=ys
 | _,_,_,.nil,.nil=>rfl
 | _,_,_,.cons r t,.cons r' t'=>by rw[r.inj r',Vals.inj t t']
section
variable{X:Cx}{pins:List (Addr×Obj)}{σ:St}{H:Hp}{s:Shared}{a:Addr}{xs ys:List V}
theorem f_.of{K:PySem.W.Frag}(h:H a=some (.tup xs)):f_ K H a xs:=.inl (.inl h)
theorem Inv.list(I:Inv X pins σ H s)(h:jO X.K H a xs):∃ its:List Value,Vals xs its/\PlainL s.heap a its.toArray/\xs.length<=sizeLine:=by
 rcases h with h | ⟨o,its,n,hk,hc,hd,hs,hz,r⟩
 ·obtain⟨z,its,n,r,e⟩:=h.ok I.hok
  exact⟨its,r,⟨_,n,e,rfl,rfl,rfl⟩,z⟩
 ·refine⟨its.toList,r,⟨o,n,I.iy a o hk,hc,hd,by simpa using hs⟩,?_⟩
  have e:=r.length;simp only[Array.length_toList]at e;omega
theorem Inv.tuple(I:Inv X pins σ H s)(h:f_ X.K H a xs):∃ its:List Value,Vals xs its/\IsTup s.heap a its.toArray/\xs.length<=sizeLine:=by
 rcases h with h | ⟨o,its,n,hk,hc,hs,hz,r⟩
 ·obtain⟨z,its,r,p⟩:=h.ok I.hok
  exact⟨its,r,p,z⟩
 ·refine⟨its.toList,r,⟨o,I.iy a o hk,hc,n,by simpa using hs⟩,?_⟩
  have e:=r.length;simp only[Array.length_toList]at e;omega
theorem Inv.ou(I:Inv X pins σ H s)(h:jO X.K H a xs)(h':jO X.K H a ys):xs=ys:=by
 obtain⟨its,r,⟨o,n,e,_,_,d⟩,_⟩:=I.list h;obtain⟨its',r',⟨o',n',e',_,_,d'⟩,_⟩:=I.list h';rw[e]at e';cases e'
 rw[d]at d';injection d' with d1 _;have:its=its':=by simpa using congrArg Array.toList d1
 subst this;exact r.inj r'
theorem Inv.lT(I:Inv X pins σ H s)(h:f_ X.K H a xs)(h':f_ X.K H a ys):xs=ys:=by
 obtain⟨its,r,⟨o,e,_,n,d⟩,_⟩:=I.tuple h;obtain⟨its',r',⟨o',e',_,n',d'⟩,_⟩:=I.tuple h';rw[e]at e';cases e'
 rw[d]at d';injection d' with d1 _;have:its=its':=by simpa using congrArg Array.toList d1
 subst this;exact r.inj r'
end
abbrev Cx.wish(X:Cx)(E:Value->Shared->Prop):Cx:={ X with xe:=E }
abbrev Cx.vj(X:Cx):Cx:=X.wish fun _ _=>False
theorem Cx.Ok.wish{X:Cx}(ok:X.Ok)(E:Value->Shared->Prop):(X.wish E).Ok:=
 ⟨ok.mod,ok.kind,ok.glob,ok.blt,ok.above,ok.inj,ok.has,ok.cab,ok.hd,ok.frames,ok.LW,ok.LX,ok.bs,ok.Bv,ok.vg,ok.vh,ok.jF,ok.CB⟩
theorem Cx.Ok.gm{X:Cx}{E:Value->Shared->Prop}(ok:(X.wish E).Ok):X.Ok:=
 ⟨ok.mod,ok.kind,ok.glob,ok.blt,ok.above,ok.inj,ok.has,ok.cab,ok.hd,ok.frames,ok.LW,ok.LX,ok.bs,ok.Bv,ok.vg,ok.vh,ok.jF,ok.CB⟩
section
variable{X:Cx}{pins:List (Addr×Obj)}{σ:St}{H:Hp}{s:Shared}{E:Value->Shared->Prop}
theorem Inv.wish(I:Inv X pins σ H s)(E:Value->Shared->Prop):Inv (X.wish E) pins σ H s:=⟨I.ok.wish E,I.os,I.bare,I.base,I.loc,I.cell,I.free,I.gj,I.pin,I.hok,I.len⟩
theorem Inv.gm(I:Inv (X.wish E) pins σ H s):Inv X pins σ H s:=⟨I.ok.gm,I.os,I.bare,I.base,I.loc,I.cell,I.free,I.gj,I.pin,I.hok,I.len⟩
theorem SP.gm{D:Ends}{f:Flow}{s':Shared}(h:SP (X.wish E) pins D f s'):SP X pins D f s':=by
 cases f with
 | next=>obtain⟨σ',H',I,q⟩:=h;exact⟨σ',H',I.gm,q⟩
 | brk=>obtain⟨σ',H',I,q⟩:=h;exact⟨σ',H',I.gm,q⟩
 | cont=>obtain⟨σ',H',I,q⟩:=h;exact⟨σ',H',I.gm,q⟩
 | ret u=>obtain⟨v,σ',H',I,r,q⟩:=h;exact⟨v,σ',H',I.gm,r,q⟩
theorem jt.vj{st:List Stmt}{t:TS}(h:jt X.vj st t):jt X st t:=fun pins s σ H D I hw=>
 wpAny_mono (h pins s σ H D (I.wish _) hw) (fun _ _ q=>q.gm) fun _ _ z=>False.elim z
end
section
variable{X:Cx}{st:Stmt}{rest:List Stmt}{t u:TS}{e:Expr}{te:TE}{pos:Pos}
noncomputable def Gs:TS:=fun D σ H=>D.nx σ H
noncomputable def NW(t u:TS):TS:=fun D σ H=>t { D with nx:=u D } σ H
theorem yt:jt X [] Gs:=fun _ _ σ H _ I h=>wpAny_execs_nil ⟨σ,H,I,h⟩
theorem vk(h1:PS X st t)(h2:jt X rest u):jt X (st::rest) (NW t u):=by
 intro pins s σ H D I h;refine wpAny_execs_cons (cu (h1 pins s σ H { D with nx:=u D } I h) fun f s1 q => ?_)
 cases f with
 | next=>
  obtain⟨σ',H',I',q⟩:=q;exact h2 pins s1 σ' H' D I' q
 | ret v=>exact q
 | brk=>exact q
 | cont=>exact q
theorem Inv.quiet{pins:List (Addr×Obj)}{σ:St}{H:Hp}{s:Shared}(I:Inv X pins σ H s):interactive X.env=false:=by simp[interactive,I.ok.kind]
noncomputable def Gu(te:TE):TS:=fun D σ H=>te σ H fun _ H1=>D.nx σ H1
theorem yu(he:PE X e te)(hs:swapsWith e none pos.line X.env=pure false:=by rfl):PS X (.Expr e pos) (Gu te):=by
 intro pins s σ H D I h;exact wpAny_Expr_any (cu (he pins s σ H _ I h) fun v s1 ⟨x,H1,I1,r1,q1⟩=>⟨σ,H1,I1,q1⟩) I.quiet hs
noncomputable def NX(te:TE):TS:=fun D σ H=>te σ H D.rt
theorem CJ(he:PE X e te):PS X (.Return (some e) pos) (NX te):=by
 intro pins s σ H D I h;exact wpAny_Return_some (cu (he pins s σ H _ I h) fun v s1 ⟨x,H1,I1,r1,q1⟩=>⟨x,σ,H1,I1,r1,q1⟩)
noncomputable def NY(c:TT)(t u:TS):TS:=fun D σ H=>c σ H fun b H1=>if b=true then t D σ H1 else u D σ H1
theorem Gv{c:Expr}{a b:List Stmt}{tc:TT}(hc:PT X c tc)(ha:jt X a t)(hb:jt X b u):PS X (.If c a b pos) (NY tc t u):=by
 intro pins s σ H D I h;refine wpAny_If (cu (hc pins s σ H _ I h) fun d s1 ⟨H1,I1,q1⟩ => ?_)
 cases d with
 | true=>exact ha pins s1 σ H1 D I1 q1
 | false=>exact hb pins s1 σ H1 D I1 q1
end
abbrev TG:=V->St->Hp->(St->Hp->Prop)->Prop
abbrev Bz:=List V->St->Hp->(St->Hp->Prop)->Prop
def PG(X:Cx)(target:Expr)(t:TG):Prop:=
 ∀ (pins:List (Addr×Obj)) (s:Shared) (σ:St) (H:Hp) (v:V) (u:Value) (Q:St->Hp->Prop),Inv X pins σ H s->RelV v u->t v σ H Q ->
  wpAny (model X.prog X.w) X.A (assign target X.env u) (fun _ s'=>∃ σ' H',Inv X pins σ' H' s'/\Q σ' H') X.xe s
def Gw(X:Cx)(ts:List Expr)(t:Bz):Prop:=
 ∀ (pins:List (Addr×Obj)) (s:Shared) (σ:St) (H:Hp) (vs:List V) (us:List Value) (Q:St->Hp->Prop),Inv X pins σ H s->Vals vs us->t vs σ H Q ->
  wpAny (model X.prog X.w) X.A (assignInOrder ((assignEach ts X.env).map (·.2)) us) (fun _ s'=>∃ σ' H',Inv X pins σ' H' s'/\Q σ' H') X.xe s
abbrev NZ:=V->V->V->Hp->(Hp->Prop)->Prop
def N0(X:Cx)(t:NZ):Prop:=
 ∀ (pins:List (Addr×Obj)) (s:Shared) (σ:St) (H:Hp) (o i v:V) (ov iv u:Value) (Q:Hp->Prop),Inv X pins σ H s->RelV o ov->RelV i iv->RelV v u->t o i v H Q ->
  wpAny (model X.prog X.w) X.A (setItem ov iv u) (fun _ s'=>∃ H',Inv X pins σ H' s'/\Q H') X.xe s
section
variable{X:Cx}{pos:Pos}
noncomputable def ia(i:Nat):TG:=fun v σ H Q=>Q (σ.set i (some v)) H
theorem mU{i:Nat}{x:Str}(hN:X.N.Nodup)(hi:X.N[i]?=some x)(hx:Loc X.env.scope x)(hf:X.fn x=true\/X.env.scope.names.lookup x=some .local:=by first | exact .inl rfl | exact .inr rfl | assumption):PG X (.Name x pos) (ia i):=by
 intro pins s σ H v u Q I r h;exact wpAny_assign_Name (ot I hN hi hx r (fun s' I'=>⟨_,H,I',h⟩) hf)
noncomputable def Gx:Bz:=fun vs σ H Q=>vs=[]/\Q σ H
noncomputable def BA(t:TG)(u:Bz):Bz:=fun vs σ H Q=>∃ v r,vs=v::r/\t v σ H fun σ' H'=>u r σ' H' Q
theorem yv:Gw X [] Gx:=by
 intro pins s σ H vs us Q I r h;obtain⟨e,h⟩:=h;subst e;cases r;exact assignInOrder_nil ⟨σ,H,I,h⟩
theorem vm{e:Expr}{es:List Expr}{t:TG}{u:Bz}(h1:PG X e t)(h2:Gw X es u)
  (hs:(assignEach (e::es) X.env).map (·.2)=assign e X.env::(assignEach es X.env).map (·.2):=by rfl):Gw X (e::es) (BA t u):=by
 intro pins s σ H vs us Q I r h;obtain⟨v,vr,e1,h⟩:=h;subst e1;cases r with
 | cons r rr=>
  rw[hs];refine assignInOrder_cons (cu (h1 pins s σ H _ _ _ I r h) fun _ s1 ⟨CL,H1,I1,q1⟩ => ?_)
  exact h2 pins s1 CL H1 _ _ Q I1 rr q1
noncomputable def yw(K:PySem.W.Frag)(n:Nat)(t:Bz):TG:=fun v σ H Q=>∃ a xs,v=.ref a/\f_ K H a xs/\xs.length=n/\t xs σ H Q
theorem CM{es:List Expr}{k:Nat}{t:Bz}{n:Nat}(hc:X.calm=true)(h:Gw X es t)
  (hn:(assignEach es X.env).length=n:=by rfl) (hst:(assignEach es X.env).findIdx? (·.1)=none:=by rfl):PG X (.Tuple es k pos) (yw X.K n t):=by
 intro pins s σ H v u Q I r hw;obtain⟨a,xs,e1,hq,hl,hw⟩:=hw;subst e1;cases r;obtain⟨its,rv,ht,hz⟩:=I.tuple hq;refine assign_Tuple_tuple (I.ok.hd hc) ht (by simp[hn,← hl,rv.length]) hst fun h' hx => ?_
 have I1:Inv X pins σ H { s with heap:=h' }:=I.kept (t':=s.toks) fun b o e=>hx b o (Nat.ne_of_lt (Heap.lt_size e)) e
 exact h pins _ σ H xs _ Q I1 (by simpa using rv) hw
noncomputable def CO(te:TE)(g:TG):TS:=fun D σ H=>te σ H fun x H1=>g x σ H1 D.nx
theorem CQ{tg e:Expr}{te:TE}{g:TG}(he:PE X e te)(hg:PG X tg g)(hs:swapsWithSole [tg] e pos.line X.env=pure false:=by rfl)(hw:swappedStores [tg] e X.env=pure none:=by rfl)
  (h1:(assignEach [tg] X.env).map (·.2)=[assign tg X.env]:=by rfl):PS X (.Assign [tg] e pos) (CO te g):=by
 intro pins s σ H D I h;refine wpAny_Assign_stores (cu (he pins s σ H _ I h) fun v s1 ⟨x,H1,I1,r1,q1⟩ => ?_) hs hw
 rw[h1];exact cu (hg pins s1 σ H1 x v _ I1 r1 q1) fun _ s2 q=>q
theorem CS{i:Nat}{x:Str}{e:Expr}{te:TE}{pos':Pos}(hN:X.N.Nodup)(hi:X.N[i]?=some x)(hx:Loc X.env.scope x)(he:PE X e te)(hs:swapsWith e (some (.Name x pos')) pos.line X.env=pure false:=by rfl)(hf:X.fn x=true\/X.env.scope.names.lookup x=some .local:=by first | exact .inl rfl | exact .inr rfl | assumption) :
  PS X (.Assign [.Name x pos'] e pos) (CO te (ia i)):=by
 intro pins s σ H D I h;refine wpAny_Assign_Name (cu (he pins s σ H _ I h) fun v s1 ⟨y,H1,I1,r1,q1⟩ => ?_) hs
 exact ot I1 hN hi hx r1 (fun s2 I2=>⟨_,H1,I2,q1⟩) hf
noncomputable def CT(c:TT)(tb:TS):TS:=fun D σ H=>∃ W:Nat->St->Hp->Prop,(∃ m,W m σ H)/\∀ m σ H,W m σ H ->
 c σ H fun b H1=>if b=true then ∃ N:St->Hp->Prop,(∀ σ' H',N σ' H'->∃ m',m' < m/\W m' σ' H')/\tb { D with nx:=N,ct:=N,bk:=D.nx } σ H1 else D.nx σ H1
theorem vo{c:Expr}{body:List Stmt}{tc:TT}{tb:TS}(hp:PassesOwn (model X.prog X.w) X.A X.env X.xe)(hc:PT X c tc)(hb:jt X body tb):PS X (.While c body [] pos) (CT tc tb):=by
 intro pins s σ H D I h;obtain⟨W,⟨m0,w0⟩,turn⟩:=h;refine wpAny_While (codeAny_whileLoop (fun n s'=>∃ σ' H',Inv X pins σ' H' s'/\W n σ' H') ?_ m0 ⟨σ,H,I,w0⟩)
 rintro n s1 ⟨CL,H1,I1,w1⟩;refine wpAny_passesOwn hp (cu (hc pins s1 CL H1 _ I1 (turn n CL H1 w1)) fun b s2 ⟨H2,I2,q2⟩ => ?_)
 cases b with
 | true=>
  obtain⟨N,hN,q2⟩:=q2;rw[if_pos rfl];refine wpAny_passesOwn hp (cu (hb pins s2 CL H2 _ I2 q2) fun f s3 q3 => ?_)
  cases f with
  | next=>
   obtain⟨vp,H3,I3,n3⟩:=q3;obtain⟨m',hm,w3⟩:=hN vp H3 n3;exact⟨m',hm,vp,H3,I3,w3⟩
  | cont=>
   obtain⟨vp,H3,I3,n3⟩:=q3;obtain⟨m',hm,w3⟩:=hN vp H3 n3;exact⟨m',hm,vp,H3,I3,w3⟩
  | brk=>exact q3
  | ret v=>exact q3
 | false=>
  rw[if_neg Bool.false_ne_true];exact wpAny_execs_nil ⟨CL,H2,I2,q2⟩
end
structure It where
 go:Nat->Hp->Prop
 LZ:Nat->Hp->V->Hp->Prop
 stop:Nat->Hp->Prop
def lH(X:Cx)(pins:List (Addr×Obj))(H:Hp)(b:Addr):Prop:=
 H b=none/\b≠X.env.locals/\b∉X.fs/\(b∈X.ex\/X.s₀.heap.objs.size<=b)/\(∀ x c,X.env.cells.lookup x=some c->c≠b)/\∀ p∈X.pn++pins,p.1≠b
theorem Inv.t8{X:Cx}{pins:List (Addr×Obj)}{σ:St}{H H':Hp}{s:Shared}{b:Addr}(I:Inv X pins σ H s)(hb:s.heap.objs.size<=b)(hn:H' b=none):lH X pins H' b:=by
 refine⟨hn,Nat.ne_of_gt (Nat.lt_of_lt_of_le I.lt hb),I.NQ hb,.inr (Nat.le_trans I.sz hb),fun x c e z => ?_,fun p hp z => ?_⟩
 ·obtain⟨v,q⟩:=I.cell x c e
  exact absurd (Nat.lt_of_lt_of_le q.lt (by rw[z];exact hb)) (Nat.lt_irrefl _)
 ·exact absurd (Nat.lt_of_lt_of_le (Heap.lt_size (I.pin p hp).1) (by rw[z];exact hb)) (Nat.lt_irrefl _)
structure Turn(P:Program)(w:World)(K:PySem.W.Frag)(tg:Expr)(J:It)(fp:List Addr)(it:Addr)(tn:Nat->Heap->Prop):Prop where
 mem:it∈fp
 obj:∀ i h,tn i h->∀ b∈fp,∃ o,h.get? b=some o/\∀ v,o.data≠.cell v
 keep:∀ i h h',tn i h->(∀ b∈fp,∀ o,h.get? b=some o->h'.get? b=some o)->tn i h'
 item:∀ (X:Cx),X.prog=P->X.w=w->X.K=K->X.calm=true->∀ (i:Nat) (pins:List (Addr×Obj)) (s:Shared) (σ:St) (H:Hp) (E:Value->Shared->Prop),Inv X pins σ H s->(∀ b∈fp,lH X pins H b)->tn i s.heap->J.go i H ->
  wpAny (model P w) X.A (pyNext (.ref it)) (fun r s1=>∃ u,r=some u /\
   wpAny (model P w) X.A (letOwnedTupleGo tg (.ref it) u) (fun _ s2=>∃ x H',Inv X pins σ H' s2/\RelV x u/\J.LZ i H x H'/\tn (i + 1) s2.heap/\∀ b∈fp,H' b=none) E s1) E s
 done:∀ (X:Cx),X.prog=P->X.w=w->X.K=K->X.calm=true->∀ (i:Nat) (pins:List (Addr×Obj)) (s:Shared) (σ:St) (H:Hp) (E:Value->Shared->Prop),Inv X pins σ H s->(∀ b∈fp,lH X pins H b)->tn i s.heap->J.stop i H ->
  wpAny (model P w) X.A (pyNext (.ref it)) (fun r s1=>r=none/\Inv X pins σ H s1) E s
 self:∀ (A:Around) (i:Nat) (s:Shared) (Q:Value->Shared->Prop) (E:Value->Shared->Prop),tn i s.heap->Q (.ref it) s->wpAny (model P w) A (pyIter (.ref it)) Q E s
abbrev TI:=St->Hp->(It->Hp->Prop)->Prop
def PIE(X:Cx)(pins:List (Addr×Obj))(σ:St)(tg:Expr)(R:It->Hp->Prop)(itv:Value)(s2:Shared):Prop:=
 ∃ (it:Addr) (fp:List Addr) (tn:Nat->Heap->Prop) (J:It) (H':Hp),itv=.ref it/\Inv X pins σ H' s2/\Turn X.prog X.w X.K tg J fp it tn/\tn 0 s2.heap/\(∀ b∈fp,lH X pins H' b)/\R J H'
def PI(X:Cx)(tg iter:Expr)(wi:TI):Prop:=
 ∀ (pins:List (Addr×Obj)) (s:Shared) (σ:St) (H:Hp) (R:It->Hp->Prop),Inv X pins σ H s->wi σ H R ->
  wpAny (model X.prog X.w) X.A (eval iter X.env) (fun v s1=>wpAny (model X.prog X.w) X.A (pyIter v) (PIE X pins σ tg R) X.xe s1) X.xe s
theorem ow{M:Model}{A:Around}{E:Value->Shared->Prop}{s:Shared}{tg:Expr}{it:Addr}{u:Value}{o:Obj}{n:String}{vs:Array Value}{Q:Unit->Shared->Prop}(ho:s.heap.get? it=some o)(hc:o.cls=.type n)(hd:o.data=.fields vs)
    (hn:["enumerate","zip","dict_itemiterator","dict_reverseitemiterator","odict_iterator","itertools.zip_longest","itertools.pairwise"].contains n=false) (hQ:Q () s):wpAny M A (letOwnedTupleGo tg (.ref it) u) Q E s:=by
  unfold letOwnedTupleGo
  cases tg<;>first
    | exact wpAny_pure hQ
    | (cases u<;>first
        | exact wpAny_pure hQ
        | (refine wpAny_bind (wpAny_load ho ?_)
           rw[hc,hd]
           show wpAny M A (if (["enumerate","zip","dict_itemiterator","dict_reverseitemiterator","odict_iterator","itertools.zip_longest","itertools.pairwise"].contains n && vs[0]? == some (rawInt _))=true then _ else _) Q E s
           rw[if_neg (by intro h;rw[hn,Bool.false_and]at h;cases h)]
           exact wpAny_pure hQ))
noncomputable def N1(K:PySem.W.Frag)(a:Addr):It:=
 ⟨fun i H=>∃ xs x,jO K H a xs/\xs[i]?=some x,fun i H x H'=>H'=H/\∀ xs,jO K H a xs->xs[i]?=some x,fun i H=>∃ xs,jO K H a xs/\xs.length<=i⟩
noncomputable def N2(K:PySem.W.Frag)(a:Addr):It:=
 ⟨fun i H=>∃ xs x,f_ K H a xs/\xs[i]?=some x,fun i H x H'=>H'=H/\∀ xs,f_ K H a xs->xs[i]?=some x,fun i H=>∃ xs,f_ K H a xs/\xs.length<=i⟩
noncomputable def Gy(lo:Int)(n:Nat):It:=⟨fun i _=>i < n,fun i H x H'=>H'=H/\x=.int (lo + i),fun i _=>n<=i⟩
theorem t9{P:Program}{w:World}{K:PySem.W.Frag}{tg:Expr}(a it:Addr):Turn P w K tg (N1 K a) [it] it (fun i h=>h.IsListIter it a i) where
 mem:=by simp
 obj:=fun i h st b hb=>by
  have e:b=it:=by simpa using hb
  subst e;obtain⟨o,e,c,d⟩:=st;exact⟨o,e,fun v z=>by rw[d]at z;cases z⟩
 keep:=fun i h h' st k=>st.at fun o e=>k it (by simp) o e
 item:=by
  intro X hP hw hK hc i pins s σ H E I hf st hg;subst hP hw hK;obtain⟨xs,x,hq,hx⟩:=hg;obtain⟨its,rv,p,hz⟩:=I.list hq;obtain⟨u,hu,ru⟩:=rv.get hx;obtain⟨f0,f1,f2,f3,f4,f5⟩:=hf it (by simp)
  refine wpAny_pyNext_list_item st p.isList (x:=u) (by simpa using hu) fun h' st' sb => ?_
  have I1:Inv X pins σ H { s with heap:=h' }:=I.turned (t':=s.toks) (fun b o hb e=>(sb.2 b hb).trans e) f0 f1 f3 f4 f5
  obtain⟨o,e,c,d⟩:=id st';exact⟨u,rfl,ow (s:={ s with heap:=h' }) e c d (by decide) ⟨x,H,I1,ru,⟨rfl,fun ys hy=>by rw[I.ou hy hq];exact hx⟩,st',fun b hb=>(hf b hb).1⟩⟩
 done:=by
  intro X hP hw hK hc i pins s σ H E I hf st hg;subst hP hw hK;obtain⟨xs,hq,hx⟩:=hg;obtain⟨its,rv,p,hz⟩:=I.list hq;obtain⟨f0,f1,f2,f3,f4,f5⟩:=hf it (by simp)
  have hl:=rv.length;exact wpAny_pyNext_list_end (I.ok.hd hc) st p.isList (by simp;omega) fun h' eb=>⟨rfl,I.turned (t':=s.toks) (fun b o hb e=>eb b o hb e) f0 f1 f3 f4 f5⟩
 self:=fun _ _ _ _ _ st h=>wpAny_pyIter_listiter st h
theorem qk{P:Program}{w:World}{K:PySem.W.Frag}{tg:Expr}(a it:Addr):Turn P w K tg (N2 K a) [it] it (fun i h=>h.IsTupleIter it a i) where
 mem:=by simp
 obj:=fun i h st b hb=>by
  have e:b=it:=by simpa using hb
  subst e;obtain⟨o,e,c,d⟩:=st;exact⟨o,e,fun v z=>by rw[d]at z;cases z⟩
 keep:=fun i h h' st k=>st.at fun o e=>k it (by simp) o e
 item:=by
  intro X hP hw hK hc i pins s σ H E I hf st hg;subst hP hw hK;obtain⟨xs,x,hq,hx⟩:=hg;obtain⟨its,rv,p,hz⟩:=I.tuple hq;obtain⟨u,hu,ru⟩:=rv.get hx;obtain⟨f0,f1,f2,f3,f4,f5⟩:=hf it (by simp)
  refine wpAny_pyNext_tuple_item st (show s.heap.IsTuple a its.toArray from p) (x:=u) (by simpa using hu) fun h' st' sb => ?_
  have I1:Inv X pins σ H { s with heap:=h' }:=I.turned (t':=s.toks) (fun b o hb e=>(sb.2 b hb).trans e) f0 f1 f3 f4 f5
  obtain⟨o,e,c,d⟩:=id st';exact⟨u,rfl,ow (s:={ s with heap:=h' }) e c d (by decide) ⟨x,H,I1,ru,⟨rfl,fun ys hy=>by rw[I.lT hy hq];exact hx⟩,st',fun b hb=>(hf b hb).1⟩⟩
 done:=by
  intro X hP hw hK hc i pins s σ H E I hf st hg;subst hP hw hK;obtain⟨xs,hq,hx⟩:=hg;obtain⟨its,rv,p,hz⟩:=I.tuple hq;obtain⟨f0,f1,f2,f3,f4,f5⟩:=hf it (by simp)
  have hl:=rv.length;exact wpAny_pyNext_tuple_end (I.ok.hd hc) st (show s.heap.IsTuple a its.toArray from p) (by simp;omega) fun h' eb=>⟨rfl,I.turned (t':=s.toks) (fun b o hb e=>eb b o hb e) f0 f1 f3 f4 f5⟩
 self:=fun _ _ _ _ _ st h=>wpAny_pyIter_tupleiter st h
theorem qm{P:Program}{w:World}{K:PySem.W.Frag}{tg:Expr}(it:Addr)(lo:Int)(n:Nat):Turn P w K tg (Gy lo n) [it] it (fun i h=>IsRangeIter h it (lo + (i:Nat) * 1) ((n:Int) - (i:Nat)) 1) where
 mem:=by simp
 obj:=fun i h st b hb=>by
  have e:b=it:=by simpa using hb
  subst e
  exact⟨_,st,fun v z=>by
   have z':Data.fields _=Data.cell v:=z;cases z'⟩
 keep:=fun i h h' st k=>k it (by simp) _ st
 item:=by
  intro X hP hw hK hc i pins s σ H E I hf st hg;subst hP hw hK;obtain⟨f0,f1,f2,f3,f4,f5⟩:=hf it (by simp)
  have W:=Walks.range (prog:=X.prog) (w:=X.w) (I.ok.hd hc) it lo 1 n;refine W.item i s _ _ hg st fun v h' tk hv st' kk => ?_
  obtain⟨t,rfl⟩:=hv;have I1:Inv X pins σ H { s with heap:=h',toks:=tk }:=I.turned (fun b o hb e=>kk b o (by simpa using hb) e) f0 f1 f3 f4 f5
  refine⟨_,rfl,ow (s:={ s with heap:=h',toks:=tk }) (n:="range_iterator") st' rfl rfl (by decide) ⟨.int (lo + i),H,I1,⟨t,?_⟩,⟨rfl,rfl⟩,st',fun b hb=>(hf b hb).1⟩⟩
  rw[Int.mul_one]
 done:=by
  intro X hP hw hK hc i pins s σ H E I hf st hg;subst hP hw hK;obtain⟨f0,f1,f2,f3,f4,f5⟩:=hf it (by simp)
  exact wpAny_pyNext_range_end (I.ok.hd hc) st (by have:n<=i:=hg;omega) fun h' eb=>⟨rfl,I.turned (t':=s.toks) (fun b o hb e=>eb b o hb e) f0 f1 f3 f4 f5⟩
 self:=fun _ _ _ _ _ st h=>wpAny_pyIter_rangeiter st h
section
variable{X:Cx}{tg:Expr}
theorem vq{pins:List (Addr×Obj)}{σ:St}{H:Hp}{s:Shared}{R:It->Hp->Prop}{E:Value->Shared->Prop}{lo hi:Int}{t u v:Tok}{tk:Nat}(I:Inv X pins σ H s)(h1 : -(2 ^ 62)<=lo)(h2:lo < 2 ^ 62)(h3 : -(2 ^ 62)<=hi)(h4:hi < 2 ^ 62)
  (q:R (Gy lo (hi - lo).toNat) H):wpAny (model X.prog X.w) X.A (pyIter (.ref s.heap.objs.size)) (PIE X pins σ tg R) E { s with heap:=s.heap.push { cls:=.type "range",data:=.fields #[.int lo t,.int hi u,.int 1 v] },toks:=tk }:=by
 refine wpAny_pyIter_range (IsRange.new ..) (small_one h1 h2 h3 h4) ?_;have I1:Inv X pins σ H { s with heap:=s.heap.push { cls:=.type "range",data:=.fields #[.int lo t,.int hi u,.int 1 v] },toks:=tk }:=I.kept fun b o e=>Heap.get?_push_of_some _ e
 refine⟨(s.heap.push { cls:=.type "range",data:=.fields #[.int lo t,.int hi u,.int 1 v] }).objs.size,[(s.heap.push { cls:=.type "range",data:=.fields #[.int lo t,.int hi u,.int 1 v] }).objs.size],_,_,H,rfl,
  I1.kept (t':=tk) fun b o e=>Heap.get?_push_of_some _ e,qm _ lo (hi - lo).toNat,?_,fun b hb => ?_,q⟩
 ·have e1:lo + ((0:Nat):Int) * 1=lo:=by simp
  have e2:(((hi - lo).toNat:Nat):Int) - ((0:Nat):Int)=Builtin.Range.rangeSize lo hi 1:=by rw[rangeSize_one];split<;>omega
  show IsRangeIter _ _ (lo + ((0:Nat):Int) * 1) ((((hi - lo).toNat:Nat):Int) - ((0:Nat):Int)) 1
  rw[e1,e2];exact Heap.get?_push_size _ rfl
 ·have e:b=(s.heap.push { cls:=.type "range",data:=.fields #[.int lo t,.int hi u,.int 1 v] }).objs.size:=by simpa using hb
  subst e;exact I1.t8 (Nat.le_refl _) (I1.hok.fresh (Nat.le_refl _))
def Gz(ta:TA):TI:=fun σ H R=>ta σ H fun vs H1=>∃ j:Int,vs=[.int j] /\ -(2 ^ 62)<=j/\j < 2 ^ 62/\R (Gy 0 j.toNat) H1
theorem t_{a:Expr}{ta:TA}{p pos:Pos}(hg:Gl X "range")(hm:X.mg "range"=none)(ha:PA X [a] ta)(hs:starEach [a] X.env=[(false,eval a X.env)]:=by rfl):PI X tg (.Call (.Name "range" p) [a] [] pos) (Gz ta):=by
 intro pins s σ H R I h;refine Call_ (ke I hg hm boot_range (PyProof.Rows.callWith_type1 (cu (ha pos pins s σ H _ I h) fun us s1 ⟨vs,H1,I1,r1,q1⟩ => ?_) hs rfl))
 obtain⟨j,e,q1,q2,q⟩:=q1;subst e;cases r1 with
 | cons r rr=>
  cases rr;obtain⟨t,rfl⟩:=r;exact call_range_1 (vq I1 (by omega) (by omega) q1 q2 (by simpa using q))
noncomputable def N3(wi:TI)(g:TG)(tb:TS):TS:=fun D σ H=>wi σ H fun J H1=>∃ W:Nat->Nat->St->Hp->Prop,(∃ m,W 0 m σ H1)/\∀ i m σ H,W i m σ H ->
 (J.stop i H/\D.nx σ H)\/(J.go i H/\∃ N:St->Hp->Prop,(∀ σ' H',N σ' H'->∃ m',m' < m/\W (i + 1) m' σ' H')/\∀ x H',J.LZ i H x H'->g x σ H' fun L0 H2=>tb { D with nx:=N,ct:=N,bk:=D.nx } L0 H2)
noncomputable def kf(fp:List Addr)(h:Heap):List (Addr×Obj):=fp.filterMap fun b=>(h.get? b).map fun o=>(b,o)
theorem fL{fp:List Addr}{h:Heap}{b:Addr}{o:Obj}(hb:b∈fp)(e:h.get? b=some o):(b,o)∈kf fp h:=List.mem_filterMap.mpr ⟨b,hb,by rw[e];rfl⟩
theorem ua{fp:List Addr}{h:Heap}{p:Addr×Obj}(hp:p∈kf fp h):p.1∈fp/\h.get? p.1=some p.2:=by
 obtain⟨b,hb,e⟩:=List.mem_filterMap.mp hp;cases q:h.get? b with
 | none=>rw[q]at e;cases e
 | some o=>
  rw[q]at e;have e':(b,o)=p:=Option.some.inj e;subst e';exact⟨hb,q⟩
theorem Inv.pinned{pins:List (Addr×Obj)}{σ:St}{H:Hp}{s:Shared}{fp:List Addr}(I:Inv X pins σ H s)(hf:∀ b∈fp,lH X pins H b)(ho:∀ b∈fp,∃ o,s.heap.get? b=some o/\∀ v,o.data≠.cell v):Inv X (pins++kf fp s.heap) σ H s:=
 I.rW fun p hp=>(List.mem_append.mp hp).elim (fun z=>I.pin p (List.mem_append_right _ z)) fun z=>by
  obtain⟨hb,e⟩:=ua z;obtain⟨f0,f1,f2,_⟩:=hf p.1 hb;obtain⟨o,e',d⟩:=ho p.1 hb;rw[e]at e';cases e'
  exact⟨e,f0,f1,f2,d⟩
theorem Inv.iA{pins pl:List (Addr×Obj)}{σ:St}{H:Hp}{s:Shared}(I:Inv X (pins++pl) σ H s):Inv X pins σ H s:=I.rW fun p hp=>I.pin p (List.mem_append_right _ (List.mem_append_left _ hp))
theorem CU{iter:Expr}{body:List Stmt}{wi:TI}{g:TG}{tb:TS}{pos:Pos}(hp:PassesOwn (model X.prog X.w) X.A X.env X.xe)(hc:X.calm=true)(hi:PI X tg iter wi)(hg:PG X tg g)(hb:jt X body tb)
  (hs:∀ x,foldedSetIterable iter X.env x=pure x:=by intro _;rfl):PS X (.For tg iter body [] pos) (N3 wi g tb):=by
 intro pins s σ H D I h;refine wpAny_For (cu (hi pins s σ H _ I h) fun v s1 h1=>cu h1 fun itv s2 h2 => ?_) hs
 obtain⟨it,fp,tn,J,H2,e,I2,T,st2,f2,W,⟨m0,w0⟩,turn⟩:=h2;subst e;have stat:∀ {H':Hp},(∀ b∈fp,H' b=none)->∀ b∈fp,lH X pins H' b:=fun hn b hb=>⟨hn b hb,(f2 b hb).2⟩
 refine codeAny_forLoop_any (fun n s'=>∃ i σ' H',Inv X pins σ' H' s'/\tn i s'.heap/\(∀ b∈fp,H' b=none)/\W i n σ' H') ?_ m0 ⟨0,σ,H2,I2,st2,fun b hb=>(f2 b hb).1,w0⟩
 rintro n s3 ⟨i,vp,H3,I3,st3,S8,w3⟩;rcases turn i n vp H3 w3 with ⟨stop,qn⟩ | ⟨go,N,hN,step⟩
 ·refine wpAny_passesOwn hp (cu (T.done X rfl rfl rfl hc i pins s3 vp H3 X.xe I3 (stat S8) st3 stop) fun r s4 ⟨hr,I4⟩ => ?_)
  subst hr;exact wpAny_execs_nil ⟨vp,H3,I4,qn⟩
 ·refine wpAny_passesOwn hp (cu (T.item X rfl rfl rfl hc i pins s3 vp H3 X.xe I3 (stat S8) st3 go) fun r s4 ⟨u,hr,h4⟩ => ?_)
  subst hr;refine wpAny_passesOwn hp (cu h4 fun _ s5 ⟨x,H5,I5,r5,y5,FV,VT⟩ => ?_)
  have VU:=I5.pinned (stat VT) (T.obj _ _ FV);refine wpAny_passesOwn hp (cu (hg _ s5 vp H5 x u _ VU r5 (step x H5 y5)) fun _ s6 ⟨VV,H6,I6,q6⟩ => ?_)
  refine wpAny_passesOwn hp (cu (hb _ s6 VV H6 _ I6 q6) fun f s7 q7 => ?_)
  have again:∀ {vt:St} {H7:Hp},Inv X (pins++kf fp s5.heap) vt H7 s7->N vt H7->∃ m,m < n/\∃ i σ' H',Inv X pins σ' H' s7/\tn i s7.heap/\(∀ b∈fp,H' b=none)/\W i m σ' H':=fun {vt H7} I7 n7=>by
   obtain⟨m',hm,w7⟩:=hN vt H7 n7;refine⟨m',hm,i + 1,vt,H7,I7.iA,T.keep _ _ _ FV fun b hb o e=>(I7.pin (b,o) (List.mem_append_right _ (List.mem_append_right _ (fL hb e)))).1,fun b hb => ?_,w7⟩
   obtain⟨o,e,d⟩:=T.obj _ _ FV b hb;exact(I7.pin (b,o) (List.mem_append_right _ (List.mem_append_right _ (fL hb e)))).2.1
  cases f with
  | next=>obtain⟨vt,H7,I7,n7⟩:=q7;exact again I7 n7
  | cont=>obtain⟨vt,H7,I7,n7⟩:=q7;exact again I7 n7
  | brk=>obtain⟨vt,H7,I7,q7⟩:=q7;exact⟨vt,H7,I7.iA,q7⟩
  | ret v=>obtain⟨x7,vt,H7,I7,r7,q7⟩:=q7;exact⟨x7,vt,H7,I7.iA,r7,q7⟩
end
abbrev R2:=V->V->Hp->VK->Prop
def gf(X:Cx)(f:Value->Value->Sem Value)(r:R2):Prop:=
 ∀ (pins:List (Addr×Obj)) (s:Shared) (σ:St) (H:Hp) (x y:V) (v u:Value) (Q:VK),Inv X pins σ H s->RelV x v->RelV y u->r x y H Q ->
  wpAny (model X.prog X.w) X.A (f v u) (EP X pins σ Q) X.xe s
def N4(X:Cx)(f:Value->Sem Value)(r:V->Hp->VK->Prop):Prop:=
 ∀ (pins:List (Addr×Obj)) (s:Shared) (σ:St) (H:Hp) (x:V) (v:Value) (Q:VK),Inv X pins σ H s->RelV x v->r x H Q ->
  wpAny (model X.prog X.w) X.A (f v) (EP X pins σ Q) X.xe s
def di(X:Cx)(f:Value)(r:List V->Hp->VK->Prop):Prop:=
 ∀ (pins:List (Addr×Obj)) (s:Shared) (σ:St) (H:Hp) (xs:List V) (us:List Value) (Q:VK),Inv X pins σ H s->Vals xs us->r xs H Q ->
  wpAny (model X.prog X.w) X.A (call f us) (EP X pins σ Q) X.xe s
def N5(X:Cx)(r:V->Hp->(Bool->Hp->Prop)->Prop):Prop:=
 ∀ (pins:List (Addr×Obj)) (s:Shared) (σ:St) (H:Hp) (x:V) (v:Value) (Q:Bool->Hp->Prop),Inv X pins σ H s->RelV x v->r x H Q ->
  wpAny (model X.prog X.w) X.A (truthy v) (TP X pins σ Q) X.xe s
noncomputable def FW(r:R2)(ta tb:TE):TE:=fun σ H Q=>ta σ H fun x H1=>tb σ H1 fun y H2=>r x y H2 Q
noncomputable def VW(r:V->Hp->VK->Prop)(ta:TE):TE:=fun σ H Q=>ta σ H fun x H1=>r x H1 Q
noncomputable def rI(C:Int->Int->Prop)(g:Int->Int->V):R2:=fun x y H Q=>∃ i j,x=.int i/\y=.int j/\C i j/\Q (g i j) H
noncomputable def yx(g:Int->Int->V):R2:=fun x y H Q=>∃ i j,x=.int i/\y=.int j/\Q (g i j) H
def rU(g:Int->V):V->Hp->VK->Prop:=fun x H Q=>∃ i,x=.int i/\Q (g i) H
section
variable{X:Cx}{a b c:Expr}{ta tb tc:TE}{pos:Pos}
theorem CV(ha:PE X a ta)(hb:PE X b tb){pins:List (Addr×Obj)}{s:Shared}{σ:St}{H:Hp}{R:V->V->Hp->Prop}(I:Inv X pins σ H s)
  (h:ta σ H fun x H1=>tb σ H1 fun y H2=>R x y H2) {Q:Value->Shared->Prop} {f:Value->Value->Sem Value}
  (hf:∀ v u s2 x y H2,Inv X pins σ H2 s2->RelV x v->RelV y u->R x y H2->wpAny (model X.prog X.w) X.A (f v u) Q X.xe s2) :
  wpAny (model X.prog X.w) X.A (eval a X.env) (fun v s₁=>wpAny (model X.prog X.w) X.A (eval b X.env) (fun u s₂=>wpAny (model X.prog X.w) X.A (f v u) Q X.xe s₂) X.xe s₁) X.xe s:=by
 refine cu (ha pins s σ H _ I h) fun v s1 ⟨x,H1,I1,r1,q1⟩ => ?_
 refine cu (hb pins s1 σ H1 _ I1 q1) fun u s2 ⟨y,H2,I2,r2,q2⟩ => ?_
 exact hf v u s2 x y H2 I2 r1 r2 q2
theorem vv{op:Operator}{r:R2}(ho:gf X (binaryOp op) r)(ha:PE X a ta)(hb:PE X b tb):PE X (.BinOp a op b pos) (FW r ta tb):=by
 intro pins s σ H Q I h;exact wpAny_BinOp (CV ha hb I h fun v u s2 x y H2 I2 rx ry q=>ho pins s2 σ H2 x y v u Q I2 rx ry q)
theorem GA{op:UnaryOp}{r:V->Hp->VK->Prop}(ho:N4 X (unaryOp op) r)(ha:PE X a ta):PE X (.UnaryOp op a pos) (VW r ta):=by
 intro pins s σ H Q I h;exact UnaryOp_ (cu (ha pins s σ H _ I h) fun v s1 ⟨x,H1,I1,r1,q1⟩=>ho pins s1 σ H1 x v Q I1 r1 q1)
theorem L3{f:Value->Value->Sem Value}{C:Int->Int->Prop}{g:Int->Int->Int}
  (rule:∀ (i j:Int) (t u:Tok) (s:Shared) (Q:Value->Shared->Prop) (E:Value->Shared->Prop),C i j->Q (.int (g i j) s.toks) { s with toks:=s.toks + 1 }->wpAny (model X.prog X.w) X.A (f (.int i t) (.int j u)) Q E s) :
  gf X f (rI C fun i j=>.int (g i j)):=by
 intro pins s σ H x y v u Q I rx ry h;obtain⟨i,j,rfl,rfl,hc,q⟩:=h;obtain⟨t,rfl⟩:=rx;obtain⟨t',rfl⟩:=ry;exact rule i j t t' s _ _ hc ⟨.int (g i j),H,I.tok _,⟨_,rfl⟩,q⟩
theorem GB{f:Value->Value->Sem Value}{g:Int->Int->Int}
  (rule:∀ (i j:Int) (t u:Tok) (s:Shared) (Q:Value->Shared->Prop) (E:Value->Shared->Prop),Q (.int (g i j) s.toks) { s with toks:=s.toks + 1 }->wpAny (model X.prog X.w) X.A (f (.int i t) (.int j u)) Q E s) :
  gf X f (yx fun i j=>.int (g i j)):=by
 intro pins s σ H x y v u Q I rx ry h;obtain⟨i,j,rfl,rfl,q⟩:=h;obtain⟨t,rfl⟩:=rx;obtain⟨t',rfl⟩:=ry;exact rule i j t t' s _ _ ⟨.int (g i j),H,I.tok _,⟨_,rfl⟩,q⟩
theorem yy{f:Value->Value->Sem Value}{g:Int->Int->Bool}
  (rule:∀ (i j:Int) (t u:Tok) (s:Shared) (Q:Value->Shared->Prop) (E:Value->Shared->Prop),Q (.bool (g i j)) s->wpAny (model X.prog X.w) X.A (f (.int i t) (.int j u)) Q E s) :
  gf X f (yx fun i j=>.bl (g i j)):=by
 intro pins s σ H x y v u Q I rx ry h;obtain⟨i,j,rfl,rfl,q⟩:=h;obtain⟨t,rfl⟩:=rx;obtain⟨t',rfl⟩:=ry;exact rule i j t t' s _ _ ⟨.bl (g i j),H,I,rfl,q⟩
def GC(i j:Int):Prop:=0 < j/\j < 1073741824
def GD(i j:Int):Prop:=0<=j/\j<=1000000/\i.natAbs < 2 ^ 64
def yz(i j:Int):Prop:=(-(2 ^ 64) < i/\i < 2 ^ 64)\/(-(2 ^ 64) < j/\j < 2 ^ 64)
theorem yz.ok{i j:Int}(h:yz i j):IntMulOk i j:=by
 rcases h with ⟨h1,h2⟩ | ⟨h1,h2⟩
 ·exact .of_left (intBits_le_64 h1 h2)
 ·exact .of_right (intBits_le_64 h1 h2)
theorem CW:gf X (binaryOp .Add) (yx fun i j=>.int (i + j)):=GB fun _ _ _ _ _ _ _ q=>add_int q
theorem CY:gf X (binaryOp .Sub) (yx fun i j=>.int (i - j)):=GB fun _ _ _ _ _ _ _ q=>sub_int q
theorem CZ:gf X (binaryOp .Mult) (rI yz fun i j=>.int (i * j)):=L3 fun _ _ _ _ _ _ _ hc q=>mul_int q hc.ok
theorem yA:gf X (binaryOp .FloorDiv) (rI GC fun i j=>.int (i / j)):=L3 fun i j _ _ _ _ _ hc q=>by
 have h1:(0:Int) < j:=hc.1;have h2:j < 1073741824:=hc.2;exact floordiv_int (by omega) (by rw[Int.fdiv_eq_ediv_of_nonneg i (by omega)];exact q) (.inl (PyProof.noPylong_small (by omega)))
theorem C1:gf X (binaryOp .Mod) (rI (fun _ j=>0 < j) fun i j=>.int (i % j)):=L3 fun i j _ _ _ _ _ hc q=>by
 have h1:(0:Int) < j:=hc;exact mod_int' (by omega) (by rw[Int.fmod_eq_emod_of_nonneg i (by omega)];exact q)
theorem C3:gf X (binaryOp .Pow) (rI GD fun i j=>.int (i ^ j.toNat)):=L3 fun _ _ _ _ _ _ _ hc q=>pow_int_small hc.1 hc.2.1 hc.2.2 q
theorem VX{f:Value->Sem Value}{g:Int->Int}
  (rule:∀ (i:Int) (t:Tok) (s:Shared) (Q:Value->Shared->Prop) (E:Value->Shared->Prop),Q (.int (g i) s.toks) { s with toks:=s.toks + 1 }->wpAny (model X.prog X.w) X.A (f (.int i t)) Q E s) :
  N4 X f (rU fun i=>.int (g i)):=by
 intro pins s σ H x v Q I rx h;obtain⟨i,rfl,q⟩:=h;obtain⟨t,rfl⟩:=rx;exact rule i t s _ _ ⟨.int (g i),H,I.tok _,⟨_,rfl⟩,q⟩
theorem C4:N4 X (unaryOp .USub) (rU fun i=>.int (-i)):=VX fun _ _ _ _ _ q=>neg_int q
theorem mV{pins:List (Addr×Obj)}{σ:St}{H:Hp}{s:Shared}{Q:VK}{k k':Bool}(I:Inv X pins σ H s)(q:Q (.bl k) H)(e:k=k'):EP X pins σ Q (.bool k') s:=by
 subst e;exact⟨.bl k,H,I,rfl,q⟩
theorem GF:gf X (compareOp .Lt) (yx fun i j=>.bl (decide (i < j))):=yy fun _ _ _ _ _ _ _ q=>lt_int q
theorem GG:gf X (compareOp .LtE) (yx fun i j=>.bl (decide (i<=j))):=yy fun _ _ _ _ _ _ _ q=>le_int q
theorem GH:gf X (compareOp .Gt) (yx fun i j=>.bl (decide (j < i))):=yy fun _ _ _ _ _ _ _ q=>gt_int q
theorem GI:gf X (compareOp .GtE) (yx fun i j=>.bl (decide (j<=i))):=yy fun _ _ _ _ _ _ _ q=>ge_int q
theorem ub:gf X (compareOp .In) (fun x y H Q=>∃ i j,x=.str i/\y=.str j/\Q (.bl (!(Builtin.Str.occurrences j i 0 j.length 1).isEmpty)) H):=by
 intro pins s σ H x y v u Q I rx ry h;obtain⟨i,j,rfl,rfl,q⟩:=h;obtain⟨t,rfl⟩:=rx;obtain⟨t',rfl⟩:=ry;exact in_str (mV I q rfl)
theorem vx:gf X (compareOp .Is) (fun x y H Q=>y=.non/\Q (.bl (decide (x=.non))) H):=by
 intro pins s σ H x y v u Q I rx ry h;obtain⟨rfl,q⟩:=h;cases ry;refine is_none_gen (mV I q ?_)
 cases x<;>first
  | (cases rx;rfl)
  | (obtain⟨t,rfl⟩:=rx;rfl)
theorem rX:gf X (compareOp .IsNot) (fun x y H Q=>y=.non/\Q (.bl (!decide (x=.non))) H):=by
 intro pins s σ H x y v u Q I rx ry h;obtain⟨rfl,q⟩:=h;cases ry;refine isnot_none_gen (mV I q ?_)
 cases x<;>first
  | (cases rx;rfl)
  | (obtain⟨t,rfl⟩:=rx;rfl)
theorem mW:gf X (compareOp .NotIn) (fun x y H Q=>∃ i j,x=.str i/\y=.str j/\Q (.bl (!(!(Builtin.Str.occurrences j i 0 j.length 1).isEmpty))) H):=by
 intro pins s σ H x y v u Q I rx ry h;obtain⟨i,j,rfl,rfl,q⟩:=h;obtain⟨t,rfl⟩:=rx;obtain⟨t',rfl⟩:=ry;exact notIn_str (mV I q rfl)
theorem gf.or{f:Value->Value->Sem Value}{r r':R2}(h:gf X f r)(h':gf X f r'):gf X f (fun x y H Q=>r x y H Q\/r' x y H Q):=by
 intro pins s σ H x y v u Q I rx ry q;rcases q with q | q
 ·exact h pins s σ H x y v u Q I rx ry q
 ·exact h' pins s σ H x y v u Q I rx ry q
theorem iB{op:CmpOp}{r:R2}(ho:gf X (compareOp op) r)(ha:PE X a ta)(hb:PE X b tb)(hm:behindInMarks op b=false):PE X (.Compare a [op] [b] pos) (FW r ta tb):=by
 intro pins s σ H Q I h;exact wpAny_Compare1 (CV ha hb I h fun v u s2 x y H2 I2 rx ry q=>ho pins s2 σ H2 x y v u Q I2 rx ry q) hm
noncomputable def vy(t:TE):TT:=fun σ H Q=>t σ H fun x H'=>∃ k,x=.bl k/\Q k H'
theorem iC{op:CmpOp}{r:R2}(ho:gf X (compareOp op) r)(ha:PE X a ta)(hb:PE X b tb)(hm:behindInMarks op b=false):PT X (.Compare a [op] [b] pos) (vy (FW r ta tb)):=by
 intro pins s σ H Q I h
 refine wpAny_isTrue_Compare1 (cu (ha pins s σ H _ I h) fun v s1 ⟨x,H1,I1,r1,q1⟩=>cu (hb pins s1 σ H1 _ I1 q1) fun u s2 ⟨y,H2,I2,r2,q2⟩=>
  cu (ho pins s2 σ H2 x y v u _ I2 r1 r2 q2) fun c s3 ⟨z,H3,I3,r3,k,e,q3⟩ => ?_) hm
 subst e;cases r3;exact wpAny_truthy_bool ⟨H3,I3,q3⟩
noncomputable def qo(r r':R2)(ta tb tc:TE):TE:=fun σ H Q=>ta σ H fun x H1=>tb σ H1 fun y H2=>r x y H2 fun z H3=>∃ k,z=.bl k /\
 (if k=true then tc σ H3 fun w' H4=>r' y w' H4 Q else Q (.bl false) H3)
theorem vz{op op':CmpOp}{r r':R2}(ho:gf X (compareOp op) r)(ho':gf X (compareOp op') r')(ha:PE X a ta)(hb:PE X b tb)(hc:PE X c tc)
  (hm:lastMarks [op,op'] [b,c]=false:=by with_unfolding_all rfl):PE X (.Compare a [op,op'] [b,c] pos) (qo r r' ta tb tc):=by
 intro pins s σ H Q I h
 refine Compare_chain (cu (ha pins s σ H _ I h) fun v s1 ⟨x,H1,I1,r1,q1⟩=>chain_link (cu (hb pins s1 σ H1 _ I1 q1) fun u s2 ⟨y,H2,I2,r2,q2⟩=>
  cu (ho pins s2 σ H2 x y v u _ I2 r1 r2 q2) fun d s3 ⟨z,H3,I3,r3,k,e,q3⟩ => ?_)) hm
 subst e;cases r3;refine wpAny_truthy_bool ?_;cases k with
 | false=>exact ite_ff ⟨.bl false,H3,I3,rfl,q3⟩
 | true=>exact ite_tt (chain_last (cu (hc pins s3 σ H3 _ I3 q3) fun w' s4 ⟨z',H4,I4,r4,q4⟩=>ho' pins s4 σ H4 y z' u w' Q I4 r2 r4 q4))
theorem vA{op op':CmpOp}{r r':R2}(ho:gf X (compareOp op) r)(ho':gf X (compareOp op') r')(ha:PE X a ta)(hb:PE X b tb)(hc:PE X c tc)
  (hm:lastMarks [op,op'] [b,c]=false:=by with_unfolding_all rfl):PT X (.Compare a [op,op'] [b,c] pos) (vy (qo r r' ta tb tc)):=by
 intro pins s σ H Q I h
 refine isTrue_chain (cu (ha pins s σ H _ I h) fun v s1 ⟨x,H1,I1,r1,q1⟩=>test_link (cu (hb pins s1 σ H1 _ I1 q1) fun u s2 ⟨y,H2,I2,r2,q2⟩=>
  cu (ho pins s2 σ H2 x y v u _ I2 r1 r2 q2) fun d s3 ⟨z,H3,I3,r3,k,e,q3⟩ => ?_)) hm
 subst e;cases r3;refine wpAny_truthy_bool ?_;cases k with
 | false=>
  obtain⟨k',e',q'⟩:=q3;cases e';exact ite_ff ⟨H3,I3,q'⟩
 | true=>
  refine ite_tt (test_last (cu (hc pins s3 σ H3 _ I3 q3) fun w' s4 ⟨z',H4,I4,r4,q4⟩=>cu (ho' pins s4 σ H4 y z' u w' _ I4 r2 r4 q4) fun d' s5 ⟨z2,H5,I5,r5,k2,e2,q5⟩ => ?_))
  subst e2;cases r5;exact wpAny_truthy_bool ⟨H5,I5,q5⟩
def oA(K:PySem.W.Frag)(x:V)(H:Hp)(k:Bool):Prop:=
 match x with
 | .non=>k=false
 | .bl b=>k=b
 | .int i=>k=(i != 0)
 | .str y=>y.length<=sizeLine/\k=((y.length:Int) != 0)
 | .FR y=>y.size<=sizeLine/\k=((y.size:Int) != 0)
 | .ref p=>(∃ xs,jO K H p xs/\k = !xs.isEmpty)\/(∃ xs,f_ K H p xs/\k = !xs.isEmpty)\/∃ kvs,H p=some (.dK kvs)/\k = !kvs.isEmpty
 | _=>False
theorem qq{κ:Type}{kvs:List (κ×V)}{vs:List (κ×Value)}(r:KV kvs vs):(!vs.isEmpty) = !kvs.isEmpty:=by
 cases r<;>rfl
theorem kg{xs:List V}{its:List Value}(r:Vals xs its):(!its.toArray.isEmpty) = !xs.isEmpty:=by
 cases r<;>simp
theorem gn:(sizeLine:Nat) < 2 ^ 63:=by rw[sizeLine_eq];decide
theorem mX:N5 X (fun x H Q=>∃ k,oA X.K x H k/\Q k H):=by
 intro pins s σ H x v Q I rx h;obtain⟨k,e,q⟩:=h;have hl:=gn;have hs:sizeLine=16777216:=sizeLine_eq;cases x with
 | non=>
  cases rx;have e':k=false:=e;subst e';exact truthy_none ⟨H,I,q⟩
 | bl b=>
  cases rx;have e':k=b:=e;subst e';exact wpAny_truthy_bool ⟨H,I,q⟩
 | int i=>
  obtain⟨t,rfl⟩:=rx;have e':k=(i != 0):=e;subst e';exact PySem.P.truthy_int ⟨H,I,q⟩
 | str y=>
  obtain⟨t,rfl⟩:=rx;obtain⟨hy,e'⟩:y.length<=sizeLine/\k=((y.length:Int) != 0):=e;subst e';exact PySem.P.truthy_str (by omega) ⟨H,I.tok _,q⟩
 | FR y=>
  obtain⟨t,rfl⟩:=rx;obtain⟨hy,e'⟩:y.size<=sizeLine/\k=((y.size:Int) != 0):=e;subst e';exact PySem.W.truthy_bytes (by omega) ⟨H,I.tok _,q⟩
 | ref p=>
  cases rx;have e':(∃ xs,jO X.K H p xs/\k = !xs.isEmpty)\/(∃ xs,f_ X.K H p xs/\k = !xs.isEmpty)\/∃ kvs,H p=some (.dK kvs)/\k = !kvs.isEmpty:=e;rcases e' with ⟨xs,hx,e'⟩ | ⟨xs,hx,e'⟩ | ⟨kvs,hx,e'⟩
  ·subst e'
   obtain⟨its,r,pl,hz⟩:=I.list hx;have hlen:=r.length;exact wpAny_truthy_list pl.isList (by simp only[List.size_toArray];omega) ⟨H,I.tok _,by rw[kg r];exact q⟩
  ·subst e'
   obtain⟨its,r,pl,hz⟩:=I.tuple hx;have hlen:=r.length;exact truthy_tuple pl (by simp only[List.size_toArray];omega) ⟨H,I.tok _,by rw[kg r];exact q⟩
  ·subst e'
   obtain⟨hz,hS,vs,r,m⟩:kvs.length<=sizeLine/\(p == sysModules)=false/\∃ vs,KV kvs vs/\s.heap.DictOf (bz X.prog X.w) p vs:=I.hok p _ hx;have hlen:kvs.length=vs.length:=Paired.length r;exact wpAny_truthy_dict hS m (by omega) ⟨H,I.tok _,by rw[qq r];exact q⟩
 | _=>exact(show False from e).elim
theorem vB(ha:PE X a ta)(he:∀ whole,isTrue a X.env whole=(do let v ← whole;standAt a.pos;holding [v] (truthy v))) :
  PT X a (fun σ H Q=>ta σ H fun x H'=>∃ k,oA X.K x H' k/\Q k H'):=by
 intro pins s σ H Q I h;exact isTrue_plain (cu (ha pins s σ H _ I h) fun v s1 ⟨x,H1,I1,r1,q1⟩=>mX pins s1 σ H1 x v Q I1 r1 q1) (he _)
theorem qr:gf X (binaryOp .Add) (fun x y H Q=>∃ i j,x=.str i/\y=.str j/\i.length + j.length<=sizeLine/\Q (.str (i++j)) H):=by
 intro pins s σ H x y v u Q I rx ry h;obtain⟨i,j,rfl,rfl,hz,q⟩:=h;obtain⟨t,rfl⟩:=rx;obtain⟨t',rfl⟩:=ry;exact add_str (fun t' tk=>⟨.str (i++j),H,I.tok _,⟨_,rfl⟩,q⟩) hz
theorem vals1{x:V}{us:List Value}(r:Vals [x] us):∃ u,us=[u]/\RelV x u:=by
 cases r with
 | cons r1 r2=>cases r2;exact⟨_,rfl,r1⟩
theorem vals2{x y:V}{us:List Value}(r:Vals [x,y] us):∃ u w',us=[u,w']/\RelV x u/\RelV y w':=by
 cases r with
 | cons r1 r2=>
  cases r2 with
  | cons r3 r4=>cases r4;exact⟨_,_,rfl,r1,r3⟩
end
structure qu(h:Heap)(x dx C:Addr)(mA:Str->Option Value):Prop where
 obj:h.get? x=some (PySem.W.instObj C dx)
 ns:h.Ns1 dx mA
 ne:dx≠x
theorem uc{h:Heap}{dx:Addr}{mA:Str->Option Value}(n:h.Ns1 dx mA):∃ od,h.get? dx=some od/\∀ name,PySem.W.lookIn name od=some (mA name):=by
 obtain⟨o,es,ep,ho,hd,hk,_,hm⟩:=n;refine⟨o,ho,fun name => ?_⟩
 have e:=hm name;unfold nsFind findBy at e;rw[← Array.find?_toList]at e;unfold PySem.W.lookIn;rw[hd];dsimp only;split
 ·rename_i y q
  rw[q]at e;exact congrArg some e
 ·rename_i q
  rw[q]at e
  have a:es.toList.any (·.refKey)=false:=by
   rw[List.any_eq_false];intro y hy;obtain⟨z,t,hkey⟩:=hk y (Array.mem_toList_iff.mp hy);simp[DictEntry.refKey,hkey]
  have a':¬ es.toList.any (·.refKey)=true:=by rw[a];exact Bool.false_ne_true
  rw[if_neg a'];exact congrArg some e
theorem qu.look{h:Heap}{x dx C:Addr}{mA:Str->Option Value}(I:qu h x dx C mA):∃ od,PySem.W.InstAt h x (PySem.W.instObj C dx) C (some od)/\∀ name,PySem.W.lookIn name od=some (mA name):=
 let ⟨od,ho,hl⟩:=uc I.ns
 ⟨od,⟨I.obj,rfl,rfl,ho⟩,hl⟩
section
variable{prog:Program}{w:World}{A:Around}{E:Value->Shared->Prop}{s:Shared}{K:PySem.W.Frag}{x dx C f:Addr}{mA:Str->Option Value}{name:Str}{v:Value}
theorem get_map{expr:Bool}{Q:Value->Shared->Prop}(X:K.In s.heap)(I:qu s.heap x dx C mA)(hg:PySem.W.plainGet K C name=true)(hh:PySem.W.hasDictIn K C=true)
  (ha:PySem.W.findIn K (.ref C) name=some none) (hv:mA name=some v) (hv':PySem.W.handedIn v=true) (h:Q v { s with toks:=s.toks + 1 }) :
  wpAny (model prog w) A (getAttr (.ref x) name expr) Q E s:=by
 obtain⟨od,J,hl⟩:=I.look;exact PySem.W.get_value X J (PySem.W.plainGet_of hg).1 (PySem.W.findObj_own hh ha rfl (by rw[hl,hv])) hv' h
theorem vC{pl:Sem Bool}{Q:Value×List Value->Shared->Prop}(X:K.In s.heap)(I:qu s.heap x dx C mA)(hg:PySem.W.plainGet K C name=true)
  (hf:PySem.W.findIn K (.ref C) name=some (some (.ref f))) (ht:PySem.W.isFn K (.ref f)=true) (hv:mA name=none) (h:Q (.ref f,[.ref x]) s) :
  wpAny (model prog w) A (getMethod (.ref x) name pl) Q E s:=by
 obtain⟨od,J,hl⟩:=I.look;exact PySem.W.method_fn X J (PySem.W.plainGet_of hg).1 (PySem.W.plainGet_of hg).2 hf (beq_iff_eq.mp ht) (by show(PySem.W.lookIn name od).map (·.isSome)=some false;rw[hl,hv];rfl) h
theorem yB{ns:List Str}{Q:Unit->Shared->Prop}(X:K.In s.heap)(I:qu s.heap x dx C mA)
  (hs:PySem.W.findIn K (.ref C) "__setattr__"=some (some (.builtin "object.__setattr__"))) (hp:PySem.W.plainOver K C=true) (ht:PySem.W.takerIn K C name=some none) (hh:PySem.W.hasDictIn K C=true)
  (hw:PySem.Within mA ns) (hsz:ns.length<=sizeLine)
  (h:∀ h',qu h' x dx C (fun y=>if y=name then some v else mA y)->Heap.SameBut dx s.heap h'->Q () { s with heap:=h',toks:=s.toks + 2 }) :
  wpAny (model prog w) A (setAttr (.ref x) name v) Q E s:=by
 obtain⟨od,J,hl⟩:=I.look;refine PySem.W.set_plain X J hs (PySem.W.osa_open (s:={ s with toks:=s.toks + 1 }) (r:=none) X J hp ht fun b => ?_)
 obtain⟨cd,hc,hd'⟩:=PySem.W.any_some hh;have hx:s.heap.get? x=some ⟨.ref C,some dx,.plain,#[]⟩:=I.obj;refine wpAny_bind (wpAny_pure (wpAny_bind (wpAny_bind (wpAny_loadPart hx (wpAny_bind (PySem.W.Looks.here (s:={ s with toks:=s.toks + 1 }) (PySem.W.looks_clsIn X hc) ?_))))));rw[hd'];refine wpAny_pure (a:=some dx) (wpAny_bind (wpAny_pure (wpAny_bind ?_)));refine wpAny_nsSet1 (s:={ s with toks:=s.toks + 1 }) I.ns fun h' hn2 hs2 => ?_
 obtain⟨oD,esD,epD,hoD,hdD,hcD⟩:=hn2.count (PySem.Within.cons name v hw);refine wpAny_bind (wpAny_lookBehind hoD (by rw[hdD];exact pastItsLine_dict (Nat.le_trans hcD (by rw[List.length_cons];omega))) ?_)
 exact wpAny_pure (h _ ⟨(hs2.2 _ (Ne.symm I.ne)).trans I.obj,hn2,I.ne⟩ hs2)
theorem vD{R:Result->Shared->Prop}{vs:List Value}{kw:List (Str×Value)}(X:K.In s.heap)(hm:PySem.W.makesIn K C=true)
  (hi:PySem.W.findIn K (.ref C) "__init__"=some (some (.ref f))) (hf:PySem.W.typeIn K (.ref f)=some (.type "function"))
  (h:codeAny (model prog w) (A.under (.builtin "type.__call__" ⟨.ref C::vs,kw⟩)) (.call (.ref f) ⟨.ref (s.heap.objs.size + 1)::vs,kw⟩) (PySem.W.InitBack (s.heap.objs.size + 1) R)
   { s with heap:=(s.heap.push PySem.W.emptyDict).push (PySem.W.instObj C s.heap.objs.size) }) :
  codeAny (model prog w) A (.call (.ref C) ⟨vs,kw⟩) R s:=by
 obtain⟨hh,g,d,t,os⟩:=s;exact PySem.W.make_core (PySem.W.makes_of X hm) (PySem.W.looks_findIn X hi) (fun self=>PySem.W.bind_fn X self hf) (.inl rfl) h
end
noncomputable def fM(f:Str)(v:V):List (Str×V)->List (Str×V)
 | []=>[(f,v)]
 | (g,x)::r=>if g=f then (g,v)::r else (g,x)::fM f v r
theorem ju(f g:Str)(v:V):∀ fs:List (Str×V),(fM f v fs).lookup g=if g=f then some v else fs.lookup g
 | []=>by
  show List.lookup g [(f,v)]=_
  by_cases h:g=f
  ·have hb:(g == f)=true:=beq_iff_eq.mpr h
   simp only[List.lookup,hb,if_pos h]
  ·have hb:(g == f)=false:=beq_eq_false_iff_ne.mpr h
   simp only[List.lookup,hb,if_neg h]
 | (k,x)::r=>by
  have ih:=ju f g v r;rw[show fM f v ((k,x)::r)=(if k=f then (k,v)::r else (k,x)::fM f v r) from rfl]
  by_cases hk:k=f
  ·rw[if_pos hk]
   by_cases h:g=k
   ·have hb:(g == k)=true:=beq_iff_eq.mpr h
    simp only[List.lookup,hb,if_pos (h.trans hk)]
   ·have hb:(g == k)=false:=beq_eq_false_iff_ne.mpr h
    simp only[List.lookup,hb,if_neg (fun e:g=f=>h (e.trans hk.symm))]
  ·rw[if_neg hk]
   by_cases h:g=k
   ·have hb:(g == k)=true:=beq_iff_eq.mpr h
    simp only[List.lookup,hb,if_neg (fun e:g=f=>hk (h.symm.trans e))]
   ·have hb:(g == k)=false:=beq_eq_false_iff_ne.mpr h
    simp only[List.lookup,hb];exact ih
theorem jb(f:Str)(v:V):∀ fs:List (Str×V),f∈(fM f v fs).map (·.1)/\∀ g,g∈fs.map (·.1)->g∈(fM f v fs).map (·.1)
 | []=>⟨by simp[fM],fun g h=>by simp at h⟩
 | (k,x)::r=>by
  obtain⟨i1,i2⟩:=jb f v r;rw[show fM f v ((k,x)::r)=(if k=f then (k,v)::r else (k,x)::fM f v r) from rfl]
  by_cases hk:k=f
  ·rw[if_pos hk]
   subst hk;exact⟨by simp,fun g h=>by simpa using h⟩
  ·rw[if_neg hk]
   refine⟨?_,fun g h => ?_⟩
   ·rw[List.map_cons]
    exact List.mem_cons_of_mem _ i1
   ·rw[List.map_cons]at h ⊢
    rcases List.mem_cons.mp h with e | e
    ·exact List.mem_cons.mpr (.inl e)
    ·exact List.mem_cons_of_mem _ (i2 g e)
theorem jv(f:Str)(v:V):∀ fs:List (Str×V),(fM f v fs).length<=fs.length + 1
 | []=>by simp[fM]
 | (k,x)::r=>by
  have ih:=jv f v r;rw[show fM f v ((k,x)::r)=(if k=f then (k,v)::r else (k,x)::fM f v r) from rfl]
  by_cases hk:k=f
  ·rw[if_pos hk,List.length_cons,List.length_cons];omega
  ·rw[if_neg hk,List.length_cons,List.length_cons];omega
theorem f9.some_of{v:V}{o:Option Value}(r:f9 (some v) o):∃ u,o=some u/\RelV v u:=by
 cases o with
 | none=>exact(show False from r).elim
 | some u=>exact⟨u,rfl,r⟩
theorem f9.none_of{o:Option Value}(r:f9 none o):o=none:=by
 cases o with
 | none=>rfl
 | some u=>exact(show False from r).elim
theorem ud{v:V}{u:Value}(r:RelV v u):PySem.W.handedIn u=true:=by
 cases v with
 | non=>cases (show u=Value.none from r);rfl
 | bl b=>cases (show u=Value.bool b from r);rfl
 | int i=>obtain⟨t,e⟩:=(show ∃ t,u=Value.int i t from r);cases e;rfl
 | str x=>obtain⟨t,e⟩:=(show ∃ t,u=Value.str x t from r);cases e;rfl
 | FR b=>obtain⟨t,e⟩:=(show ∃ t,u=Value.bytes b t from r);cases e;rfl
 | flt b=>obtain⟨t,e⟩:=(show ∃ t,u=Value.float b t from r);cases e;rfl
 | ref a=>cases (show u=Value.ref a from r);rfl
 | ty n=>cases (show u=Value.type n from r);rfl
section
variable{P:Program}{w:World}{H H':Hp}{h h':Heap}{a C dx:Addr}{fs fs':List (Str×V)}
theorem jP(hok:ic P w H h)(e:H a=some (.ins C dx fs)):∃ mA,qu h a dx C mA/\(∀ f,f9 (fs.lookup f) (mA f))/\PySem.Within mA (fs.map (·.1))/\fs.length<=1000/\H dx=some (.own a):=by
 obtain⟨d,z,ne,ob,mA,n,r,q⟩:=(show bJ P w H h a (.ins C dx fs) from hok a _ e)
 exact⟨mA,⟨ob,n,ne⟩,r,q,z,d⟩
end
structure oB(K:PySem.W.Frag)(C:Addr):Prop where
 pg:PySem.W.plainGet K C Str.empty=true
 hd:PySem.W.hasDictIn K C=true
 po:PySem.W.plainOver K C=true
 sa:PySem.W.findIn K (.ref C) "__setattr__"=some (some (.builtin "object.__setattr__"))
theorem oB.get{K:PySem.W.Frag}{C:Addr}(c:oB K C)(f:Str):PySem.W.plainGet K C f=true:=c.pg
def gp(K:PySem.W.Frag)(C:Addr)(f:Str):Prop:=PySem.W.findIn K (.ref C) f=some none
theorem gp.taker{K:PySem.W.Frag}{C:Addr}{f:Str}(n:gp K C f):PySem.W.takerIn K C f=some none:=by
 unfold PySem.W.takerIn;rw[show PySem.W.findIn K (.ref C) f=some none from n]
 rfl
structure Meth(K:PySem.W.Frag)(C:Addr)(m:Str)(f:Addr):Prop where
 at_:PySem.W.findIn K (.ref C) m=some (some (.ref f))
 fn:PySem.W.isFn K (.ref f)=true
 kp:PySem.W.keepIn K (.ref f)=true
section
variable{X:Cx}{pins:List (Addr×Obj)}{σ:St}{H:Hp}{s:Shared}{a C dx:Addr}{fs:List (Str×V)}{f:Str}{v:V}{A:Around}{E:Value->Shared->Prop}
theorem qv{b:Bool}{Q:Value->Shared->Prop}(I:Inv X pins σ H s)(e:H a=some (.ins C dx fs))(c:oB X.K C)(n:gp X.K C f)(l:fs.lookup f=some v)
  (h:∀ u s',Inv X pins σ H s'->RelV v u->Q u s'):wpAny (model X.prog X.w) A (getAttr (.ref a) f b) Q E s:=by
 obtain⟨mA,O,r,_,_,_⟩:=jP I.hok e;obtain⟨u,hu,ru⟩:=f9.some_of (v:=v) (o:=mA f) (by rw[← l];exact r f)
 exact get_map I.iy O (c.get f) c.hd n hu (ud ru) (h u _ (I.tok _) ru)
theorem ki{m:Str}{g:Addr}{pl:Sem Bool}{Q:Value×List Value->Shared->Prop}(I:Inv X pins σ H s)(e:H a=some (.ins C dx fs))(c:oB X.K C)(k:Meth X.K C m g)(l:fs.lookup m=none)
  (h:Q (.ref g,[.ref a]) s):wpAny (model X.prog X.w) A (getMethod (.ref a) m pl) Q E s:=by
 obtain⟨mA,O,r,_,_,_⟩:=jP I.hok e;have hn:mA m=none:=f9.none_of (by rw[← l];exact r m)
 exact vC I.iy O (c.get m) k.at_ k.fn hn h
theorem qw{y:V}{u:Value}{Q:Unit->Shared->Prop}(I:Inv X pins σ H s)(e:H a=some (.ins C dx fs))(c:oB X.K C)(n:gp X.K C f)(hl:fs.length < 1000)(ry:RelV y u)
  (h:∀ s',Inv X pins σ (upd H a (.ins C dx (fM f y fs))) s'->Q () s'):wpAny (model X.prog X.w) A (setAttr (.ref a) f u) Q E s:=by
 obtain⟨mA,O,r,wi,_,ho⟩:=jP I.hok e;have hz:(fs.map (·.1)).length<=sizeLine:=by rw[List.length_map,sizeLine_eq];omega
 refine yB I.iy O c.sa c.po n.taker c.hd wi hz fun h' O' sb=>h _ ?_
 have hd:∃ o,h'.get? dx=some o:=let ⟨o,_,_,e',_⟩:=O'.ns;⟨o,e'⟩
 refine I.write (x:=a) (e:=dx) (by rw[e];exact True.intro) (.inr ho) (fun b q hb z=>(sb.2 b hb).trans z) hd ?_
 refine⟨by rw[aF O.ne];exact ho,?_,O.ne,O'.obj,_,O'.ns,fun g => ?_,fun g hg => ?_⟩
 ·have:=jv f y fs;omega
 ·show f9 ((fM f y fs).lookup g) (if g=f then some u else mA g)
  rw[ju]
  by_cases q:g=f
  ·rw[if_pos q,if_pos q];exact ry
  ·rw[if_neg q,if_neg q];exact r g
 ·by_cases q:g=f
  ·rw[q];exact(jb f y fs).1
  ·refine(jb f y fs).2 g (wi g fun z=>hg ?_)
   show(if g=f then some u else mA g)=none
   rw[if_neg q];exact z
theorem Inv.made(I:Inv X pins σ H s):Inv X pins σ (upd (upd H s.heap.objs.size (.own (s.heap.objs.size + 1))) (s.heap.objs.size + 1) (.ins C s.heap.objs.size []))
  { s with heap:=(s.heap.push PySem.W.emptyDict).push (PySem.W.instObj C s.heap.objs.size) }:=by
 have e1:(s.heap.push PySem.W.emptyDict).get? s.heap.objs.size=some PySem.W.emptyDict:=Heap.get?_push_size s.heap rfl
 have e2:((s.heap.push PySem.W.emptyDict).push (PySem.W.instObj C s.heap.objs.size)).get? (s.heap.objs.size + 1)=some (PySem.W.instObj C s.heap.objs.size):=by
  have:=Heap.get?_push_size (s.heap.push PySem.W.emptyDict) (o:=PySem.W.instObj C s.heap.objs.size) rfl;rwa[Heap.size_push]at this
 have e3:(s.heap.push PySem.W.emptyDict).Ns s.heap.objs.size (fun _=>none):=⟨PySem.W.emptyDict,#[],_,e1,rfl,(fun e he=>absurd he (by simp)),fun _=>rfl⟩
 have I1:=I.laid (a:=s.heap.objs.size) (o:=.own (s.heap.objs.size + 1)) (h':=s.heap.push PySem.W.emptyDict) (t':=s.toks) (fun b u q=>Heap.get?_push_of_some _ q) (Nat.le_refl _) ⟨_,e1⟩
 refine I1.laid (a:=s.heap.objs.size + 1) (o:=.ins C s.heap.objs.size []) (t':=s.toks) (fun b u q=>Heap.get?_push_of_some _ q) (Nat.le_of_eq (Heap.size_push _ _)) ?_
 have ne:s.heap.objs.size≠s.heap.objs.size + 1:=Nat.ne_of_lt (Nat.lt_succ_self _);refine⟨by rw[aF ne,aS],Nat.zero_le _,ne,e2,fun _=>none,(Heap.Ns1.of_empty e3).at fun o q=>Heap.get?_push_of_some _ q,fun _=>True.intro,fun y hy=>absurd rfl hy⟩
theorem yC{prog:Program}{w:World}{env:Env}{e:Expr}{f:Str}{pos:Pos}{s:Shared}{Q:Value->Shared->Prop}(hb:attributeBase e f env (eval e env)=eval e env)
  (h:wpAny (model prog w) A (eval e env) (fun o s₁=>wpAny (model prog w) A (getAttr o f true) Q E s₁) E s):wpAny (model prog w) A (eval (.Attribute e f pos) env) Q E s:=
 Attribute_any_ h (by rw[arm_eval_Attribute,hb])
end
noncomputable def N6(K:PySem.W.Frag)(ta:TE)(f:Str):TE:=fun σ H Q=>ta σ H fun x H1=>∃ a C dx fs v,x=.ref a/\H1 a=some (.ins C dx fs)/\oB K C/\gp K C f/\fs.lookup f=some v/\Q v H1
def N7(K:PySem.W.Frag)(ta tv:TE)(f:Str):TS:=fun D σ H=>tv σ H fun y H1=>ta σ H1 fun x H2=>∃ a C dx fs,x=.ref a/\H2 a=some (.ins C dx fs)/\oB K C/\gp K C f/\fs.length < 1000 /\
 D.nx σ (upd H2 a (.ins C dx (fM f y fs)))
section
variable{X:Cx}{o e value:Expr}{f:Str}{pos pos' tpos:Pos}{ta tv:TE}
theorem C5(he:PE X e ta)(hb:attributeBase e f X.env (eval e X.env)=eval e X.env):PE X (.Attribute e f pos) (N6 X.K ta f):=by
 intro pins s σ H Q I h;refine yC hb (cu (he pins s σ H _ I h) fun u s1 ⟨x,H1,I1,rx,a,C,dx,fs,v,ex,ea,c,n,l,q⟩ => ?_)
 subst ex;obtain rfl:u=Value.ref a:=rx;exact qv I1 ea c n l fun u' s2 I2 ru=>⟨v,H1,I2,ru,q⟩
theorem C6(ha:PE X o ta)(hv:PE X value tv)(hs:swapsWith value (some (.Attribute o f pos')) pos.line X.env=pure false):PS X (.Assign [.Attribute o f pos'] value pos) (N7 X.K ta tv f):=by
 intro pins s σ H D I h;refine plainObj_wpAny_Assign_Attribute (cu (hv pins s σ H _ I h) fun u s1 ⟨y,H1,I1,ry,q⟩=>cu (ha pins s1 σ H1 _ I1 q) fun ov s2 ⟨x,H2,I2,rx,a,C,dx,fs,ex,ea,c,n,l,q2⟩ => ?_) hs
 subst ex;obtain rfl:ov=Value.ref a:=rx;exact qw I2 ea c n l ry fun s3 I3=>⟨σ,_,I3,q2⟩
end
section
variable{X:Cx}{pins:List (Addr×Obj)}{σ:St}{H:Hp}{s:Shared}{A:Around}{E:Value->Shared->Prop}{Q:Value->Shared->Prop}{c:Value}{b:Bool}
inductive jG (K:PySem.W.Frag) (H:Hp):V->Value->Prop where
 | non:jG K H .non (.type "NoneType")
 | bl (x:Bool):jG K H (.bl x) (.type "bool")
 | int (i:Int):jG K H (.int i) (.type "int")
 | str (x:Str):jG K H (.str x) (.type "str")
 | flt (x:UInt64):jG K H (.flt x) (.type "float")
 | lst {a:Addr} {xs:List V} (e:H a=some (.lst xs)):jG K H (.ref a) (.type "list")
 | dD {a:Addr} {o:Obj} {xs:List V} (e:H a=some (.dD o (.lst xs))):jG K H (.ref a) (.type "list")
 | tup {a:Addr} {xs:List V} (e:H a=some (.tup xs)):jG K H (.ref a) (.type "tuple")
 | dK {a:Addr} {kvs:List (Key×V)} (e:H a=some (.dK kvs)):jG K H (.ref a) (.type "dict")
 | dT {a:Addr} {kvs:List (List Key×V)} (e:H a=some (.dT kvs)):jG K H (.ref a) (.type "dict")
 | ins {a C dx:Addr} {fs:List (Str×V)} (e:H a=some (.ins C dx fs)) (cl:oB K C) (ha:PySem.W.findIn K (.ref C) "__class__"=some (some (.builtin "object.__class__")))
   (hn:PySem.W.specialIn K (.builtin "object.__class__") "__get__"=some (some (.builtin "getset_descriptor.__get__"))) (htk:PySem.W.takesIn K (.builtin "object.__class__")=some true)
   (hm:PySem.W.mroIn K C (.type "object")=some true):jG K H (.ref a) (.ref C)
theorem cO{x:V}{u t:Value}(I:Inv X pins σ H s)(rx:RelV x u)(ty:jG X.K H x t)(e:PySem.W.kitOne X.K t c=some b)(h:∀ tk,Q (.bool b) { s with toks:=tk }) :
  wpAny (model X.prog X.w) A (call (.builtin "isinstance") [u,c]) Q E s:=by
 cases ty with
 | non=>cases (show u=Value.none from rx);exact PySem.W.kia_one PySem.W.kitx_none I.iy True.intro e (fun z=>nomatch z) h
 | bl y=>cases (show u=Value.bool y from rx);exact PySem.W.kia_one PySem.W.kitx_bool I.iy True.intro e (fun z=>nomatch z) h
 | int i=>obtain⟨t,q⟩:=(show ∃ t,u=Value.int i t from rx);cases q;exact PySem.W.kia_one PySem.W.kitx_int I.iy True.intro e (fun z=>nomatch z) h
 | str y=>obtain⟨t,q⟩:=(show ∃ t,u=Value.str y t from rx);cases q;exact PySem.W.kia_one PySem.W.kitx_str I.iy True.intro e (fun z=>nomatch z) h
 | flt y=>obtain⟨t,q⟩:=(show ∃ t,u=Value.float y t from rx);cases q;exact PySem.W.kia_one PySem.W.kitx_float I.iy True.intro e (fun z=>nomatch z) h
 | @lst a xs ea=>
  cases (show u=Value.ref a from rx)
  obtain⟨_,_,n,_,h1⟩:=(show bJ X.prog X.w H s.heap a (.lst xs) from I.hok a _ ea)
  exact PySem.W.kia_one PySem.W.kitx_list I.iy ⟨_,h1,rfl⟩ e (fun z=>nomatch z) h
 | @dD a ob xs ea=>
  cases (show u=Value.ref a from rx)
  obtain⟨_,_,_,n,_,h1⟩:=(show bJ X.prog X.w H s.heap a (.dD ob (.lst xs)) from I.hok a _ ea)
  exact PySem.W.kia_one PySem.W.kitx_list I.iy ⟨_,h1,rfl⟩ e (fun z=>nomatch z) h
 | @tup a xs ea=>
  cases (show u=Value.ref a from rx)
  obtain⟨_,_,_,p⟩:=(show bJ X.prog X.w H s.heap a (.tup xs) from I.hok a _ ea)
  obtain⟨o,h1,h2,_⟩:=p;exact PySem.W.kia_one PySem.W.kitx_tuple I.iy ⟨o,h1,h2⟩ e (fun z=>nomatch z) h
 | @dK a kvs ea=>
  cases (show u=Value.ref a from rx)
  obtain⟨_,_,vs,_,p⟩:=(show bJ X.prog X.w H s.heap a (.dK kvs) from I.hok a _ ea)
  obtain⟨o,es,ep,h1,h2,_⟩:=p;exact PySem.W.kia_one PySem.W.kitx_dict I.iy ⟨o,h1,h2.1⟩ e (fun z=>nomatch z) h
 | @dT a kvs ea=>
  cases (show u=Value.ref a from rx)
  obtain⟨_,_,xs,_,o,es,ep,h1,h2,_⟩:=(show bJ X.prog X.w H s.heap a (.dT kvs) from I.hok a _ ea)
  exact PySem.W.kia_one PySem.W.kitx_dict I.iy ⟨o,h1,h2.1⟩ e (fun z=>nomatch z) h
 | @ins a C dx fs ea cl ha hn htk hm=>
  cases (show u=Value.ref a from rx)
  obtain⟨mA,O,_⟩:=jP I.hok ea;obtain⟨od,J,_⟩:=O.look;exact PySem.W.kia_one (PySem.W.kitx_own (cl.get _) cl.hd ha hn htk hm) I.iy J e (fun z=>nomatch z) h
end
structure cD(k:Nat)(A:Around):Prop where
 hd:A.handled=none
 dp:A.depth + 3 * k + 5 < recursionLimit
 un:A.units + 16 * k + 200 < cLine
theorem cD.mono{j k:Nat}{A:Around}(r:cD k A)(h:j<=k):cD j A:=⟨r.hd,by have:=r.dp;omega,by have:=r.un;omega⟩
theorem cD.deeper{k:Nat}{A:Around}(r:cD (k + 1) A)(env:Env):cD k (A.deeper env):=
 ⟨r.hd,by have:=r.dp;show A.depth + 1 + 3 * k + 5 < _;omega,by have:=r.un;show A.units + 3 + 16 * k + 200 < _;omega⟩
theorem cD.in1{k:Nat}{A:Around}(r:cD (k + 1) A):cD k A.in1:=
 ⟨r.hd,by have:=r.dp;show A.depth + 3 * k + 5 < _;omega,by have:=r.un;show A.units + 1 + 16 * k + 200 < _;omega⟩
theorem qx{A:Around}{C:Addr}{us:List Value}{kw:List (Str×Value)}:(A.under (.builtin "type.__call__" ⟨.ref C::us,kw⟩)).depth=A.depth + 1:=by
 first | rfl | simp[Around.under,Code.weight,Code.isCreation,Code.isGuard,Code.isCaller,Code.frames,Code.isFrame,guardIds]
theorem qy{A:Around}{C:Addr}{us:List Value}{kw:List (Str×Value)}:(A.under (.builtin "type.__call__" ⟨.ref C::us,kw⟩)).units=A.units + 1:=by
 first | rfl | simp[Around.under,Code.cUnits,Code.frames,Code.isFrame]
theorem cD.make{k:Nat}{A:Around}(r:cD (k + 1) A)(C:Addr)(us:List Value)(kw:List (Str×Value)):cD k (A.under (.builtin "type.__call__" ⟨.ref C::us,kw⟩)):=
 ⟨r.hd,by have:=r.dp;rw[qx];omega,by have:=r.un;rw[qy];omega⟩
theorem cD.depth{k:Nat}{A:Around}(r:cD k A):A.depth < recursionLimit:=by have:=r.dp;omega
theorem cD.units{k:Nat}{A:Around}(r:cD k A):A.units + 64 < cLine:=by have:=r.un;omega
noncomputable def yD:TA:=fun _ H Q=>Q [] H
noncomputable def GJ(ta:TE)(tr:TA):TA:=fun σ H Q=>ta σ H fun x H1=>tr σ H1 fun xs H2=>Q (x::xs) H2
section
variable{X:Cx}{e:Expr}{es:List Expr}{te:TE}{t:TA}{pos:Pos}
theorem mY:PA X [] yD:=fun _ _ _ _ H Q I h=>Calls.spliced_nil ⟨[],H,I,.nil,h⟩
theorem e_(ha:PE X e te)(hr:PA X es t)(hs:starEach (e::es) X.env=(false,eval e X.env)::starEach es X.env:=by rfl):PA X (e::es) (GJ te t):=by
 intro pos pins s σ H Q I h;rw[hs]
 show wpAny _ _ (spliced ((false,eval e X.env)::backTo pos (starEach es X.env))) _ _ s
 refine Calls.spliced_cons (cu (ha pins s σ H _ I h) fun u s1 ⟨x,H1,I1,r1,q1⟩ => ?_)
 exact cu (hr pos pins s1 σ H1 _ I1 q1) fun us s2 ⟨xs,H2,I2,r2,q2⟩=>⟨x::xs,H2,I2,.cons r1 r2,q2⟩
def N8(t:TA):TE:=fun σ H Q=>t σ H fun xs H1=>xs.length<=sizeLine/\∀ p,H1 p=none->Q (.ref p) (upd H1 p (.tup xs))
def N9(t:TA):TE:=fun σ H Q=>t σ H fun xs H1=>xs.length<=sizeLine/\∀ p,H1 p=none->Q (.ref p) (upd H1 p (.lst xs))
theorem C7{x1}(h:PA X es t):PE X (.Tuple es x1 pos) (N8 t):=by
 intro pins s σ H Q I hq;refine wpAny_Tuple_spliced (cu (h pos pins s σ H _ I hq) fun us s1 ⟨xs,H1,I1,r,z,q⟩=>⟨by rw[← r.length];exact z,?_⟩)
 have hf:H1 s1.heap.objs.size=none:=I1.hok.fresh (Nat.le_refl _);refine⟨.ref s1.heap.objs.size,upd H1 s1.heap.objs.size (.tup xs),I1.laid (t':=s1.toks) (fun b u e=>Heap.get?_push_of_some _ e) (Nat.le_refl _) ?_,rfl,q _ hf⟩
 exact⟨z,us,r,⟨_,Heap.get?_push_size _ rfl,rfl,_,rfl⟩⟩
theorem C8(h:PA X es t):PE X (.List es pos) (N9 t):=by
 intro pins s σ H Q I hq;refine wpAny_List_spliced (cu (h pos pins s σ H _ I hq) fun us s1 ⟨xs,H1,I1,r,z,q⟩=>⟨by rw[← r.length];exact z,?_⟩)
 have hf:H1 s1.heap.objs.size=none:=I1.hok.fresh (Nat.le_refl _);refine⟨.ref s1.heap.objs.size,upd H1 s1.heap.objs.size (.lst xs),I1.laid (t':=s1.toks) (fun b u e=>Heap.get?_push_of_some _ e) (Nat.le_refl _) ?_,rfl,q _ hf⟩
 exact⟨z,us,0,r,Heap.get?_push_size _ rfl⟩
end
abbrev Sp:=List V->Hp->VK->XK->Prop
abbrev ue:=List Env->Hp->Shared->XK->Value->Shared->Prop
structure qz(P:Program)(w:World)(K:PySem.W.Frag)(mg:Str->Option Value)(base:Heap)(A:Around)(outer:List Env)(s:Shared)(H:Hp):Prop where
 frames:A.frames=some outer
 mod:Mod K mg base
 bs:∀ b o,base.get? b=some o->s.heap.get? b=some o/\H b=none
 Bv:base.objs.size<=s.heap.objs.size
 jF:s.heap.FunFrames base outer
 CB:∀ b∈frs outer,H b=none
 hok:ic P w H s.heap
 bare:AllBare s.gens
def CE(outer:List Env)(P:Program)(w:World)(H:Hp)(s:Shared)(Q:VK)(u:Value)(s':Shared):Prop:=
 ∃ v H',s'.os=s.os/\AllBare s'.gens/\Un (frs outer) [] H H' s.heap s'.heap/\ic P w H' s'.heap/\RelV v u/\Q v H'
def CR(CX:ue)(outer:List Env)(P:Program)(w:World)(H:Hp)(s:Shared)(Q:VK)(E:XK)(r:Result)(s':Shared):Prop:=
 match r with
 | .ok (.ret u)=>CE outer P w H s Q u s'
 | .ok _=>False
 | .error e=>CX outer H s E e s'
structure cU(P:Program)(w:World)(K:PySem.W.Frag)(mg:Str->Option Value)(base:Heap)(CX:ue)(k:Nat)(f:Addr)(fd:FuncData)(ps:List Str)(sp:Sp):Prop where
 len:∀ vs H Q E,sp vs H Q E->vs.length=ps.length
 run:∀ (A:Around) (outer:List Env) (s:Shared) (H:Hp) (args:Args) (us:List Value) (vs:List V) (Q:VK) (E:XK),cD k A->qz P w K mg base A outer s H->BindsTo s fd args (ps.zip us)->Vals vs us->sp vs H Q E ->
  codeAny (model P w) A (.call (.ref f) args) (CR CX outer P w H s Q E) s
theorem cU.mono{P:Program}{w:World}{K:PySem.W.Frag}{mg:Str->Option Value}{base:Heap}{CX:ue}{j k:Nat}{f:Addr}{fd:FuncData}{ps:List Str}{sp:Sp}(F:cU P w K mg base CX j f fd ps sp)(h:j<=k) :
  cU P w K mg base CX k f fd ps sp:=⟨F.len,fun A outer s H args us vs Q E hr=>F.run A outer s H args us vs Q E (hr.mono h)⟩
theorem cU.imp{P:Program}{w:World}{K:PySem.W.Frag}{mg:Str->Option Value}{base:Heap}{CX:ue}{k:Nat}{f:Addr}{fd:FuncData}{ps:List Str}{sp S9:Sp}(F:cU P w K mg base CX k f fd ps sp)
  (h:∀ vs H Q E,S9 vs H Q E->sp vs H Q E):cU P w K mg base CX k f fd ps S9:=
 ⟨fun vs H Q E q=>F.len vs H Q E (h _ _ _ _ q),fun A outer s H args us vs Q E hr he hb hv hs=>F.run A outer s H args us vs Q E hr he hb hv (h _ _ _ _ hs)⟩
theorem qz.make{P:Program}{w:World}{K:PySem.W.Frag}{mg:Str->Option Value}{base:Heap}{A:Around}{outer:List Env}{s:Shared}{H:Hp}(e:qz P w K mg base A outer s H)(C:Addr)(us:List Value)(kw:List (Str×Value)) :
  qz P w K mg base (A.under (.builtin "type.__call__" ⟨.ref C::us,kw⟩)) outer s H:=⟨by first | exact e.frames | (simpa[Around.under,Code.envs,Code.isFrame,pushEnvs] using e.frames),e.mod,e.bs,e.Bv,e.jF,e.CB,e.hok,e.bare⟩
section
variable{X:Cx}{pins:List (Addr×Obj)}{σ:St}{H:Hp}{s s':Shared}
theorem Inv.env0(I:Inv X pins σ H s):qz X.prog X.w X.K X.mg X.base X.A X.stack s H:=
 ⟨I.ok.frames,I.ok.mod,I.bs,Nat.le_trans I.ok.Bv I.sz,I.stack,I.rV,I.hok,I.bare⟩
theorem Inv.after{Q:VK}{u:Value}(I:Inv X pins σ H s)(h:CE X.stack X.prog X.w H s Q u s'):EP X pins σ Q u s':=by
 obtain⟨v,H',os,bare,un,hok,r,q⟩:=h;obtain⟨hh,g,d,t,os'⟩:=s';obtain rfl:os'=s.os:=os;exact⟨v,H',I.call (h':=hh) (g':=g) (d':=d) (t':=t) (ch:=[]) un hok bare (fun b z=>absurd z (by simp)),r,q⟩
end
noncomputable def BB(sp:Sp)(gi:List V)(E:XK)(t:TA):TE:=fun σ H Q=>t σ H fun vs H1=>sp (vs++gi) H1 Q E
noncomputable def BC(C:Addr)(m:Str)(sp:Sp)(gi:List V)(E:XK)(ta:TE)(t:TA):TE:=fun σ H Q=>ta σ H fun x H1=>∃ a dx fs,x=.ref a/\H1 a=some (.ins C dx fs)/\fs.lookup m=none /\
 t σ H1 fun vs H2=>sp (x::(vs++gi)) H2 Q E
def BD(C:Addr)(sp:Sp)(gi:List V)(E:XK)(t:TA):TE:=fun σ H Q=>t σ H fun vs H1=>∀ x dx,H1 x=none->H1 dx=none->dx≠x ->
 sp (.ref x::(vs++gi)) (upd (upd H1 dx (.own x)) x (.ins C dx [])) (fun v H2=>v=.non/\Q (.ref x) H2) E
def Binds(K:PySem.W.Frag)(fd:FuncData)(ps:List Str)(ds:List Value):Prop:=
 ∀ (s:Shared) (us:List Value),K.In s.heap->(us++ds).length=ps.length->BindsTo s fd ⟨us,[]⟩ (ps.zip (us++ds))
theorem Binds.all{K:PySem.W.Frag}{fd:FuncData}{ps:List Str}(h:∀ us:List Value,us.length=ps.length->bindArgs fd ⟨us,[]⟩=pure (ps.zip us)):Binds K fd ps []:=fun s us _ hl=>by
 rw[List.append_nil]at hl ⊢;exact .of_eq (h us hl)
def Passes(CX:ue)(X:Cx)(E:XK):Prop:=∀ (pins:List (Addr×Obj)) (σ:St) (H:Hp) (s:Shared) (e:Value) (s':Shared),Inv X pins σ H s->CX X.stack H s E e s'->X.xe e s'
section
variable{X:Cx}{CX:ue}{k:Nat}{f C:Addr}{fd:FuncData}{ps:List Str}{sp:Sp}{gi:List V}{ds:List Value}{E:XK}{x m:Str}{p pos apos:Pos}{e o:Expr}{es:List Expr}{ta:TE}{t:TA}
theorem mZ{pins:List (Addr×Obj)}{σ:St}{H:Hp}{s:Shared}{Q:VK}{us:List Value}{vs:List V}(F:cU X.prog X.w X.K X.mg X.base CX k f fd ps sp)(hr:cD k X.A)(hb:Binds X.K fd ps ds)(hd:Vals gi ds)(hx:Passes CX X E)
  (I:Inv X pins σ H s) (r:Vals vs us) (h:sp (vs++gi) H Q E):wpAny (model X.prog X.w) X.A (call (.ref f) us) (EP X pins σ Q) X.xe s:=by
 have r2:Vals (vs++gi) (us++ds):=r.append hd;have hl:(us++ds).length=ps.length:=by rw[← r2.length];exact F.len _ _ _ _ h
 refine wpAny_call (codeAny_mono (F.run X.A X.stack s H ⟨us,[]⟩ (us++ds) (vs++gi) Q E hr I.env0 (hb s us I.iy hl) r2 h) fun r s' hq => ?_)
 cases r with
 | error e=>exact hx pins σ H s e s' I hq
 | ok fl=>
  cases fl with
  | ret u=>exact I.after hq
  | next=>exact False.elim hq
  | brk=>exact False.elim hq
  | cont=>exact False.elim hq
theorem rY(F:cU X.prog X.w X.K X.mg X.base CX k f fd ps sp)(hr:cD k X.A)(hg:Gl X x)(hm:X.mg x=some (.ref f))(hk:PySem.W.keepIn X.K (.ref f)=true)(hb:Binds X.K fd ps ds)(hd:Vals gi ds)(hx:Passes CX X E)
  (ha:PA X (e::es) t) (hdb:(x == ("__debug__":Str))=false:=by decide) (he:starEach (e::es) X.env=(false,eval e X.env)::starEach es X.env:=by rfl) (hpl:(backTo pos (starEach es X.env)).any (·.1)=false:=by rfl) :
  PE X (.Call (.Name x p) (e::es) [] pos) (BB sp gi E t):=by
 intro pins s σ H Q I h;refine wpAny_Call_Name_kw (iz I hg hm ?_ hdb);refine PySem.W.callWith_K (h₀:=X.base) I.ok.mod.Gp hk (cu (ha pos pins s σ H _ I h) fun us s1 ⟨vs,H1,I1,r,q⟩=>⟨I1.iy,?_⟩) he hpl
 exact mZ F hr hb hd hx I1 r q
theorem vE(F:cU X.prog X.w X.K X.mg X.base CX k f fd ps sp)(hr:cD k X.A)(hg:Gl X x)(hm:X.mg x=some (.ref f))(hk:PySem.W.keepIn X.K (.ref f)=true)(hb:Binds X.K fd ps ds)(hd:Vals gi ds)(hx:Passes CX X E)
  (hdb:(x == ("__debug__":Str))=false:=by decide):PE X (.Call (.Name x p) [] [] pos) (BB sp gi E yD):=by
 intro pins s σ H Q I h;refine wpAny_Call_Name_kw (iz I hg hm ?_ hdb);exact PySem.W.callWith_K0 I.iy hk (mZ (us:=[]) F hr hb hd hx I .nil h)
theorem yE{pl:Sem Bool}(he:PE X o ta)(c:oB X.K C)(hm:Meth X.K C m f)(F:cU X.prog X.w X.K X.mg X.base CX k f fd ps sp)(hr:cD k X.A)(hb:Binds X.K fd ps ds)(hd:Vals gi ds)(hx:Passes CX X E)(ha:PA X (e::es) t)
  (hst:starEach (e::es) X.env=(false,eval e X.env)::starEach es X.env:=by rfl) (hpl:(backTo pos (starEach es X.env)).any (·.1)=false:=by rfl)
  (ht:eval (.Call (.Attribute o m apos) (e::es) [] pos) X.env=(do
   let ov ← eval o X.env
   standAt apos.atName
   let (f,first) ← holding [ov] (getMethod ov m pl)
   callWith pos f first (backTo pos (starEach (e::es) X.env)) (backToKw pos (keywordEach [] X.env))):=by rfl) :
  PE X (.Call (.Attribute o m apos) (e::es) [] pos) (BC C m sp gi E ta t):=by
 intro pins s σ H Q I h;refine PySem.W.methodCall_KW (pl:=pl) (cu (he pins s σ H _ I h) fun u s1 ⟨x,H1,I1,rx,a,dx,fs,ex,ea,l,q⟩ => ?_) ht
 subst ex;obtain rfl:u=Value.ref a:=rx;refine ki I1 ea c hm l ?_;refine PySem.W.callWith_K (first:=[.ref a]) (h₀:=X.base) I.ok.mod.Gp hm.kp (cu (ha pos pins s1 σ H1 _ I1 q) fun us s2 ⟨vs,H2,I2,r,q2⟩=>⟨I2.iy,?_⟩) hst hpl
 exact mZ (us:=.ref a::us) (vs:=.ref a::vs) F hr hb hd hx I2 (.cons rfl r) q2
theorem vF{pl:Sem Bool}(he:PE X o ta)(c:oB X.K C)(hm:Meth X.K C m f)(F:cU X.prog X.w X.K X.mg X.base CX k f fd ps sp)(hr:cD k X.A)(hb:Binds X.K fd ps ds)(hd:Vals gi ds)(hx:Passes CX X E)
  (ht:eval (.Call (.Attribute o m apos) [] [] pos) X.env=(do
   let ov ← eval o X.env
   standAt apos.atName
   let (f,first) ← holding [ov] (getMethod ov m pl)
   callWith pos f first (backTo pos (starEach [] X.env)) (backToKw pos (keywordEach [] X.env))):=by rfl) :
  PE X (.Call (.Attribute o m apos) [] [] pos) (BC C m sp gi E ta yD):=by
 intro pins s σ H Q I h;refine PySem.W.methodCall_KW (pl:=pl) (cu (he pins s σ H _ I h) fun u s1 ⟨x,H1,I1,rx,a,dx,fs,ex,ea,l,q⟩ => ?_) ht
 subst ex;obtain rfl:u=Value.ref a:=rx;refine ki I1 ea c hm l ?_;exact PySem.W.callWith_K0 (first:=[.ref a]) I1.iy hm.kp (mZ (us:=[.ref a]) (vs:=[.ref a]) F hr hb hd hx I1 (.cons rfl .nil) q)
structure Mk(K:PySem.W.Frag)(C f:Addr):Prop where
 makes:PySem.W.makesIn K C=true
 init:PySem.W.findIn K (.ref C) "__init__"=some (some (.ref f))
 fn:PySem.W.isFn K (.ref f)=true
 kp:PySem.W.keepIn K (.ref C)=true
theorem oC{pins:List (Addr×Obj)}{σ:St}{H:Hp}{s:Shared}{Q:VK}{us:List Value}{vs:List V}(M:Mk X.K C f)(F:cU X.prog X.w X.K X.mg X.base CX k f fd ps sp)(hr:cD (k + 1) X.A)(hb:Binds X.K fd ps ds)(hd:Vals gi ds)
  (hx:Passes CX X E) (I:Inv X pins σ H s) (r:Vals vs us)
  (h:∀ x dx,H x=none->H dx=none->dx≠x->sp (.ref x::(vs++gi)) (upd (upd H dx (.own x)) x (.ins C dx [])) (fun v H2=>v=.non/\Q (.ref x) H2) E) :
  wpAny (model X.prog X.w) X.A (call (.ref C) us) (EP X pins σ Q) X.xe s:=by
 have hq:=h (s.heap.objs.size + 1) s.heap.objs.size (I.hok.fresh (Nat.le_succ _)) (I.hok.fresh (Nat.le_refl _)) (Nat.ne_of_lt (Nat.lt_succ_self _));have I2:=Inv.made (C:=C) I;have r2:Vals (V.ref (s.heap.objs.size + 1)::(vs++gi)) (Value.ref (s.heap.objs.size + 1)::(us++ds)):=.cons rfl (r.append hd)
 have hl:(Value.ref (s.heap.objs.size + 1)::us++ds).length=ps.length:=by
  have e:=r2.length;rw[F.len _ _ _ _ hq]at e;exact e.symm
 refine wpAny_call (vD (f:=f) I.iy M.makes M.init (beq_iff_eq.mp M.fn) (codeAny_mono (F.run _ X.stack _ _ ⟨Value.ref (s.heap.objs.size + 1)::us,[]⟩ (Value.ref (s.heap.objs.size + 1)::(us++ds)) _ _ E (hr.make C us [])
  (I2.env0.make C us []) (hb _ (Value.ref (s.heap.objs.size + 1)::us) I2.iy hl) r2 hq) fun r s' hq' => ?_))
 cases r with
 | error e=>exact hx pins σ _ _ e s' I2 hq'
 | ok fl=>
  cases fl with
  | ret u=>
   obtain⟨v,H',I3,rv,ev,q3⟩:=I2.after hq';subst ev;exact⟨rv,⟨V.ref (s.heap.objs.size + 1),H',I3,rfl,q3⟩⟩
  | next=>exact False.elim hq'
  | brk=>exact False.elim hq'
  | cont=>exact False.elim hq'
theorem yF(M:Mk X.K C f)(F:cU X.prog X.w X.K X.mg X.base CX k f fd ps sp)(hr:cD (k + 1) X.A)(hg:Gl X x)(hm:X.mg x=some (.ref C))(hb:Binds X.K fd ps ds)(hd:Vals gi ds)(hx:Passes CX X E)
  (ha:PA X (e::es) t) (hdb:(x == ("__debug__":Str))=false:=by decide) (he:starEach (e::es) X.env=(false,eval e X.env)::starEach es X.env:=by rfl) (hpl:(backTo pos (starEach es X.env)).any (·.1)=false:=by rfl) :
  PE X (.Call (.Name x p) (e::es) [] pos) (BD C sp gi E t):=by
 intro pins s σ H Q I h;refine wpAny_Call_Name_kw (iz I hg hm ?_ hdb);refine PySem.W.callWith_K (h₀:=X.base) I.ok.mod.Gp M.kp (cu (ha pos pins s σ H _ I h) fun us s1 ⟨vs,H1,I1,r,q⟩=>⟨I1.iy,?_⟩) he hpl
 exact oC M F hr hb hd hx I1 r q
theorem vG(M:Mk X.K C f)(F:cU X.prog X.w X.K X.mg X.base CX k f fd ps sp)(hr:cD (k + 1) X.A)(hg:Gl X x)(hm:X.mg x=some (.ref C))(hb:Binds X.K fd ps ds)(hd:Vals gi ds)(hx:Passes CX X E)
  (hdb:(x == ("__debug__":Str))=false:=by decide):PE X (.Call (.Name x p) [] [] pos) (BD C sp gi E yD):=by
 intro pins s σ H Q I h;refine wpAny_Call_Name_kw (iz I hg hm ?_ hdb);exact PySem.W.callWith_K0 I.iy M.kp (oC (us:=[]) M F hr hb hd hx I .nil h)
end
section
variable{X:Cx}{CX:ue}{k:Nat}{f C:Addr}{fd:FuncData}{ps ks:List Str}{sp:Sp}{E:XK}{x m:Str}{p pos apos VY:Pos}{e o:Expr}{es:List Expr}{kws:List Keyword}{te ta:TE}{t tk:TA}{nm:Option Str}
variable{g:List Value->List Value->List Value}{gV:List V->List V->List V}
end
structure jQ(N P:List Str)(sc:Scope):Prop where
 kind:sc.kind=.function
 co:sc.isCoroutine=false
 gen:sc.isGenerator=false
 nd:N.Nodup
 pre:N.take P.length=P
 par:∀ x∈P,sc.names.lookup x=some .local\/sc.names.lookup x=some .cell
 C9:∀ y∈sc.names,y.2≠.free
theorem lU{kindOf:Str->Option NameKind}{x:Str}:∀ {binds:List (Str×Value)} {m:Str->Option Value},(∀ v,(x,v)∉binds)->bindL kindOf binds m x=m x
 | [],_,_=>rfl
 | (n,v)::r,m,h=>by
  unfold bindL;rw[lU fun w hw=>h w (List.mem_cons_of_mem _ hw)]
  split
  ·have:x≠n:=by rintro rfl;exact h v List.mem_cons_self
   simp[this]
  ·rfl
theorem lV{kindOf:Str->Option NameKind}{x:Str}:∀ {binds:List (Str×Value)} {m:Str->Option Value},(∀ v,(x,v)∉binds)->bindC kindOf binds m x=m x
 | [],_,_=>rfl
 | (n,v)::r,m,h=>by
  unfold bindC;rw[lV fun w hw=>h w (List.mem_cons_of_mem _ hw)]
  split
  ·rfl
  ·have:x≠n:=by rintro rfl;exact h v List.mem_cons_self
   simp[this]
theorem lW{kindOf:Str->Option NameKind}{x:Str}{v:Value}:∀ {P:List Str} {vs:List Value} {i:Nat} {m:Str->Option Value},P.Nodup->P[i]?=some x->vs[i]?=some v->kindOf x=some .local ->
  bindL kindOf (P.zip vs) m x=some v
 | [],_,_,_,_,h,_,_=>by simp at h
 | _::_,[],_,_,_,_,h,_=>by simp at h
 | p::P,w::vs,0,m,nd,h1,h2,hk=>by
  simp at h1 h2;subst h1;subst h2
  show bindL kindOf ((p,w)::P.zip vs) m p=_
  unfold bindL;rw[lU fun v hv=>(List.nodup_cons.mp nd).1 (List.of_mem_zip hv).1,if_pos hk]
  simp
 | p::P,w::vs,i + 1,m,nd,h1,h2,hk=>by
  show bindL kindOf ((p,w)::P.zip vs) m x=_
  unfold bindL;exact lW (i:=i) (List.nodup_cons.mp nd).2 (by simpa using h1) (by simpa using h2) hk
theorem lX{kindOf:Str->Option NameKind}{x:Str}{v:Value}:∀ {P:List Str} {vs:List Value} {i:Nat} {m:Str->Option Value},P.Nodup->P[i]?=some x->vs[i]?=some v->kindOf x≠some .local ->
  bindC kindOf (P.zip vs) m x=some v
 | [],_,_,_,_,h,_,_=>by simp at h
 | _::_,[],_,_,_,_,h,_=>by simp at h
 | p::P,w::vs,0,m,nd,h1,h2,hk=>by
  simp at h1 h2;subst h1;subst h2
  show bindC kindOf ((p,w)::P.zip vs) m p=_
  unfold bindC;rw[lV fun v hv=>(List.nodup_cons.mp nd).1 (List.of_mem_zip hv).1,if_neg hk]
  simp
 | p::P,w::vs,i + 1,m,nd,h1,h2,hk=>by
  show bindC kindOf ((p,w)::P.zip vs) m x=_
  unfold bindC;exact lX (i:=i) (List.nodup_cons.mp nd).2 (by simpa using h1) (by simpa using h2) hk
noncomputable def start(N:List Str)(vs:List V):St:=vs.map some++List.replicate (N.length - vs.length) none
noncomputable def oE(CX:ue)(P:Program)(w:World)(K:PySem.W.Frag)(mg:Str->Option Value)(base:Heap)(N:List Str)(qual:Str)(scope:Scope)(f:Addr)(cd:Value)(A:Around)(outer:List Env)(s:Shared)(H:Hp)(E:XK):Cx where
 prog:=P
 w:=w
 K:=K
 mg:=mg
 base:=base
 A:=A.deeper (envOfC qual scope s.heap.objs.size f cd)
 N:=N
 s₀:=s
 H₀:=H
 env:=envOfC qual scope s.heap.objs.size f cd
 outer:=outer
 stack:=envOfC qual scope s.heap.objs.size f cd::outer
 ex:=[]
 calm:=true
 fn:=fun _=>true
 pn:=[]
 xe:=fun e s'=>wpAny (model P w) (A.deeper (envOfC qual scope s.heap.objs.size f cd)) (leaving (envOfC qual scope s.heap.objs.size f cd) e) (fun _ s''=>CX outer H s E e s'') (fun e' s''=>CX outer H s E e' s'') s'
theorem oF{sc:Scope}{n:Nat}{x:Str}(h:sc.names.lookup x=some .cell):∃ c,(cellsFrom n sc.names []).lookup x=some c:=by
 have q:=PySem.W.cellsFrom_some sc.names n [] (.inl h);exact Option.isSome_iff_exists.mp q
theorem uf{CX:ue}{P:Program}{w:World}{K:PySem.W.Frag}{mg:Str->Option Value}{base:Heap}{N ps:List Str}{qual:Str}{scope:Scope}{f:Addr}{cd:Value}{A:Around}{outer:List Env}{s s1:Shared}{H:Hp}{E:XK}{us:List Value}{vs:List V}
  (S:jQ N ps scope) (hd:A.handled=none) (e0:qz P w K mg base A outer s H) (hl:vs.length=ps.length) (r:Vals vs us)
  (x:InCallC s s.heap.objs.size (bindL (envOfC qual scope s.heap.objs.size f cd).kindOf (ps.zip us) fun _=>none) (cellsFrom (s.heap.objs.size + 1) scope.names []) (bindC (envOfC qual scope s.heap.objs.size f cd).kindOf (ps.zip us) fun _=>none) s1) :
  Inv (oE CX P w K mg base N qual scope f cd A outer s H E) [] (start N vs) H s1:=by
 have hpl:ps.length<=N.length:=by have:=congrArg List.length S.pre;rw[List.length_take]at this;omega
 obtain⟨h1,tk,rfl,hk⟩:=x.done;have GK:∀ b:Addr,b∉(oE CX P w K mg base N qual scope f cd A outer s H E).ex:=fun b z=>absurd (show b∈([]:List Addr) from z) (by simp)
 refine⟨⟨e0.mod,S.kind,rfl,rfl,Nat.le_refl _,fun y z c h1 h2 => ?_,fun y hy => ?_,fun y c _ h => ?_,fun _=>hd,Around.frames_deeper e0.frames,.inr ⟨rfl,rfl⟩,fun b z=>absurd z (GK b),e0.bs,e0.Bv,fun b _ _=>GK b,fun b z=>absurd z (GK b),e0.jF,e0.CB⟩,
  rfl,e0.bare,Un.kept hk,⟨_,x.toInCall.ns,fun i y v h1 h2 h3 => ?_⟩,fun y c h=>⟨_,x.cell y c h⟩,e0.hok.fresh (Nat.le_refl _),fun y c h => ?_,fun p hp=>absurd (show p∈([]:List (Addr×Obj)) from hp) (by simp),e0.hok.kept hk,?_⟩
 ·exact name_of_addr x.apart (PySem.mem_of_lookup h1) (PySem.mem_of_lookup h2)
 ·have hy:scope.names.lookup y=some .cell\/scope.names.lookup y=some .free:=hy
  rcases hy with hy | hy
  ·exact oF hy
  ·exact absurd rfl (S.C9 _ (PySem.mem_of_lookup hy))
 ·exact Nat.le_of_lt (x.above y c (PySem.mem_of_lookup h))
 ·have hi:i < vs.length:=by
   unfold start at h2
   by_cases hi:i < vs.length
   ·exact hi
   ·rw[List.getElem?_append_right (by simpa using hi)]at h2
    rw[List.getElem?_replicate]at h2;split at h2<;>cases h2
  have ha:vs[i]?=some v:=by
   unfold start at h2;rw[List.getElem?_append_left (by simpa using hi),List.getElem?_map]at h2
   cases e:vs[i]? with
   | none=>rw[e]at h2;cases h2
   | some a=>rw[e]at h2;cases h2;rfl
  obtain⟨u,hu,rv⟩:=r.get ha
  have hp:ps[i]?=some y:=by
   rw[← S.pre,List.getElem?_take_of_lt (by omega)];exact h1
  have S_:ps.Nodup:=by rw[← S.pre];exact S.nd.sublist (List.take_sublist _ _)
  refine⟨u,rv,?_⟩;rcases S.par y (List.mem_of_getElem? hp) with k | k
  ·exact .inl ⟨k,lW S_ hp hu k⟩
  ·obtain⟨c,e⟩:=oF (n:=s.heap.objs.size + 1) k
   refine .inr ⟨.inl k,c,e,?_⟩;have q:=x.cell y c e;rw[lX S_ hp hu (by show scope.names.lookup y≠_;rw[k];decide)]at q
   exact q
 ·have hz:=e0.hok.fresh (Nat.le_of_lt (x.above y c (PySem.mem_of_lookup h)))
  exact⟨.inl hz,fun _=>hz⟩
 ·unfold start
  show _=N.length
  rw[List.length_append,List.length_map,List.length_replicate];omega
theorem BE{CX:ue}{P:Program}{w:World}{K:PySem.W.Frag}{mg:Str->Option Value}{base:Heap}{k:Nat}{f:Addr}{name qual:Str}{params:Arguments}{body:List Stmt}{scope:Scope}{dV kV doc pm cdv ct oc:Value}{an od:Option Addr}
  {osl:Array (Option Value)} {N ps:List Str} {sp:Sp} (lk:K.lookup f=some ⟨oc,od,.func (PySem.W.fnOf name qual params body scope dV kV doc pm an cdv ct),osl⟩) (hcd:PySem.W.codeIn K cdv qual=true) (S:jQ N ps scope)
  (len:∀ vs H Q E,sp vs H Q E->vs.length=ps.length)
  (hbody:∀ (A:Around) (outer:List Env) (s:Shared) (H:Hp) (vs:List V) (Q:VK) (E:XK),cD k (A.deeper (envOfC qual scope s.heap.objs.size f cdv))->sp vs H Q E ->
   ∃ t,jt (oE CX P w K mg base N qual scope f cdv A outer s H E) body t/\t { nx:=fun _ H'=>Q .non H',rt:=Q } (start N vs) H) :
  cU P w K mg base CX (k + 1) f (PySem.W.fnOf name qual params body scope dV kV doc pm an cdv ct) ps sp:=by
 refine⟨len,fun A outer s H args us vs Q E hr e0 hb r hsp => ?_⟩
 have hl:=len _ _ _ _ hsp;have KX:K.In s.heap:=e0.mod.Gp.keeps fun b o e=>(e0.bs b o e).1
 have lim:s.heap.NoLimit:=e0.mod.nolimit.keeps fun b o e=>(e0.bs b o e).1
 have hkind:∀ y∈ps.zip us,scope.names.lookup y.1=some .local\/(scope.names.lookup y.1=some .cell/\((cellsFrom (s.heap.objs.size + 1) scope.names []).lookup y.1).isSome=true):=fun ⟨n,v⟩ hy=>by
  rcases S.par n (List.of_mem_zip hy).1 with q | q
  ·exact .inl q
  ·exact .inr ⟨q,PySem.W.cellsFrom_some _ _ _ (.inl q)⟩
 refine codeAny_call_function hr.depth (KX _ _ lk) rfl S.co S.gen rfl (PySem.W.codeRec_of KX hcd) (hb _ _ _ _ ?_);refine wpAny_newFunctionEnv_cells S.kind hkind fun env he s1 x => ?_
 subst he;refine⟨lim.keeps x.toInCall.keep,codeAny_func ?_⟩;obtain⟨t,ht,hq⟩:=hbody A outer s H vs Q E (hr.deeper _) hsp;have I:Inv (oE CX P w K mg base N qual scope f cdv A outer s H E) [] (start N vs) H s1:=uf S hr.hd e0 hl r x;refine wpAny_mono (ht [] s1 (start N vs) H _ I hq) (fun fl s' hs => ?_) fun e s' hs=>hs
 have fin:∀ {σ':St} {H':Hp} {v:V} {u:Value},Inv (oE CX P w K mg base N qual scope f cdv A outer s H E) [] σ' H' s'->RelV v u->Q v H'->CE outer P w H s Q u s':=
  fun {σ' H' v u} J rv q=>⟨v,H',J.os,J.bare,J.base,J.hok,rv,q⟩
 cases fl with
 | ret u=>
  obtain⟨v,σ',H',J,rv,q⟩:=hs;exact fin J rv q
 | next=>
  obtain⟨σ',H',J,q⟩:=hs;exact fin (v:=V.non) (u:=Value.none) J rfl q
 | brk=>
  obtain⟨_,_,_,q⟩:=hs;exact False.elim q
 | cont=>
  obtain⟨_,_,_,q⟩:=hs;exact False.elim q
section
variable{X:Cx}{x:Str}{p pos:Pos}{e:Expr}{es:List Expr}{t:TA}{id T:String}{r:List V->Hp->VK->Prop}
noncomputable def Ta(r:List V->Hp->VK->Prop)(t:TA):TE:=fun σ H Q=>t σ H fun vs H1=>r vs H1 Q
theorem kj(hc:di X (.builtin id) r)(hg:Gl X x)(hm:X.mg x=none)(hv:bootBuiltins x=some (.builtin id))(ha:PA X (e::es) t)(hn:x≠"__name__":=by decide)(hdb:(x == ("__debug__":Str))=false:=by decide)
  (he:starEach (e::es) X.env=(false,eval e X.env)::starEach es X.env:=by rfl) (hpl:(backTo pos (starEach es X.env)).any (·.1)=false:=by rfl):PE X (.Call (.Name x p) (e::es) [] pos) (Ta r t):=by
 intro pins s σ H Q I h;refine wpAny_Call_Name_kw (ke I hg hm hv ?_ hn hdb);exact PyProof.Rows.callWith_builtin1 (cu (ha pos pins s σ H _ I h) fun us s1 ⟨vs,H1,I1,r1,q1⟩=>hc pins s1 σ H1 vs us Q I1 r1 q1) he hpl
theorem ug(hc:di X (.type T) r)(hg:Gl X x)(hm:X.mg x=none)(hv:bootBuiltins x=some (.type T))(ha:PA X (e::es) t)(hn:x≠"__name__":=by decide)(hdb:(x == ("__debug__":Str))=false:=by decide)
  (he:starEach (e::es) X.env=(false,eval e X.env)::starEach es X.env:=by rfl) (hpl:(backTo pos (starEach es X.env)).any (·.1)=false:=by rfl):PE X (.Call (.Name x p) (e::es) [] pos) (Ta r t):=by
 intro pins s σ H Q I h;refine wpAny_Call_Name_kw (ke I hg hm hv ?_ hn hdb);exact PyProof.Rows.callWith_type1 (cu (ha pos pins s σ H _ I h) fun us s1 ⟨vs,H1,I1,r1,q1⟩=>hc pins s1 σ H1 vs us Q I1 r1 q1) he hpl
end
end L2
namespace HT
open PySem PyProof.Rows
section
open PySem.SeqAt
open PySem.AutoSeq1 (wpAny_loadPart')
open PySem.MeetsSeq PySem.MeetsSeq2 PySem.MeetsSeq3
end
section
variable{prog:Program}{w:World}{A:Around}{E:Value->Shared->Prop}{s:Shared}
theorem yG{t b:Addr}{vs ws:List Value}{Q:Value->Shared->Prop}(ht:IsTup s.heap t vs.toArray)(hb:IsTup s.heap b ws.toArray)(hv:vs≠[])
  (h1:ws=[]->Q (.ref t) s) (h2:ws≠[]->Q (.ref s.heap.objs.size) { s with heap:=s.heap.push { cls:=.type "tuple",data:=.seq (vs++ws).toArray } })
  (hsz:vs.length + ws.length<=sizeLine):wpAny (model prog w) A (binaryOp .Add (.ref t) (.ref b)) Q E s:=by
 obtain⟨⟨cls,dd,data,sl⟩,ho,hc,n,hd⟩:=id ht;obtain⟨⟨cls2,dd2,data2,sl2⟩,ho2,hc2,n2,hd2⟩:=id hb;simp only at hc hd hc2 hd2;subst hc hd hc2 hd2;have e:vs.toArray++ws.toArray=(vs++ws).toArray:=by simp
 by_cases hw:ws=[]
 ·exact concat_meets ⟨_,ho,rfl⟩ ⟨_,ho2,rfl⟩ noFill_tuple_add seq_tuple_add PySem.F.slot_tuple_add PySem.F.entry_tuple_add (PySem.F.args_tuple_add_2 _ _)
   (tuple_addW1 t b vs.toArray ws.toArray n n2 dd dd2 sl sl2 (by simpa using hv) (by simp[hw])) ⟨ho,ho2,h1 hw⟩
 ·refine concat_meets ⟨_,ho,rfl⟩ ⟨_,ho2,rfl⟩ noFill_tuple_add seq_tuple_add PySem.F.slot_tuple_add PySem.F.entry_tuple_add (PySem.F.args_tuple_add_2 _ _)
   (tuple_addW2 t b vs.toArray ws.toArray n n2 dd dd2 sl sl2 (by simpa using hv) (by simpa using hw) (by rw[List.size_toArray,List.size_toArray];exact hsz)) ⟨ho,ho2,?_⟩
  rw[e];exact h2 hw
noncomputable def cv(n d:Nat):Option Int->Nat
 | none=>d
 | some v=>if v < 0 then (v + (n:Int)).toNat else min v.toNat n
theorem oG(n d:Nat):cv n d none=d:=rfl
theorem jR(n d k:Nat):cv n d (some (k:Int))=min k n:=by
 show(if (k:Int) < 0 then ((k:Int) + (n:Int)).toNat else min (k:Int).toNat n)=min k n
 rw[if_neg (by omega),Int.toNat_natCast]
theorem m3(n d:Nat)(hd:d<=n)(o:Option Int):cv n d o<=n:=by
 cases o with
 | none=>exact hd
 | some v=>
  show(if v < 0 then (v + (n:Int)).toNat else min v.toNat n)<=n
  by_cases hv:v < 0
  ·rw[if_pos hv];omega
  ·rw[if_neg hv];exact Nat.min_le_right _ _
theorem rZ(v:Int)(n d:Nat):(if v < 0 then max (v + (n:Int)) 0 else min v (n:Int))=((cv n d (some v):Nat):Int):=by
 show(if v < 0 then max (v + (n:Int)) 0 else min v (n:Int))=(((if v < 0 then (v + (n:Int)).toNat else min v.toNat n):Nat):Int)
 by_cases hv:v < 0
 ·simp only[if_pos hv];omega
 ·simp only[if_neg hv];omega
theorem qA(lo hi:Option Int)(n:Nat):Builtin.Slice.sliceAdjust lo hi 1 (n:Int)=(((cv n 0 lo:Nat):Int),((cv n n hi:Nat):Int)):=by
 have h1:¬ ((1:Int) < 0):=by omega
 unfold Builtin.Slice.sliceAdjust;simp only[h1,if_false];refine Prod.ext ?_ ?_
 ·cases lo with
  | none=>rfl
  | some v=>exact rZ v n 0
 ·cases hi with
  | none=>rfl
  | some v=>exact rZ v n n
theorem qB(i j:Nat):Builtin.Slice.slicePlaces (i:Int) (j:Int) 1=j - i:=by
 unfold Builtin.Slice.slicePlaces;have h1:(1:Int) > 0:=by omega
 simp only[h1,if_true,Int.ediv_one];split<;>omega
theorem km{v:Value}{o:Option Int}{Q:Option Int->Shared->Prop}(p:IsPart v o)(h:Q o s):wpAny (model prog w) A (Builtin.Slice.slicePartIndex v) Q E s:=by
 cases p with
 | none=>exact slicePart_none h
 | int i t=>exact slicePart_int h
theorem fu{sl:Addr}{vl vu:Value}{lo hi:Option Int}{n:Nat}{Q:Int×Int×Nat->Shared->Prop}(hs:s.heap.IsSliceOf sl vl vu .none)(pl:IsPart vl lo)(pu:IsPart vu hi)
  (h:Q (((cv n 0 lo:Nat):Int),1,cv n n hi - cv n 0 lo) s):wpAny (model prog w) A (Builtin.Slice.sliceApplied (.ref sl) (pure (n:Int))) Q E s:=by
 obtain⟨os,hos,hcs,hds⟩:=id hs;unfold Builtin.Slice.sliceApplied Builtin.Slice.sliceFields;refine wpAny_bind (wpAny_bind (wpAny_field hos hds (x:=vl) rfl (wpAny_bind (wpAny_field hos hds (x:=vu) rfl (wpAny_bind (wpAny_field hos hds (x:=.none) rfl (wpAny_pure ?_)))))));refine wpAny_bind (slicePart_none ?_)
 show wpAny _ _ (if ((1:Int) == 0)=true then _ else _) _ _ s
 rw[if_neg (by decide)]
 refine wpAny_bind (km pl (wpAny_bind (km pu (wpAny_bind (wpAny_pure ?_)))))
 show wpAny _ _ (match Builtin.Slice.sliceAdjust lo hi 1 (n:Int) with | (lo,hi)=>pure (lo,(1:Int),Builtin.Slice.slicePlaces lo hi 1)) _ _ s
 rw[qA lo hi n]
 show wpAny _ _ (pure (((cv n 0 lo:Nat):Int),(1:Int),Builtin.Slice.slicePlaces ((cv n 0 lo:Nat):Int) ((cv n n hi:Nat):Int) 1)) _ _ s
 rw[qB];exact wpAny_pure h
theorem vH(xs:Array Value)(i k:Nat):((List.range k).filterMap fun (m:Nat)=>xs[((i:Int) + (m:Int) * 1).toNat]?).toArray=((xs.toList.drop i).take k).toArray:=by
 have e:(fun (m:Nat)=>xs[((i:Int) + (m:Int) * 1).toNat]?)=fun m=>xs[i + m]?:=by
  funext m
  have:((i:Int) + (m:Int) * 1).toNat=i + m:=by omega
  rw[this]
 rw[e];have:=pick_run xs i k;rw[List.filterMap_map]at this;have e2:((fun x=>xs[x]?) ∘ fun x=>i + x)=fun m=>xs[i + m]?:=rfl
 rw[e2]at this;rw[this]
theorem iD{t sl:Addr}{items:Array Value}{vl vu:Value}{lo hi:Option Int}{Q:Value->Shared->Prop}(ht:IsTup s.heap t items)(hs:s.heap.IsSliceOf sl vl vu .none)(pl:IsPart vl lo)(pu:IsPart vu hi)
  (hw:¬ (cv items.size 0 lo=0/\cv items.size items.size hi=items.size))
  (h:Q (.ref s.heap.objs.size) { s with heap:=s.heap.push { cls:=.type "tuple",data:=.seq ((items.toList.drop (cv items.size 0 lo)).take (cv items.size items.size hi - cv items.size 0 lo)).toArray } })
  (hsz:items.size<=sizeLine):wpAny (model prog w) A (getItem (.ref t) (.ref sl)) Q E s:=by
 have r_:sizeOk (.seq ((items.toList.drop (cv items.size 0 lo)).take (cv items.size items.size hi - cv items.size 0 lo)).toArray):=by
  show((items.toList.drop (cv items.size 0 lo)).take (cv items.size items.size hi - cv items.size 0 lo)).toArray.size<=sizeLine
  rw[List.size_toArray,List.length_take,List.length_drop,Array.length_toList];omega
 have hj:cv items.size items.size hi<=items.size:=m3 _ _ (Nat.le_refl _) hi;obtain⟨os,hos,hcs,hds⟩:=id hs;have hTs:s.TypeIs (.ref sl) "slice":=⟨os,hos,hcs⟩;unfold getItem
 try with_reducible refine wpAny_holding ?_
 first | refine wpAny_bind (wpAny_pure ?_) | skip
 refine wpAny_bind (wpAny_sequenceKey ht.typeIs (by decide) ?_)
 refine wpAny_bind (wpAny_callSpecial?_slot (name:=Str.ofString "__getitem__") ht.typeIs PyProof.Rows.slot_tuple_getitem
  (wpAny_call_entry PyProof.Rows.slot_tuple_getitem ht.typeIs entry_tuple_getitem ?_ (args_tuple_getitem _ _)))
 show wpAny _ _ (Builtin.Tuple.tupleItemsOf (.ref t) >>= _) _ _ s
 refine wpAny_bind (tupleItemsOf_ ht ?_);refine wpAny_bind (wpAny_typeOf hTs ?_);rw[if_pos (by decide)]
 refine wpAny_bind (fu hs pl pu ?_)
 have hno:¬ ((((cv items.size 0 lo:Nat):Int) == 0 && (1:Int) == 1 && (cv items.size items.size hi - cv items.size 0 lo) == items.size)=true):=by
  intro q;rw[Bool.and_eq_true,Bool.and_eq_true]at q;have q1:((cv items.size 0 lo:Nat):Int)=0:=eq_of_beq q.1.1;have q2:cv items.size items.size hi - cv items.size 0 lo=items.size:=eq_of_beq q.2;exact hw ⟨by omega,by omega⟩
 show wpAny _ _ (if (((cv items.size 0 lo:Nat):Int) == 0 && (1:Int) == 1 && (cv items.size items.size hi - cv items.size 0 lo) == items.size)=true then _ else _) _ _ s
 rw[if_neg hno,vH]
 first
  | exact wpAny_bind (m:=Builtin.Tuple.tupleExact _) (wpAny_newObj_type (wpAny_pure ⟨_,rfl,wpAny_pure h⟩) r_)
  | exact wpAny_bind (m:=Builtin.Tuple.tupleExact _) (wpAny_newObj_type (wpAny_bind (wpAny_pure (wpAny_pure ⟨_,rfl,wpAny_pure h⟩))) r_)
  | exact wpAny_bind (wpAny_bind (m:=Builtin.Tuple.tupleExact _) (wpAny_newObj_type (wpAny_pure (wpAny_pure ⟨_,rfl,wpAny_pure h⟩)) r_))
  | exact wpAny_bind (wpAny_bind (m:=Builtin.Tuple.tupleExact _) (wpAny_newObj_type (wpAny_pure ⟨_,rfl,wpAny_pure h⟩) r_))
end
end HT
namespace L2
open PySem PySem.Spec PyProof.Rows
abbrev TO:=St->Hp->(Option Int->Hp->Prop)->Prop
def PO(X:Cx)(e:Option Expr)(t:TO):Prop:=
 ∀ (pins:List (Addr×Obj)) (s:Shared) (σ:St) (H:Hp) (Q:Option Int->Hp->Prop),Inv X pins σ H s->t σ H Q ->
  wpAny (model X.prog X.w) X.A (evalPart e X.env) (fun u s'=>∃ o H',Inv X pins σ H' s'/\IsPart u o/\Q o H') X.xe s
noncomputable def sd:TO:=fun _ H Q=>Q none H
noncomputable def GL(t:TE):TO:=fun σ H Q=>t σ H fun x H1=>∃ i,x=.int i/\Q (some i) H1
section
variable{X:Cx}{e:Expr}{te:TE}{lo hi:Option Expr}{tl th:TO}{pos p2:Pos}
theorem yH:PO X none sd:=by
 intro pins s σ H Q I h;rw[evalPart_none];exact wpAny_pure ⟨none,H,I,.none,h⟩
theorem yI(h:PE X e te):PO X (some e) (GL te):=by
 intro pins s σ H Q I hw;rw[evalPart_some];refine cu (h pins s σ H _ I hw) fun u s1 ⟨x,H1,I1,r1,q1⟩ => ?_
 obtain⟨i,rfl,q⟩:=q1;obtain⟨t,rfl⟩:=r1;exact⟨some i,H1,I1,.int i t,q⟩
def yJ(X:Cx)(r:V->Option Int->Option Int->Hp->VK->Prop):Prop:=
 ∀ (pins:List (Addr×Obj)) (s:Shared) (σ:St) (H:Hp) (x:V) (v vl vu:Value) (lo hi:Option Int) (sl:Addr) (Q:VK),Inv X pins σ H s->RelV x v->s.heap.IsSliceOf sl vl vu .none->IsPart vl lo->IsPart vu hi->r x lo hi H Q ->
  ∃ T id,typeLookup (.type T) "__getitem__"=pure (some (.builtin id))/\s.TypeIs v T/\wpAny (model X.prog X.w) X.A (getItem v (.ref sl)) (EP X pins σ Q) X.xe s
theorem yJ.or{r r':V->Option Int->Option Int->Hp->VK->Prop}(h:yJ X r)(h':yJ X r'):yJ X (fun x lo hi H Q=>r x lo hi H Q\/r' x lo hi H Q):=by
 intro pins s σ H x v vl vu lo hi sl Q I rx hs pl pu q;rcases q with q | q
 ·exact h pins s σ H x v vl vu lo hi sl Q I rx hs pl pu q
 ·exact h' pins s σ H x v vl vu lo hi sl Q I rx hs pl pu q
noncomputable def VZ(r:V->Option Int->Option Int->Hp->VK->Prop)(te:TE)(tl th:TO):TE:=fun σ H Q=>te σ H fun x H1=>tl σ H1 fun l H2=>th σ H2 fun u H3=>r x l u H3 Q
theorem gq{r:V->Option Int->Option Int->Hp->VK->Prop}(hr:yJ X r)(he:PE X e te)(hl:PO X lo tl)(hu:PO X hi th):PE X (.Subscript e (.Slice lo hi none p2) pos) (VZ r te tl th):=by
 intro pins s σ H Q I h;refine Subscript_ (cu (he pins s σ H _ I h) fun v s1 ⟨x,H1,I1,r1,q1⟩ => ?_)
 refine wpAny_Slice (cu (hl pins s1 σ H1 _ I1 q1) fun vl s2 ⟨l,H2,I2,pl,q2⟩=>cu (hu pins s2 σ H2 _ I2 q2) fun vu s3 ⟨u,H3,I3,pu,q3⟩ => ?_)
 rw[evalPart_none];refine wpAny_pure ?_;have I4:Inv X pins σ H3 { s3 with heap:=s3.heap.push { cls:=.type "slice",data:=.fields #[vl,vu,.none] } }:=I3.kept (t':=s3.toks) fun b ob q=>Heap.get?_push_of_some _ q
 obtain⟨T,id,hT,ht,hg⟩:=hr pins { s3 with heap:=s3.heap.push { cls:=.type "slice",data:=.fields #[vl,vu,.none] } } σ H3 x v vl vu l u s3.heap.objs.size Q I4 r1 (Heap.IsSliceOf.new ..) pl pu q3
 show wpAny (model X.prog X.w) X.A (subscriptTail e (.Slice lo hi none p2) v (.ref s3.heap.objs.size)) (EP X pins σ Q) X.xe { s3 with heap:=s3.heap.push { cls:=.type "slice",data:=.fields #[vl,vu,.none] } }
 exact tail_any (ops:=[.ref s3.heap.objs.size,v]) ht hT hg (by with_unfolding_all rfl)
def oH(xs:List V)(lo hi:Option Int):List V:=(xs.drop (HT.cv xs.length 0 lo)).take (HT.cv xs.length xs.length hi - HT.cv xs.length 0 lo)
theorem jw(xs:List V)(lo hi:Option Int):(oH xs lo hi).length<=xs.length:=by
 unfold oH;rw[List.length_take,List.length_drop];omega
def GN(K:PySem.W.Frag):V->Option Int->Option Int->Hp->VK->Prop:=fun x lo hi H Q=>∃ a xs,x=.ref a/\f_ K H a xs /\
 ¬ (HT.cv xs.length 0 lo=0/\HT.cv xs.length xs.length hi=xs.length)/\∀ p,H p=none->Q (.ref p) (upd H p (.tup (oH xs lo hi)))
theorem kn:yJ X (GN X.K):=by
 intro pins s σ H x v vl vu lo hi sl Q I rx hs pl pu h;obtain⟨a,xs,rfl,hx,hw,q⟩:=h;cases rx;obtain⟨its,r,ht,hz⟩:=I.tuple hx;have hlen:its.toArray.size=xs.length:=by rw[List.size_toArray];exact r.length.symm
 refine⟨"tuple",_,PyProof.Rows.slot_tuple_getitem.lookup,ht.typeIs,?_⟩;refine HT.iD ht hs pl pu (by rw[hlen];exact hw) ?_ (by rw[hlen];exact hz)
 rw[hlen];refine⟨.ref s.heap.objs.size,_,I.laid (t':=s.toks) (o:=.tup (oH xs lo hi)) (fun b ob q=>Heap.get?_push_of_some _ q) (Nat.le_refl _) ?_,rfl,q _ (I.hok.fresh (Nat.le_refl _))⟩
 exact⟨Nat.le_trans (jw xs lo hi) hz,_,(r.drop (HT.cv xs.length 0 lo)).take (HT.cv xs.length xs.length hi - HT.cv xs.length 0 lo),IsTup.new _ _⟩
def BF(K:PySem.W.Frag):R2:=fun x y H Q=>∃ a b xs ys,x=.ref a/\y=.ref b/\f_ K H a xs/\f_ K H b ys/\xs≠[]/\xs.length + ys.length<=sizeLine /\
 (ys=[]->Q (.ref a) H)/\(ys≠[]->∀ p,H p=none->Q (.ref p) (upd H p (.tup (xs++ys))))
theorem Vals.m4{xs:List V}{us:List Value}(r:Vals xs us):us=[]↔xs=[]:=by
 cases r with
 | nil=>simp
 | cons _ _=>simp
theorem yK:gf X (binaryOp .Add) (BF X.K):=by
 intro pins s σ H x y v u Q I rx ry h;obtain⟨a,b,xs,ys,rfl,rfl,ha,hb,hx,hz,q1,q2⟩:=h;cases rx;cases ry;obtain⟨its,r1,p1,_⟩:=I.tuple ha;obtain⟨its2,r2,p2,_⟩:=I.tuple hb;refine HT.yG p1 p2 (fun z=>hx (r1.m4.mp z)) (fun z=>⟨.ref a,H,I,rfl,q1 (r2.m4.mp z)⟩) (fun z => ?_) (by rw[← r1.length,← r2.length];exact hz)
 refine⟨.ref s.heap.objs.size,_,I.laid (t':=s.toks) (o:=.tup (xs++ys)) (fun b ob q=>Heap.get?_push_of_some _ q) (Nat.le_refl _) ?_,rfl,q2 (fun w=>z (r2.m4.mpr w)) _ (I.hok.fresh (Nat.le_refl _))⟩
 exact⟨by rw[List.length_append];exact hz,_,r1.append r2,IsTup.new _ _⟩
end
noncomputable def vI(n:Nat)(i:Int):Option Nat:=if 0<=i then (if i < n then some i.toNat else none) else if -(n:Int)<=i then some (i + n).toNat else none
def jH{α:Type}(xs:List α)(i:Int):Option α:=(vI xs.length i).bind fun j=>xs[j]?
theorem sg{n:Nat}{i:Int}{j:Nat}(h:vI n i=some j):seqIndex? i n=some j/\j < n /\ -(n:Int)<=i/\i < n:=by
 unfold vI at h
 by_cases h0:0<=i
 ·rw[if_pos h0]at h
  by_cases h1:i < n
  ·rw[if_pos h1]at h
   have e:i.toNat=j:=Option.some.inj h;exact⟨by rw[seqIndex_of h0 h1,e],by omega,by omega,h1⟩
  ·rw[if_neg h1]at h;cases h
 ·rw[if_neg h0]at h
  by_cases h1 : -(n:Int)<=i
  ·rw[if_pos h1]at h
   have e:(i + n).toNat=j:=Option.some.inj h;exact⟨by rw[seqIndex_neg (by omega) h1,e],by omega,h1,by omega⟩
  ·rw[if_neg h1]at h;cases h
theorem m5{α:Type}{xs:List α}{i:Int}{v:α}(h:jH xs i=some v):∃ j,seqIndex? i xs.length=some j/\xs[j]?=some v/\j < xs.length /\ -(xs.length:Int)<=i/\i < xs.length:=by
 unfold jH at h;cases e:vI xs.length i with
 | none=>rw[e]at h;cases h
 | some j=>
  rw[e]at h;obtain⟨h1,h2,h3,h4⟩:=sg e;exact⟨j,h1,h,h2,h3,h4⟩
theorem dm{α:Type}{xs:List α}{j:Nat}{v:α}(h:xs[j]?=some v):jH xs (j:Int)=some v:=by
 have hj:j < xs.length:=(List.getElem?_eq_some_iff.mp h).1
 have e:vI xs.length (j:Int)=some j:=by
  unfold vI;rw[if_pos (by omega),if_pos (by omega)];simp
 unfold jH;rw[e];exact h
def sh(b:Expr):Prop:=∀ o i,subscripted b false o i=operate [o,i] (getItem o i)
def yL(X:Cx)(r:R2):Prop:=
 ∀ (value slice:Expr) (pins:List (Addr×Obj)) (s:Shared) (σ:St) (H:Hp) (x y:V) (v u:Value) (Q:VK),Inv X pins σ H s->RelV x v->RelV y u->r x y H Q ->
  subscripted slice false v u=operate [v,u] (getItem v u)->wpAny (model X.prog X.w) X.A (subscriptTail value slice v u) (EP X pins σ Q) X.xe s
def FX(X:Cx)(id:String)(r:V->List V->Hp->VK->Prop):Prop:=
 ∀ (pins:List (Addr×Obj)) (s:Shared) (σ:St) (H:Hp) (x:V) (xs:List V) (v:Value) (us:List Value) (Q:VK),Inv X pins σ H s->RelV x v->Vals xs us->r x xs H Q ->
  wpAny (model X.prog X.w) X.A (call (.builtin id) (v::us)) (EP X pins σ Q) X.xe s
section
variable{X:Cx}{a b:Expr}{ta tb:TE}{pos:Pos}
theorem yL.or{r r':R2}(h:yL X r)(h':yL X r'):yL X (fun x y H Q=>r x y H Q\/r' x y H Q):=by
 intro value slice pins s σ H x y v u Q I rx ry q hs;rcases q with q | q
 ·exact h value slice pins s σ H x y v u Q I rx ry q hs
 ·exact h' value slice pins s σ H x y v u Q I rx ry q hs
theorem BG{r:R2}(hr:yL X r)(ha:PE X a ta)(hb:PE X b tb)(hs:sh b):PE X (.Subscript a b pos) (FW r ta tb):=by
 intro pins s σ H Q I h;exact Subscript_ (CV ha hb I h fun v u s2 x y H2 I2 rx ry q=>hr a b pins s2 σ H2 x y v u Q I2 rx ry q (hs _ _))
def GO(K:PySem.W.Frag):R2:=fun x y H Q=>∃ p xs i v,x=.ref p/\y=.int i/\jO K H p xs/\jH xs i=some v/\Q v H
def GP(K:PySem.W.Frag):R2:=fun x y H Q=>∃ p xs i v,x=.ref p/\y=.int i/\f_ K H p xs/\jH xs i=some v/\Q v H
def GQ:R2:=fun x y H Q=>∃ z i c,x=.str z/\y=.int i/\z.length<=sizeLine/\jH z.cps.toList i=some c/\Q (.str ⟨#[c]⟩) H
theorem yM:yL X (GO X.K):=by
 intro value slice pins s σ H x y v u Q I rx ry h hs;obtain⟨p,xs,i,z,rfl,rfl,hq,he,q⟩:=h;cases rx;obtain⟨t,rfl⟩:=ry;obtain⟨its,r,pl,hz⟩:=I.list hq;obtain⟨j,h1,h2,h3,h4,h5⟩:=m5 he;obtain⟨w,ew,p_⟩:=r.get h2;have hl:=r.length;have hn:=gn;have fin:EP X pins σ Q w s:=⟨z,H,I,p_,q⟩
 by_cases h0:0<=i
 ·have hj:i.toNat=j:=by
   rw[seqIndex_of h0 h5]at h1;exact Option.some.inj h1
  exact item_listR pl.isList h0 (by omega) (by rw[hj];simpa using ew) fin hs
 ·have hj:(i + (its.toArray.size:Int)).toNat=j:=by
   rw[seqIndex_neg (by omega) h4]at h1
   rw[List.size_toArray,← hl];exact Option.some.inj h1
  exact subscriptTail_builtinR (x:=w) pl.isList.typeIs slot_list_getitem.lookup
   (wpAny_getItem_list_neg (Q:=fun r s'=>r=w/\EP X pins σ Q r s') pl.isList (by omega) (by rw[List.size_toArray]<;>omega) (by omega) (by rw[hj];simpa using ew) ⟨rfl,fin⟩) hs
theorem C_:yL X (GP X.K):=by
 intro value slice pins s σ H x y v u Q I rx ry h hs;obtain⟨p,xs,i,z,rfl,rfl,hq,he,q⟩:=h;cases rx;obtain⟨t,rfl⟩:=ry;obtain⟨its,r,pl,hz⟩:=I.tuple hq;obtain⟨j,h1,h2,h3,h4,h5⟩:=m5 he;obtain⟨w,ew,p_⟩:=r.get h2;have hl:=r.length;have hn:=gn;have fin:EP X pins σ Q w s:=⟨z,H,I,p_,q⟩
 exact subscriptTail_builtinR (x:=w) pl.typeIs slot_tuple_getitem.lookup
  (getItem_tuple (j:=j) (Q:=fun r s'=>r=w/\EP X pins σ Q r s') pl (by omega) (by omega) (by rw[List.size_toArray,← hl];exact h1) (by simpa using ew) ⟨rfl,fin⟩) hs
theorem Dc:yL X GQ:=by
 intro value slice pins s σ H x y v u Q I rx ry h hs;obtain⟨z,i,c,rfl,rfl,hz,he,q⟩:=h;obtain⟨t,rfl⟩:=rx;obtain⟨t',rfl⟩:=ry;obtain⟨j,h1,h2,h3,h4,h5⟩:=m5 he;have hl:z.cps.toList.length=z.length:=by simp[Str.length]
 rw[hl]at h1 h4 h5;have hn:=gn
 exact tail_any (typeIs_str s z t) slot_str_getitem.lookup (getItem_str (c:=c) (by
  have e1:decide (i < -(2 ^ 63:Int))=false:=decide_eq_false (by omega)
  have e2:decide (i≥2 ^ 63)=false:=decide_eq_false (by omega)
  rw[e1,e2,Bool.or_false]) (by rw[h1];simpa using h2) ⟨.str ⟨#[c]⟩,H,I.tok _,⟨_,rfl⟩,q⟩) hs
def L4(K:PySem.W.Frag):R2:=fun x y H Q=>GO K x y H Q\/GP K x y H Q\/GQ x y H Q
theorem vJ:yL X (L4 X.K):=yM.or (C_.or Dc)
theorem qC(its:List Value)(n j:Nat)(u:Value):Obj.mapSeq (·.setIfInBounds j u) { cls:=.type "list",data:=.seq its.toArray n }={ cls:=.type "list",data:=.seq (its.set j u).toArray n }:=by
 simp[Obj.mapSeq]
theorem Inv.lst{pins:List (Addr×Obj)}{σ:St}{H:Hp}{s:Shared}{p:Addr}{xs:List V}(I:Inv X pins σ H s)(h:H p=some (.lst xs)) :
  ∃ (its:List Value) (n:Nat),Vals xs its/\s.heap.get? p=some { cls:=.type "list",data:=.seq its.toArray n }/\xs.length<=sizeLine:=by
 obtain⟨z,its,n,r,e⟩:=I.hok p _ h;exact⟨its,n,r,e,z⟩
theorem Inv.De{pins:List (Addr×Obj)}{σ:St}{H:Hp}{s:Shared}{p:Addr}{xs ys:List V}{its its':List Value}{n n':Nat}{f:Obj->Obj}(I:Inv X pins σ H s)(h:H p=some (.lst xs))
  (ho:s.heap.get? p=some { cls:=.type "list",data:=.seq its.toArray n }) (hf:f { cls:=.type "list",data:=.seq its.toArray n }={ cls:=.type "list",data:=.seq its'.toArray n' }) (r:Vals ys its') (hz:ys.length<=sizeLine) (t:Nat) :
  Inv X pins σ (upd H p (.lst ys)) { s with heap:=s.heap.update p f,toks:=t }:=by
 have e:(s.heap.update p f).get? p=some { cls:=.type "list",data:=.seq its'.toArray n' }:=by
  rw[Heap.get?_update_self f ho (by rw[hf]<;>rfl),hf]
 refine I.write (x:=p) (e:=p) (by rw[h];trivial) (.inl rfl) (fun b u hb q=>(Heap.get?_update_other _ _ (Ne.symm hb)).trans q) ⟨_,e⟩ ?_
 exact⟨hz,its',n',r,e⟩
def GR:V->V->V->Hp->(Hp->Prop)->Prop:=fun o i v H Q=>∃ p xs k j,o=.ref p/\i=.int k/\H p=some (.lst xs)/\vI xs.length k=some j/\Q (upd H p (.lst (xs.set j v)))
theorem set_list:N0 X GR:=by
 intro pins s σ H o i v ov iv u Q I ro ri rv h;obtain⟨p,xs,k,j,rfl,rfl,hp,hj,q⟩:=h;cases ro;obtain⟨t,rfl⟩:=ri;obtain⟨its,n,r,ho,hz⟩:=I.lst hp;obtain⟨h1,h2,h3,h4⟩:=sg hj;have hl:=r.length;have hn:=gn
 have I':Inv X pins σ (upd H p (.lst (xs.set j v))) { s with heap:=s.heap.update p (Obj.mapSeq (·.setIfInBounds j u)) }:=
  I.De hp ho (qC its n j u) (r.set rv j) (by rw[List.length_set];exact hz) s.toks
 by_cases h0:0<=k
 ·have hk:k.toNat=j:=by
   rw[seqIndex_of h0 h4]at h1;exact Option.some.inj h1
  exact PySem.W.ki_setAt ho h0 (by omega) (by rw[List.size_toArray,← hl];exact h4) (by rw[hk];exact⟨_,I',q⟩)
 ·have hk:(k + (its.toArray.size:Int)).toNat=j:=by
   rw[seqIndex_neg (by omega) h3]at h1
   rw[List.size_toArray,← hl];exact Option.some.inj h1
  exact PySem.W.ki_setBack ho (by omega) (by rw[List.size_toArray,← hl];exact h3) (by omega) (by rw[hk];exact⟨_,I',q⟩)
theorem m6(lo hi:Option Int)(n:Nat):(sliceBounds lo hi none n).1=((HT.cv n 0 lo:Nat):Int)/\(sliceBounds lo hi none n).2.1=((HT.cv n n hi:Nat):Int)/\(sliceBounds lo hi none n).2.2=1:=by
 refine⟨?_,?_,rfl⟩
 ·cases lo with
  | none=>simp[sliceBounds,HT.cv]
  | some i=>
   simp only[sliceBounds,HT.cv,Option.getD_none,show(1:Int) > 0 by decide,if_true]
   by_cases h:i < 0
   ·simp only[h,if_true]<;>omega
   ·simp only[h,if_false]<;>omega
 ·cases hi with
  | none=>simp[sliceBounds,HT.cv]
  | some i=>
   simp only[sliceBounds,HT.cv,Option.getD_none,show(1:Int) > 0 by decide,if_true]
   by_cases h:i < 0
   ·simp only[h,if_true]<;>omega
   ·simp only[h,if_false]<;>omega
theorem lI(its:List Value)(lo hi:Option Int):slicePick its.toArray lo hi none=((its.drop (HT.cv its.length 0 lo)).take (HT.cv its.length its.length hi - HT.cv its.length 0 lo)).toArray:=by
 obtain⟨h1,h2,h3⟩:=m6 lo hi its.toArray.size;unfold slicePick;rw[h1,h2,h3];simp only[sliceRange_one,pick_run,List.size_toArray]<;>rfl
def GS(K:PySem.W.Frag):V->Option Int->Option Int->Hp->VK->Prop:=fun x lo hi H Q=>∃ a xs,x=.ref a/\jO K H a xs/\∀ p,H p=none->Q (.ref p) (upd H p (.lst (oH xs lo hi)))
theorem iE:yJ X (GS X.K):=by
 intro pins s σ H x v vl vu lo hi sl Q I rx hs pl pu h;obtain⟨a,xs,rfl,hx,q⟩:=h;cases rx;obtain⟨its,r,ht,hz⟩:=I.list hx;have hlen:=r.length;refine⟨"list",_,slot_list_getitem.lookup,ht.isList.typeIs,?_⟩;refine wpAny_getItem_list_slice ht.isList hs pl pu .none (by simp) ?_ (by rw[List.size_toArray]<;>omega)
 rw[lI,← hlen];refine⟨.ref s.heap.objs.size,_,I.laid (t':=s.toks) (o:=.lst (oH xs lo hi)) (fun b ob q=>Heap.get?_push_of_some _ q) (Nat.le_refl _) ?_,rfl,q _ (I.hok.fresh (Nat.le_refl _))⟩
 exact⟨Nat.le_trans (jw xs lo hi) hz,_,0,(r.drop (HT.cv xs.length 0 lo)).take (HT.cv xs.length xs.length hi - HT.cv xs.length 0 lo),Heap.get?_push_size _ rfl⟩
theorem m8:di X (.builtin "len") (fun xs H Q=>∃ p ys,xs=[.ref p]/\(jO X.K H p ys\/f_ X.K H p ys)/\Q (.int ys.length) H):=by
 intro pins s σ H xs us Q I r h;obtain⟨p,ys,rfl,hq,q⟩:=h;obtain⟨u,rfl,rx⟩:=vals1 r;cases rx;have hn:=gn;rcases hq with hq | hq
 ·obtain⟨its,r',pl,hz⟩:=I.list hq
  have hlen:=r'.length;exact Calls.call_len_list pl.isList (by simp only[List.size_toArray]<;>omega) ⟨.int ys.length,H,I.tok _,⟨s.toks + 1,by rw[List.size_toArray,hlen]⟩,q⟩
 ·obtain⟨its,r',pl,hz⟩:=I.tuple hq
  have hlen:=r'.length;exact len_tuple pl (by simp only[List.size_toArray]<;>omega) ⟨.int ys.length,H,I.tok _,⟨s.toks + 1,by rw[List.size_toArray,hlen]⟩,q⟩
theorem m9:di X (.builtin "len") (fun xs H Q=>∃ z,xs=[.str z]/\z.length<=sizeLine/\Q (.int z.length) H):=by
 intro pins s σ H xs us Q I r h;obtain⟨z,rfl,hz,q⟩:=h;obtain⟨u,rfl,t,rfl⟩:=vals1 r;have hn:=gn;exact len_str (by omega) ⟨.int z.length,H,I.tok _,⟨_,rfl⟩,q⟩
theorem di.or{f:Value}{r r':List V->Hp->VK->Prop}(h:di X f r)(h':di X f r'):di X f (fun xs H Q=>r xs H Q\/r' xs H Q):=by
 intro pins s σ H xs us Q I rs q;rcases q with q | q
 ·exact h pins s σ H xs us Q I rs q
 ·exact h' pins s σ H xs us Q I rs q
theorem m_:di X (.type "list") (fun xs H Q=>∃ p ys,xs=[.ref p]/\(jO X.K H p ys\/f_ X.K H p ys)/\∀ l,H l=none->Q (.ref l) (upd H l (.lst ys))):=by
 intro pins s σ H xs us Q I r h;obtain⟨p,ys,rfl,hq,q⟩:=h;obtain⟨u,rfl,rx⟩:=vals1 r;cases rx
 have fin:∀ (its:List Value),Vals ys its->ys.length<=sizeLine->∀ (h':Heap) (c':Nat),(∀ b o',s.heap.get? b=some o'->h'.get? b=some o') ->
   h'.get? s.heap.objs.size=some { cls:=.type "list",dict:=none,data:=.seq its.toArray c',slots := #[] }->EP X pins σ Q (.ref s.heap.objs.size) { s with heap:=h' }:=fun its r' hz h' c' kp e=>
  ⟨.ref s.heap.objs.size,_,I.laid (t':=s.toks) kp (Nat.le_refl _) (show bJ X.prog X.w _ h' _ (.lst ys) from⟨hz,its,c',r',e⟩),rfl,q _ (I.hok.fresh (Nat.le_refl _))⟩
 rcases hq with hq | hq
 ·obtain⟨its,r',pl,hz⟩:=I.list hq
  have hlen:=r'.length;obtain⟨o,ho,hc,n,hd⟩:=pl.isList;exact call_list_seq p (.inl rfl) ho hc hd (fun h' c' kp e=>fin its r' hz h' c' kp e) (by simp only[List.size_toArray]<;>omega)
 ·obtain⟨its,r',pl,hz⟩:=I.tuple hq
  have hlen:=r'.length;obtain⟨o,ho,hc,n,hd⟩:=pl;exact call_list_seq p (.inr rfl) ho hc hd (fun h' c' kp e=>fin its r' hz h' c' kp e) (by simp only[List.size_toArray]<;>omega)
theorem lJ:di X (.type "tuple") (fun xs H Q=>∃ p ys,xs=[.ref p]/\((jO X.K H p ys/\∀ l,H l=none->Q (.ref l) (upd H l (.tup ys)))\/(f_ X.K H p ys/\Q (.ref p) H))):=by
 intro pins s σ H xs us Q I r h;obtain⟨p,ys,rfl,h⟩:=h;obtain⟨u,rfl,rx⟩:=vals1 r;cases rx;rcases h with ⟨hq,q⟩ | ⟨hq,q⟩
 ·obtain⟨its,r',pl,hz⟩:=I.list hq
  have hlen:=r'.length;refine call_tuple_list pl.isList (fun h' kp => ?_) (by simp only[List.size_toArray]<;>omega)
  have I1:Inv X pins σ H { s with heap:=h' }:=I.kept (t':=s.toks) kp
  have I2:Inv X pins σ (upd H h'.objs.size (.tup ys)) { s with heap:=h'.push { cls:=.type "tuple",data:=.seq its.toArray } }:=
   I1.laid (t':=s.toks) (fun b o e=>Heap.get?_push_of_some _ e) (Nat.le_refl _) (show bJ X.prog X.w _ _ _ (.tup ys) from⟨hz,its,r',IsTup.new _ _⟩)
  exact⟨.ref h'.objs.size,_,I2,rfl,q _ (I1.hok.fresh (Nat.le_refl _))⟩
 ·obtain⟨its,r',pl,hz⟩:=I.tuple hq
  exact call_tuple_same pl ⟨.ref p,H,I,rfl,q⟩
def Df(K:PySem.W.Frag)(T:String)(x:V)(H:Hp):Prop:=match x with
 | .str _=>T="str"
 | .int _=>T="int"
 | .ref p=>(T="list"/\∃ xs,jO K H p xs)\/(T="tuple"/\∃ o,K.lookup p=some o/\o.cls=.type "tuple"/\o.dict=none) \/
   (T="dict"/\((∃ kvs,H p=some (.dK kvs))\/∃ kvs,H p=some (.dT kvs)))\/(T="set"/\∃ S n,H p=some (.set S n))
 | _=>False
theorem vK{pins:List (Addr×Obj)}{σ:St}{H:Hp}{s:Shared}{T:String}{x:V}{v:Value}(I:Inv X pins σ H s)(r:RelV x v)(ty:Df X.K T x H) :
  s.TypeIs v T/\∀ a,v=.ref a->∃ ob,s.heap.get? a=some ob/\ob.dict=none:=by
 cases x with
 | str z=>
  obtain⟨t,rfl⟩:=r;cases (show T="str" from ty)
  exact⟨typeIs_str s z t,fun _ e=>nomatch e⟩
 | int i=>
  obtain⟨t,rfl⟩:=r;cases (show T="int" from ty)
  exact⟨typeIs_int s i t,fun _ e=>nomatch e⟩
 | ref p=>
  cases r;rcases ty with ⟨rfl,xs,hq⟩ | ⟨rfl,o,hk,hc,hd⟩ | ⟨rfl,hk⟩ | ⟨rfl,S,n,hk⟩
  ·obtain⟨its,_,pl,_⟩:=I.list hq
   refine⟨pl.isList.typeIs,fun a e => ?_⟩
   cases e;obtain⟨o,n,e,c,hd,_⟩:=pl;exact⟨o,e,hd⟩
  ·refine⟨⟨o,I.iy p o hk,hc⟩,fun a e => ?_⟩
   cases e;exact⟨o,I.iy _ o hk,hd⟩
  ·have z:∃ o,s.heap.get? p=some o/\o.ExactDict:=by
    rcases hk with ⟨kvs,hk⟩ | ⟨kvs,hk⟩
    ·obtain⟨_,_,_,_,o,_,_,e,ex,_⟩:=I.hok p _ hk
     exact⟨o,e,ex⟩
    ·obtain⟨_,_,_,_,o,_,_,e,ex,_⟩:=I.hok p _ hk
     exact⟨o,e,ex⟩
   obtain⟨o,e,ex⟩:=z;refine⟨⟨o,e,ex.1⟩,fun a e2 => ?_⟩
   cases e2;exact⟨o,e,ex.2.1⟩
  ·obtain⟨o,_,_,_,e,ex,_⟩:=I.hok p _ hk
   refine⟨⟨o,e,ex.1⟩,fun a e2 => ?_⟩
   cases e2;exact⟨o,e,ex.2.1⟩
 | _=>exact False.elim ty
noncomputable def N_(K:PySem.W.Frag)(T:String)(r:V->List V->Hp->VK->Prop)(to:TE):TE:=fun σ H Q=>to σ H fun x H1=>Df K T x H1/\r x [] H1 Q
noncomputable def V7(K:PySem.W.Frag)(T:String)(r:V->List V->Hp->VK->Prop)(to:TE)(t:TA):TE:=fun σ H Q=>to σ H fun x H1=>Df K T x H1/\t σ H1 fun xs H2=>r x xs H2 Q
variable{o e:Expr}{es:List Expr}{to:TE}{t:TA}{name:Str}{apos cpos:Pos}{T id:String}{r:V->List V->Hp->VK->Prop}
theorem Dg(pa:PlainAttrs T)(slot:Slot T name id)(hty:typeOf (.builtin id)=pure (.type "method_descriptor"))(hm:FX X id r)(ho:PE X o to)
  (hbase:attributeBase o name X.env (eval o X.env)=eval o X.env:=by rfl) (hline:(apos.endLine == cpos.line)=true:=by rfl):PE X (.Call (.Attribute o name apos) [] [] cpos) (N_ X.K T r to):=by
 intro pins s σ H Q I h;refine wpAny_Call_method0_late hbase hline (cu (ho pins s σ H _ I h) fun v s1 ⟨x,H1,I1,r1,ty,q1⟩ => ?_)
 obtain⟨h1,h2⟩:=vK I1 r1 ty;exact⟨T,id,pa,slot,hty,h1,h2,Calls.callWith_builtin rfl (PySem.evalArgs_none (hm pins s1 σ H1 x [] v [] Q I1 r1 .nil q1))⟩
theorem GU(pa:PlainAttrs T)(slot:Slot T name id)(hty:typeOf (.builtin id)=pure (.type "method_descriptor"))(hm:FX X id r)(ho:PE X o to)(ha:PA X (e::es) t)
  (hbase:attributeBase o name X.env (eval o X.env)=eval o X.env:=by rfl)
  (hfew:((backTo cpos (starEach (e::es) X.env)).all (fun x => !x.1) && (backToKw cpos (keywordEach [] X.env)).all (fun x=>x.1.isSome)
   && decide ((e::es).length + ([]:List Keyword).length + (if ([]:List Keyword).isEmpty then 0 else 1) < 30))=true:=by rfl)
  (hline:(apos.endLine == cpos.line)=true:=by rfl) (hs:starEach (e::es) X.env=(false,eval e X.env)::starEach es X.env:=by rfl) (hplain:(backTo cpos (starEach es X.env)).any (·.1)=false:=by rfl) :
  PE X (.Call (.Attribute o name apos) (e::es) [] cpos) (V7 X.K T r to t):=by
 intro pins s σ H Q I h;refine wpAny_Call_method_late hbase hfew hline rfl (cu (ho pins s σ H _ I h) fun v s1 ⟨x,H1,I1,r1,ty,q1⟩ => ?_)
 obtain⟨h1,h2⟩:=vK I1 r1 ty;refine⟨T,id,pa,slot,hty,h1,h2,?_⟩;have hA:=ha cpos pins s1 σ H1 _ I1 q1;rw[hs]at hA ⊢;refine Calls.callWith_builtin (by show(false || (backTo cpos (starEach es X.env)).any (·.1))=false;rw[hplain]<;>rfl) (Calls.evalArgs_plain ?_)
 exact cu hA fun us s2 ⟨vs,H2,I2,r2,q2⟩=>hm pins s2 σ H2 x vs v us Q I2 r1 r2 q2
end
def L5(X:Cx)(id:String)(r:V->List V->Hp->VK->Prop):Prop:=
 ∀ (pins:List (Addr×Obj)) (s:Shared) (σ:St) (H:Hp) (x:V) (xs:List V) (v:Value) (us:List Value) (Q:VK),Inv X pins σ H s->RelV x v->Vals xs us->r x xs H Q ->
  wpAny (model X.prog X.w) X.A (call (.builtin id) (v::us)) (EP X pins σ Q) X.xe s
theorem Vals.one:∀ {x:V} {us:List Value},Vals [x] us->∃ u,us=[u]/\RelV x u
 | _,_,.cons r .nil=>⟨_,rfl,r⟩
theorem Vals.two:∀ {x y:V} {us:List Value},Vals [x,y] us->∃ u v,us=[u,v]/\RelV x u/\RelV y v
 | _,_,_,.cons r (.cons q .nil)=>⟨_,_,rfl,r,q⟩
theorem Vals.zero:∀ {us:List Value},Vals [] us->us=[]
 | _,.nil=>rfl
theorem Vals.reverse{xs:List V}{us:List Value}(h:Vals xs us):Vals xs.reverse us.reverse:=by
 induction h with
 | nil=>exact .nil
 | cons r t ih=>rw[List.reverse_cons,List.reverse_cons];exact Vals.append ih (.cons r .nil)
section
variable{X:Cx}{pins:List (Addr×Obj)}{σ:St}{H:Hp}{s:Shared}{l b:Addr}{xs ys zs:List V}
theorem Inv.yN{its its':List Value}{n:Nat}{f:Array Value->Array Value}{t':Nat}(I:Inv X pins σ H s)(hH:H l=some (.lst xs))
  (e:s.heap.get? l=some { cls:=.type "list",data:=.seq its.toArray n }) (hf:f its.toArray=its'.toArray) (hv:Vals ys its') (hz:ys.length<=sizeLine) :
  Inv X pins σ (upd H l (.lst ys)) { s with heap:=s.heap.update l (Obj.mapSeq f),toks:=t' }:=by
 have q:=PySem.IsL.update e f;rw[hf]at q;refine I.write (x:=l) (e:=l) (by rw[hH];exact trivial) (.inl rfl) (fun b' u hb hu=>(Heap.get?_update_other s.heap (Obj.mapSeq f) (Ne.symm hb)).trans hu) ⟨_,q⟩ ?_
 exact⟨hz,its',_,hv,q⟩
theorem Inv.Oa{its:List Value}{t':Nat}(I:Inv X pins σ H s)(hv:Vals ys its)(hz:ys.length<=sizeLine) :
  Inv X pins σ (upd H s.heap.objs.size (.lst ys)) { s with heap:=s.heap.push { cls:=.type "list",data:=.seq its.toArray },toks:=t' }:=
 I.laid (fun _ _ q=>Heap.get?_push_of_some _ q) (Nat.le_refl _) ⟨hz,its,0,hv,Heap.get?_push_size _ rfl⟩
theorem Inv.fresh(I:Inv X pins σ H s):H s.heap.objs.size=none:=I.hok.fresh (Nat.le_refl _)
theorem Inv.vL(I:Inv X pins σ H s)(hH:H l=some (.lst xs)):xs.length<=sizeLine/\∃ (its:List Value) (n:Nat),Vals xs its/\xs.length=its.length/\s.heap.get? l=some { cls:=.type "list",data:=.seq its.toArray n }:=by
 obtain⟨z,its,n,r,e⟩:=I.hok l _ hH;exact⟨z,its,n,r,r.length,e⟩
theorem vM{n:Nat}(h:n<=sizeLine):Builtin.List.listTooLong n=false:=by
 unfold Builtin.List.listTooLong;exact decide_eq_false (by omega)
end
section
variable{X:Cx}
def sj:V->List V->Hp->VK->Prop:=fun x vs H Q=>∃ l xs y,x=.ref l/\vs=[y]/\H l=some (.lst xs)/\xs.length < sizeLine/\Q .non (upd H l (.lst (xs++[y])))
theorem lY:L5 X "list.append" sj:=by
 intro pins s σ H x vs v us Q I rx rv h;obtain⟨l,xs,y,rfl,rfl,hH,hz,q⟩:=h;cases rx;obtain⟨u,rfl,ru⟩:=rv.one;obtain⟨z,its,n,r,hl,e⟩:=I.vL hH;refine call_meets F.slot_list_append ⟨_,e,rfl⟩ F.entry_list_append (F.args_list_append_2 _ _) (PySem.list_append l its.toArray n u (by rw[List.size_toArray];omega)) ⟨e,?_⟩
 refine⟨.non,_,I.yN (its':=its++[u]) hH e (by simp) (r.append (.cons ru .nil)) ?_,rfl,q⟩
 rw[List.length_append,List.length_singleton];omega
def sk:V->List V->Hp->VK->Prop:=fun x vs H Q=>∃ l b xs zs,x=.ref l/\vs=[.ref b]/\H l=some (.lst xs)/\H b=some (.lst zs)/\xs.length + zs.length<=sizeLine/\Q .non (upd H l (.lst (xs++zs)))
theorem uh:L5 X "list.extend" sk:=by
 intro pins s σ H x vs v us Q I rx rv h;obtain⟨l,b,xs,zs,rfl,rfl,hH,hB,hz,q⟩:=h;cases rx;obtain⟨u,rfl,ru⟩:=rv.one;cases ru;obtain⟨z,its,n,r,hl,e⟩:=I.vL hH;obtain⟨z2,its2,n2,r2,hl2,e2⟩:=I.vL hB;have hsz:its.toArray.size + its2.toArray.size<=sizeLine:=by rw[List.size_toArray,List.size_toArray];omega
 have GV:¬ (!its.toArray.isEmpty && Builtin.List.listTooLong (its.toArray.size + its2.toArray.size))=true:=by
  rw[vM hsz,Bool.and_false];exact Bool.false_ne_true
 refine call_meets F.slot_list_extend ⟨_,e,rfl⟩ F.entry_list_extend (F.args_list_extend_2 _ _)
  (AutoSeq1.list_extend_list_list_0 l its.toArray n b its2.toArray n2 GV (by rw[List.size_toArray];omega) (by omega)) ⟨e,e2,?_⟩
 refine⟨.non,_,I.yN (its':=its++its2) hH e (by simp) (r.append r2) ?_,rfl,q⟩
 rw[List.length_append];omega
def oJ:V->List V->Hp->VK->Prop:=fun x vs H Q=>∃ l xs,x=.ref l/\vs=[]/\H l=some (.lst xs)/\Q .non (upd H l (.lst xs.reverse))
theorem qD:L5 X "list.reverse" oJ:=by
 intro pins s σ H x vs v us Q I rx rv h;obtain⟨l,xs,rfl,rfl,hH,q⟩:=h;cases rx;have hus:=rv.zero;subst hus;obtain⟨z,its,n,r,hl,e⟩:=I.vL hH;refine call_meets F.slot_list_reverse ⟨_,e,rfl⟩ F.entry_list_reverse (F.args_list_reverse_1 _) (AutoSeq1.list_reverse_list_0 l its.toArray n (by rw[List.size_toArray];omega)) ⟨e,?_⟩
 refine⟨.non,_,I.yN (its':=its.reverse) hH e (by simp) r.reverse ?_,rfl,q⟩
 rw[List.length_reverse];omega
end
section
variable{prog:Program}{w:World}{A:Around}{E:Value->Shared->Prop}{s:Shared}
end
section
variable{X:Cx}
end
section
variable{κ:Type}[DecidableEq κ]
noncomputable def iF(kvs:List (κ×V))(k:κ):Option V:=(kvs.find? fun kv=>decide (kv.1=k)).map (·.2)
noncomputable def putK(kvs:List (κ×V))(k:κ)(v:V):List (κ×V):=
 if (kvs.any fun kv=>decide (kv.1=k))=true then kvs.map (fun kv=>if kv.1=k then (kv.1,v) else kv) else kvs++[(k,v)]
theorem iG{p:κ×V}{r:List (κ×V)}{k:κ}(e:p.1=k):iF (p::r) k=some p.2:=by simp[iF,List.find?_cons,e]
theorem iH{p:κ×V}{r:List (κ×V)}{k:κ}(e:¬ p.1=k):iF (p::r) k=iF r k:=by simp[iF,List.find?_cons,e]
theorem oK(k:κ):∀ kvs:List (κ×V),(kvs.any fun kv=>decide (kv.1=k))=(iF kvs k).isSome
 | []=>rfl
 | p::r=>by
  rw[List.any_cons]
  by_cases e:p.1=k
  ·simp only[iG e,decide_eq_true e,Bool.true_or,Option.isSome_some]
  ·rw[iH e,decide_eq_false e,Bool.false_or];exact oK k r
theorem gu(kvs:List (κ×V))(k:κ)(v:V):(putK kvs k v).length<=kvs.length + 1:=by
 unfold putK;split
 ·rw[List.length_map];omega
 ·rw[List.length_append,List.length_cons,List.length_nil];omega
theorem f9.fv{o:Option V}{u:Option Value}(r:f9 o u):o.isSome=u.isSome:=by
 cases o with
 | none=>cases u with
  | none=>rfl
  | some _=>exact(show False from r).elim
 | some _=>cases u with
  | none=>exact(show False from r).elim
  | some _=>rfl
theorem f9.getD{o:Option V}{u:Option Value}{d:V}{d':Value}(r:f9 o u)(rd:RelV d d'):RelV (o.getD d) (u.getD d'):=by
 cases o with
 | none=>cases u with
  | none=>exact rd
  | some _=>exact(show False from r).elim
 | some _=>cases u with
  | none=>exact(show False from r).elim
  | some _=>exact r
theorem KV.val{kvs:List (κ×V)}{vs:List (κ×Value)}(r:KV kvs vs)(k:κ):f9 (iF kvs k) (valueAt vs k):=by
 unfold KV at r
 induction r with
 | nil=>exact True.intro
 | @cons p q ps qs h t ih=>
  obtain⟨h1,h2⟩:=h
  by_cases e:p.1=k
  ·have e':q.1=k:=h1.symm.trans e
   have b:valueAt (q::qs) k=some q.2:=by simp[valueAt,List.find?_cons,e']
   rw[iG e,b];exact h2
  ·have e':¬ q.1=k:=fun z=>e (h1.trans z)
   have b:valueAt (q::qs) k=valueAt qs k:=by simp[valueAt,List.find?_cons,e']
   rw[iH e,b];exact ih
theorem KV.any{kvs:List (κ×V)}{vs:List (κ×Value)}(r:KV kvs vs)(k:κ):(kvs.any fun kv=>decide (kv.1=k))=vs.any fun kv=>decide (kv.1=k):=by
 unfold KV at r
 induction r with
 | nil=>rfl
 | cons h t ih=>rw[List.any_cons,List.any_cons,ih,h.1]
theorem KV.repl{kvs:List (κ×V)}{vs:List (κ×Value)}(r:KV kvs vs)(k:κ){y:V}{u:Value}(ry:RelV y u) :
  KV (kvs.map fun kv=>if kv.1=k then (kv.1,y) else kv) (vs.map fun kv=>if kv.1=k then (kv.1,u) else kv):=by
 unfold KV at r ⊢
 induction r with
 | nil=>exact .nil
 | @cons p q ps qs h t ih=>
  rw[List.map_cons,List.map_cons];refine .cons ?_ ih;obtain⟨h1,h2⟩:=h
  by_cases e:p.1=k
  ·rw[if_pos e,if_pos (h1.symm.trans e)];exact⟨h1,ry⟩
  ·rw[if_neg e,if_neg (fun z=>e (h1.trans z))];exact⟨h1,h2⟩
theorem KV.put{kvs:List (κ×V)}{vs:List (κ×Value)}(r:KV kvs vs)(k:κ){y:V}{u:Value}(ry:RelV y u):KV (putK kvs k y) (stored vs k u):=by
 unfold putK stored;rw[r.any k]
 by_cases e:(vs.any fun kv=>decide (kv.1=k))=true
 ·rw[if_pos e,if_pos e];exact r.repl k ry
 ·rw[if_neg e,if_neg e];exact Paired.snoc r ⟨rfl,ry⟩
theorem KV.length{kvs:List (κ×V)}{vs:List (κ×Value)}(r:KV kvs vs):kvs.length=vs.length:=Paired.length r
end
theorem lZ{P:Program}{w:World}{k:Key}{u:Value}(r:RelV (kV k) u):(bz P w).is k u=true:=by
 cases k with
 | inl i=>obtain⟨t,e⟩:=(show ∃ t,u=Value.int i t from r);subst e;exact om P w i t
 | inr x=>obtain⟨t,e⟩:=(show ∃ t,u=Value.str x t from r);subst e;exact oo P w x t
theorem l9{P:Program}{w:World}:∀ {ks:List Key} {us:List Value},Vals (ks.map kV) us->ItemsAre (bz P w) ks us
 | [],_,r=>by rw[List.map_nil]at r;cases r;exact .nil
 | k::ks,_,r=>by
  rw[List.map_cons]at r;cases r with
  | cons h t=>exact .cons (lZ h) (l9 t)
abbrev KT(H:Hp):List (List Key×V)->List (List Key×Addr×Value)->Prop:=Paired fun p q=>p.1=q.1/\H q.2.1=some (.tup (p.1.map kV))/\RelV p.2 q.2.2
theorem KT.val{H:Hp}{kvs:List (List Key×V)}{xs:List (List Key×Addr×Value)}(r:KT H kvs xs)(k:List Key):f9 (iF kvs k) ((atKey xs k).map (·.2)):=by
 induction r with
 | nil=>exact True.intro
 | @cons p q ps qs h t ih=>
  obtain⟨h1,_,h2⟩:=h
  by_cases e:p.1=k
  ·have e':q.1=k:=h1.symm.trans e
   have b:atKey (q::qs) k=some q.2:=by simp[atKey,List.find?_cons,e']
   rw[iG e,b];exact h2
  ·have e':¬ q.1=k:=fun z=>e (h1.trans z)
   have b:atKey (q::qs) k=atKey qs k:=by simp[atKey,List.find?_cons,e']
   rw[iH e,b];exact ih
theorem KT.repl{H:Hp}{kvs:List (List Key×V)}{xs:List (List Key×Addr×Value)}(r:KT H kvs xs)(k:List Key){y:V}{u:Value}(ry:RelV y u) :
  KT H (kvs.map fun kv=>if kv.1=k then (kv.1,y) else kv) (xs.map (putAt k u)):=by
 induction r with
 | nil=>exact .nil
 | @cons p q ps qs h t ih=>
  rw[List.map_cons,List.map_cons];refine .cons ?_ ih;obtain⟨h1,h2,h3⟩:=h;unfold putAt
  by_cases e:p.1=k
  ·rw[if_pos e,if_pos (h1.symm.trans e)];exact⟨h1,h2,ry⟩
  ·rw[if_neg e,if_neg (fun z=>e (h1.trans z))];exact⟨h1,h2,h3⟩
theorem KT.put{H:Hp}{kvs:List (List Key×V)}{xs:List (List Key×Addr×Value)}(r:KT H kvs xs)(k:List Key){b:Addr}{y:V}{u:Value}(hb:H b=some (.tup (k.map kV)))(ry:RelV y u) :
  KT H (putK kvs k y) (storedH xs k b u):=by
 have e:(kvs.any fun kv=>decide (kv.1=k))=(atKey xs k).isSome:=by
  rw[oK,(r.val k).fv,Option.isSome_map]
 unfold putK storedH;rw[e]
 by_cases q:(atKey xs k).isSome=true
 ·rw[if_pos q,if_pos q];exact r.repl k ry
 ·rw[if_neg q,if_neg q];exact Paired.snoc r ⟨rfl,hb,ry⟩
theorem KT.keeps{H H':Hp}{kvs:List (List Key×V)}{xs:List (List Key×Addr×Value)}(r:KT H kvs xs)(ht:∀ b ys,H b=some (.tup ys)->H' b=some (.tup ys)):KT H' kvs xs:=
 Paired.CA r fun _ _ z=>⟨z.1,ht _ _ z.2.1,z.2.2⟩
section
variable{P:Program}{w:World}{H:Hp}{h:Heap}{a:Addr}
theorem vO{u:HO}(ok:ic P w H h)(e:Rd H a u):bJ P w H h a u:=e.ok ok
theorem iI{kvs:List (Key×V)}(ok:ic P w H h)(e:Rd H a (.dK kvs)):kvs.length<=sizeLine/\(a == sysModules)=false/\∃ vs,KV kvs vs/\h.DictOf (bz P w) a vs:=
 show bJ P w H h a (.dK kvs) from vO ok e
theorem GW{kvs:List (Key×V)}(ok:ic P w H h)(e:H a=some (.dK kvs)):kvs.length<=sizeLine/\(a == sysModules)=false/\∃ vs,KV kvs vs/\h.DictOf (bz P w) a vs:=iI ok (.inl e)
theorem ko{ks:List Key}(ok:ic P w H h)(e:H a=some (.tup (ks.map kV))):(tupleKind (bz P w)).is h ks a:=by
 obtain⟨_,its,r,o,h1,h2,n,h3⟩:=(show bJ P w H h a (.tup (ks.map kV)) from ok a _ e)
 exact⟨o,its.toArray,n,h1,h2,h3,by simpa using l9 r⟩
theorem l_{kvs:List (List Key×V)}(ok:ic P w H h)(e:Rd H a (.dT kvs)):kvs.length<=sizeLine/\(a == sysModules)=false /\
  ∃ xs,KT H kvs xs/\h.DictOfH (tupleKind (bz P w)) a xs:=by
 obtain⟨z,y,xs,r,o,es,ep,h1,h2,h3,h4,h5⟩:=(show bJ P w H h a (.dT kvs) from vO ok e)
 refine⟨z,y,xs,r,o,es,ep,h1,h2,h3,h4,fun x hx => ?_,h5⟩
 have all:∀ {l:List (List Key×V)} {m:List (List Key×Addr×Value)},KT H l m->∀ x∈m,(tupleKind (bz P w)).is h x.1 x.2.1:=by
  intro l m q
  induction q with
  | nil=>intro x hx;exact nomatch hx
  | @cons p q ps qs hq t ih=>
   intro x hx;rcases List.mem_cons.mp hx with e | hx
   ·subst e
    exact ko ok (by rw[← hq.1];exact hq.2.1)
   ·exact ih x hx
 exact all r x hx
theorem BH{kvs:List (List Key×V)}(ok:ic P w H h)(e:H a=some (.dT kvs)):kvs.length<=sizeLine/\(a == sysModules)=false /\
  ∃ xs,KT H kvs xs/\h.DictOfH (tupleKind (bz P w)) a xs:=l_ ok (.inl e)
end
def iJ(H:Hp)(a:Addr)(y:V)(r:Option V):Prop:=
 (∃ kvs k,Rd H a (.dK kvs)/\y=kV k/\r=iF kvs k)\/∃ kvs k b,Rd H a (.dT kvs)/\y=.ref b/\H b=some (.tup (k.map kV))/\r=iF kvs k
def oM(H:Hp)(a:Addr)(y v:V)(H':Hp):Prop:=
 (∃ kvs k,H a=some (.dK kvs)/\y=kV k/\kvs.length < sizeLine/\H'=upd H a (.dK (putK kvs k v))) \/
 ∃ kvs k b,H a=some (.dT kvs)/\y=.ref b/\H b=some (.tup (k.map kV))/\kvs.length < sizeLine/\H'=upd H a (.dT (putK kvs k v))
theorem iJ.k{H:Hp}{a:Addr}{kvs:List (Key×V)}{k:Key}(e:H a=some (.dK kvs)):iJ H a (kV k) (iF kvs k):=.inl ⟨kvs,k,.inl e,rfl,rfl⟩
theorem iJ.t{H:Hp}{a b:Addr}{kvs:List (List Key×V)}{k:List Key}(e:H a=some (.dT kvs))(eb:H b=some (.tup (k.map kV))):iJ H a (.ref b) (iF kvs k):=.inr ⟨kvs,k,b,.inl e,rfl,eb,rfl⟩
theorem oM.k{H:Hp}{a:Addr}{kvs:List (Key×V)}{k:Key}{v:V}(e:H a=some (.dK kvs))(hl:kvs.length < sizeLine):oM H a (kV k) v (upd H a (.dK (putK kvs k v))):=.inl ⟨kvs,k,e,rfl,hl,rfl⟩
theorem oM.t{H:Hp}{a b:Addr}{kvs:List (List Key×V)}{k:List Key}{v:V}(e:H a=some (.dT kvs))(eb:H b=some (.tup (k.map kV)))(hl:kvs.length < sizeLine) :
  oM H a (.ref b) v (upd H a (.dT (putK kvs k v))):=.inr ⟨kvs,k,b,e,rfl,eb,hl,rfl⟩
section
variable{X:Cx}{pins:List (Addr×Obj)}{σ:St}{H:Hp}{s:Shared}{a:Addr}{y v:V}{u r:Value}{o:Option V}{A:Around}{E:Value->Shared->Prop}
theorem Inv.big(I:Inv X pins σ H s):sysModules < s.heap.objs.size:=by
 have h:mainGlobals < s.heap.objs.size:=(I.mod.glob.keeps I.bk).lt;exact Nat.lt_trans (by decide) h
theorem ui{Q:Value->Shared->Prop}(hu:A.units + 1 < cLine)(I:Inv X pins σ H s)(g:iJ H a y (some v))(ry:RelV y u)(h:∀ w' s',Inv X pins σ H s'->RelV v w'->Q w' s') :
  wpAny (model X.prog X.w) A (getItem (.ref a) u) Q E s:=by
 rcases g with ⟨kvs,k,e,ey,l⟩ | ⟨kvs,k,b,e,ey,eb,l⟩
 ·subst ey
  obtain⟨z,hd,vs,rel,dd⟩:=iI I.hok e;obtain⟨w',hw,p_⟩:=f9.some_of (v:=v) (o:=valueAt vs k) (by rw[l];exact rel.val k)
  exact wpAny_getItem_of (lZ ry) dd.mapOf hw (h w' _ (I.tok _) p_)
 ·subst ey
  cases (show u=Value.ref b from ry)
  obtain⟨z,hd,xs,rel,dd⟩:=l_ I.hok e;obtain⟨w',hw,p_⟩:=f9.some_of (v:=v) (o:=(atKey xs k).map (·.2)) (by rw[l];exact rel.val k)
  obtain⟨p,hp,hp2⟩:=Option.map_eq_some_iff.mp hw;refine wpAny_getItem_heap (tupleKind_room_in1 hu) (ko I.hok eb) dd hp ?_;rw[hp2];exact h w' _ (I.tok _) p_
theorem Ob{Q:Value->Shared->Prop}(hu:A.units + 1 < cLine)(I:Inv X pins σ H s)(g:iJ H a y o)(ry:RelV y u)(h:∀ s',Inv X pins σ H s'->Q (.bool o.isSome) s') :
  wpAny (model X.prog X.w) A (compareOp .In u (.ref a)) Q E s:=by
 rcases g with ⟨kvs,k,e,ey,l⟩ | ⟨kvs,k,b,e,ey,eb,l⟩
 ·subst ey
  obtain⟨z,hd,vs,rel,dd⟩:=iI I.hok e;refine wpAny_in_of (lZ ry) hd dd.mapOf ?_;rw[← (rel.val k).fv,← l];exact h _ (I.tok _)
 ·subst ey
  cases (show u=Value.ref b from ry)
  obtain⟨z,hd,xs,rel,dd⟩:=l_ I.hok e;refine wpAny_in_heap (tupleKind_room_in1 hu) (ko I.hok eb) hd dd ?_;have q:=(rel.val k).fv;rw[Option.isSome_map]at q;rw[← q,← l];exact h _ (I.tok _)
theorem yO{Q:Value->Shared->Prop}(hu:A.units + 1 < cLine)(I:Inv X pins σ H s)(g:iJ H a y o)(ry:RelV y u)(h:∀ s',Inv X pins σ H s'->Q (.bool (!o.isSome)) s') :
  wpAny (model X.prog X.w) A (compareOp .NotIn u (.ref a)) Q E s:=by
 rcases g with ⟨kvs,k,e,ey,l⟩ | ⟨kvs,k,b,e,ey,eb,l⟩
 ·subst ey
  obtain⟨z,hd,vs,rel,dd⟩:=iI I.hok e;refine wpAny_notIn_of (lZ ry) hd dd.mapOf ?_;rw[← (rel.val k).fv,← l];exact h _ (I.tok _)
 ·subst ey
  cases (show u=Value.ref b from ry)
  obtain⟨z,hd,xs,rel,dd⟩:=l_ I.hok e;refine wpAny_notIn_heap (tupleKind_room_in1 hu) (ko I.hok eb) hd dd ?_;have q:=(rel.val k).fv;rw[Option.isSome_map]at q;rw[← q,← l];exact h _ (I.tok _)
theorem ng{h':Heap}{t':Nat}{ob:HO}(I:Inv X pins σ H s)(mu:Gm (H a))(hs:Heap.SameBut a s.heap h')(he:∃ q,h'.get? a=some q)(new:bJ X.prog X.w (upd H a ob) h' a ob) :
  Inv X pins σ (upd H a ob) { s with heap:=h',toks:=t' }:=
 I.write (x:=a) (e:=a) mu (.inl rfl) (fun b q hb z=>(hs.2 b hb).trans z) he new
theorem qE{P:Program}{w:World}{H':Hp}{h':Heap}{kvs:List (Key×V)}{vs:List (Key×Value)}(z:kvs.length<=sizeLine)(hd:(a == sysModules)=false)(rel:KV kvs vs)(dd:h'.DictOf (bz P w) a vs) :
  bJ P w H' h' a (.dK kvs):=⟨z,hd,vs,rel,dd⟩
theorem uj{H':Hp}{Q:Unit->Shared->Prop}(hu:A.units + 1 < cLine)(I:Inv X pins σ H s)(g:oM H a y v H')(ry:RelV y u)(rv:RelV v r)(h:∀ s',Inv X pins σ H' s'->Q () s') :
  wpAny (model X.prog X.w) A (setItem (.ref a) u r) Q E s:=by
 rcases g with ⟨kvs,k,e,ey,l,eH⟩ | ⟨kvs,k,b,e,ey,eb,l,eH⟩
 ·subst ey eH
  obtain⟨z,hd,vs,rel,dd⟩:=GW I.hok e;have hz:vs.length<=sizeLine:=by rw[← rel.length];exact z
  have hl:(putK kvs k v).length<=sizeLine:=by have:=gu kvs k v;omega
  refine wpAny_setItem_pairs (hsz:=hz) (lZ ry) dd fun h' FY hs=>h _ ?_
  have he:∃ q,h'.get? a=some q:=let ⟨q,_,_,hq,_⟩:=FY;⟨q,hq⟩
  exact ng I (by rw[e];exact True.intro) hs he (qE hl hd (rel.put k rv) FY)
 ·subst ey eH
  cases (show u=Value.ref b from ry)
  obtain⟨z,hd,xs,rel,dd⟩:=BH I.hok e;have hz:xs.length<=sizeLine:=by rw[← Paired.length rel];exact z
  have hl:(putK kvs k v).length<=sizeLine:=by have:=gu kvs k v;omega
  refine wpAny_setItem_heap (hsz:=hz) (tupleKind_room_in1 hu) (ko I.hok eb) dd fun h' FY hs=>h _ ?_
  obtain⟨q,es,ep,hq,h2,h3,h4,_,h5⟩:=FY;refine ng I (by rw[e];exact True.intro) hs ⟨q,hq⟩ ⟨hl,hd,_,(rel.put k eb rv).keeps fun c ys ec => ?_,q,es,ep,hq,h2,h3,h4,h5⟩
  rw[aF (Gk ec e (fun z=>nomatch z))]
  exact ec
end
section
variable{X:Cx}{pins:List (Addr×Obj)}{σ:St}{H:Hp}{s:Shared}{a:Addr}{kvs:List (Key×V)}{k:Key}{u:Value}{A:Around}{E:Value->Shared->Prop}
theorem GX{Q:Value->Shared->Prop}(I:Inv X pins σ H s)(e:Rd H a (.dK kvs))(h:∀ t s',Inv X pins σ H s'->Q (.int kvs.length t) s'):wpAny (model X.prog X.w) A (call (.builtin "len") [.ref a]) Q E s:=by
 obtain⟨z,hd,vs,rel,dd⟩:=iI I.hok e;refine call_len_dict hd dd (by rw[← rel.length];rw[sizeLine_eq]at z;omega) ?_
 rw[← rel.length];exact h _ _ (I.tok _)
end
def GY(i:Expr):Prop:=∀ ov iv,subscripted i false ov iv=operate [ov,iv] (getItem ov iv)
theorem yP{prog:Program}{w:World}{A:Around}{E:Value->Shared->Prop}{s:Shared}{env:Env}{value slice:Expr}{pos:Pos}{T id:String}{Q:Value->Shared->Prop}
  (hl:typeLookup (.type T) "__getitem__"=pure (some (.builtin id))) (hs:GY slice)
  (h:wpAny (model prog w) A (eval value env) (fun o s₁=>wpAny (model prog w) A (eval slice env) (fun i s₂=>s₂.TypeIs o T/\wpAny (model prog w) A (getItem o i) Q E s₂) E s₁) E s) :
  wpAny (model prog w) A (eval (.Subscript value slice pos) env) Q E s:=by
 refine Subscript_ (wpAny_mono h (fun o s₁ h₁=>wpAny_mono h₁ (fun i s₂ h₂ => ?_) fun _ _ x=>x) fun _ _ x=>x)
 obtain⟨hT,h₂⟩:=h₂;unfold subscriptTail;refine wpAny_bind ?_;rw[getitemInPython_of_ne hT.not_modules];refine wpAny_bind (wpAny_specialOf hT hl ?_)
 have fin:wpAny (model prog w) A (subscripted slice false o i) (fun r s₃=>wpAny (model prog w) A (letTemporaryGo value o r >>= fun _=>pure r) Q E s₃) E s₂:=by
  rw[hs o i];exact wpAny_operating (wpAny_mono h₂ (fun r s₃ h₃=>wpAny_bind (wpAny_letTemporaryGo (wpAny_pure h₃))) fun _ _ x=>x)
 first
  | exact wpAny_pure (wpAny_bind fin)
  | exact wpAny_bind (wpAny_pure (wpAny_bind fin))
  | exact wpAny_bind fin
theorem oN{X:Cx}{pins:List (Addr×Obj)}{σ:St}{H:Hp}{s:Shared}{a:Addr}{y:V}{o:Option V}(I:Inv X pins σ H s)(g:iJ H a y o):s.TypeIs (.ref a) "dict":=by
 rcases g with ⟨kvs,k,e,_,_⟩ | ⟨kvs,k,b,e,_,_,_⟩
 ·obtain⟨_,_,vs,_,dd⟩:=iI I.hok e
  exact dd.typeIs
 ·obtain⟨_,_,xs,_,dd⟩:=l_ I.hok e
  exact dd.typeIs
noncomputable def GZ(td ty:TE):TE:=fun σ H Q=>td σ H fun x H1=>ty σ H1 fun y H2=>∃ a v,x=.ref a/\iJ H2 a y (some v)/\Q v H2
section
variable{X:Cx}{o i e value:Expr}{pos pos' tpos:Pos}{td ty tv:TE}
theorem yQ(hu:X.A.units + 1 < cLine)(ho:PE X o td)(hi:PE X i ty)(hs:GY i):PE X (.Subscript o i pos) (GZ td ty):=by
 intro pins s σ H Q I h;refine yP PySem.F.slot_dict_getitem.lookup hs (cu (ho pins s σ H _ I h) fun u s1 ⟨x,H1,I1,rx,q1⟩=>cu (hi pins s1 σ H1 _ I1 q1) fun iv s2 ⟨y,H2,I2,ry,a,v,ex,g,q2⟩ => ?_)
 subst ex;obtain rfl:u=Value.ref a:=rx;exact⟨oN I2 g,ui hu I2 g ry fun w' s3 I3 p_=>⟨v,H2,I3,p_,q2⟩⟩
end
theorem vP{P:Program}{w:World}{H:Hp}(h:Heap)(hb:sysModules < h.objs.size):bJ P w H (h.push { cls:=.type "dict",data:=.dict #[] }) h.objs.size (.dK []):=
 ⟨Nat.zero_le _,beq_eq_false_iff_ne.mpr (Ne.symm (Nat.ne_of_lt hb)),[],.nil,Heap.DictOf.new h⟩
theorem vQ{P:Program}{w:World}{H:Hp}(h:Heap)(hb:sysModules < h.objs.size):bJ P w H (h.push { cls:=.type "dict",data:=.dict #[] }) h.objs.size (.dT []):=
 ⟨Nat.zero_le _,beq_eq_false_iff_ne.mpr (Ne.symm (Nat.ne_of_lt hb)),[],.nil,_,#[],0,Heap.get?_push_size _ rfl,⟨rfl,rfl,rfl⟩,rfl,rfl,List.nodup_nil⟩
def Dh:TE:=fun _ H Q=>∀ p,H p=none->Q (.ref p) (upd H p (.dK []))
def Di:TE:=fun _ H Q=>∀ p,H p=none->Q (.ref p) (upd H p (.dT []))
section
variable{X:Cx}{pos:Pos}
theorem vR:PE X (.Dict [] [] pos) Dh:=fun pins s σ H Q I h=>
 wpAny_Dict_empty ⟨.ref s.heap.objs.size,_,I.laid (a:=s.heap.objs.size) (o:=.dK []) (t':=s.toks) (fun _ _ q=>Heap.get?_push_of_some _ q) (Nat.le_refl _) (vP s.heap I.big),rfl,h _ (I.hok.fresh (Nat.le_refl _))⟩
theorem vS:PE X (.Dict [] [] pos) Di:=fun pins s σ H Q I h=>
 wpAny_Dict_empty ⟨.ref s.heap.objs.size,_,I.laid (a:=s.heap.objs.size) (o:=.dT []) (t':=s.toks) (fun _ _ q=>Heap.get?_push_of_some _ q) (Nat.le_refl _) (vQ s.heap I.big),rfl,h _ (I.hok.fresh (Nat.le_refl _))⟩
end
def V8(H:Hp)(a:Addr):Prop:=(∃ kvs,Rd H a (.dK kvs))\/∃ kvs,Rd H a (.dT kvs)
theorem vT{X:Cx}{pins:List (Addr×Obj)}{σ:St}{H:Hp}{s:Shared}{a:Addr}(I:Inv X pins σ H s)(d:V8 H a) :
  s.TypeIs (.ref a) "dict"/\(∀ b,Value.ref a=.ref b->∃ ob,s.heap.get? b=some ob/\ob.dict=none)/\(a == sysModules)=false:=by
 rcases d with ⟨kvs,e⟩ | ⟨kvs,e⟩
 ·obtain⟨_,hd,vs,_,dd⟩:=iI I.hok e
  refine⟨dd.typeIs,fun b q => ?_,hd⟩
  cases q;obtain⟨ob,_,_,h1,h2,_⟩:=dd;exact⟨ob,h1,h2.2.1⟩
 ·obtain⟨_,hd,xs,_,dd⟩:=l_ I.hok e
  refine⟨dd.typeIs,fun b q => ?_,hd⟩
  cases q;obtain⟨ob,_,_,h1,h2,_⟩:=dd;exact⟨ob,h1,h2.2.1⟩
section
variable{X:Cx}{pins:List (Addr×Obj)}{σ:St}{H:Hp}{s:Shared}{a:Addr}{y d:V}{u r:Value}{o:Option V}{A:Around}{E:Value->Shared->Prop}
end
section
variable{X:Cx}{o e f:Expr}{apos cpos:Pos}{td ty tx:TE}
end
section
variable{X:Cx}{pins:List (Addr×Obj)}{σ:St}{H:Hp}{s:Shared}{a:Addr}{kvs:List (Key×V)}{A:Around}{E:Value->Shared->Prop}
end
section
variable{X:Cx}{pins:List (Addr×Obj)}{σ:St}{H:Hp}{s:Shared}{a:Addr}{y:V}{u:Value}{A:Around}{E:Value->Shared->Prop}
end
end L2
namespace Tb
open PySem PySem.W PySem.Calls PyProof.Rows
theorem jI{P:Params}{h:Heap}:∀ (ns:List Int) (vs:List Value),WellAll P h vs (ns.map WData.int)->IntsAre vs ns:=by
 intro ns
 induction ns with
 | nil=>
  intro vs w;rw[List.map_nil]at w;cases w;exact .nil
 | cons n ns ih=>
  intro vs w;rw[List.map_cons]at w;cases w with
  | cons a b=>
   cases a;exact .cons _ _ (ih _ b)
theorem uk{l:OpenLaw}{n:Nat}(hn:l.most=some n){P:Params}{h:Heap}{args:List WData}{vals:List Value}
  (hpre:l.row.toRowW.claim.pre args=true) (hwl:WellAll P h vals args) :
  ∃ a vs ns,vals=[Value.ref a]/\args=[WData.list (ns.map WData.int)]/\h.get? a=some { cls:=.type "list",data:=.seq vs.toArray }/\IntsAre vs ns/\ns.length<=n:=by
 have hsh:WShape.hasAll [] args [.list .int]=true:=(pre_splitW hpre).1;have hc:l.pre.holds [] { args:=args }=true:=(pre_splitW hpre).2;obtain⟨d,r,rfl,h1,h2⟩:=hasAllW_cons hsh;obtain rfl:=hasAllW_nil h2;obtain⟨xs,rfl,h3⟩:=hasW_list h1;obtain⟨ns,rfl⟩:=items_int h3
 have hlen:ns.length<=n:=by
  unfold OpenLaw.pre at hc
  have h4:(WTm.not (.lt (.lit (.int (n:Int))) (.len (.arg 0)))).holds [] { args:=[.list (ns.map .int)] }=true:=by
   have h4:=(holds_andW hc).1;rw[hn]at h4;exact h4
  have h5:=condW_of h4 (w_not (w_lt w_lit (w_len_list (w_arg rfl))));rw[List.length_map]at h5;refine Nat.le_of_not_lt fun q => ?_
  have q':(n:Int) < ((ns.length:Nat):Int):=by omega
  first
   | (rw[decide_eq_true q']at h5;exact absurd h5 (by decide))
   | (simp at h5;omega)
 cases hwl with
 | cons w1 w2=>
  cases w2;cases w1 with
  | list ho hall=>exact⟨_,_,ns,rfl,rfl,ho,jI ns _ hall,hlen⟩
theorem um(l:OpenLaw)(args:List WData):l.row.toRowW.claim.post args (.bool true) args=true:=
 postW_of (r:=l.row.toRowW) (X:=(true == true))
  (show WShape.has [] (.bool true) .bool=true by first | rfl | decide | simp[WShape.has,WShape.arms,WShape.armsAll])
  (show(WTm.eq .res (.lit (.bool true))).value [] { args:=args,res:=some (.bool true),after:=args }=some (.bool (true == true)) from w_eq_bool (w_res rfl) w_lit) rfl
theorem oO{l:OpenLaw}{n:Nat}{q:Program}{loose:List Str}{XP:(Str->Option Value)->Heap->Prop}{YP:World->Heap->Prop}{d:DefRec}
  (hn:l.most=some n) (hdf:d.params.defaults=[])
  (call:∀ (w:World) (s₀ s₁:Shared) (mg mb:Str->Option Value) (fa:Addr) (o:Obj) (pm cd doc:Value) (a:Addr) (vs:List Value) (ns:List Int),
   Ground q loose [] XP w s₀ mg mb s₁.heap->YP w s₁.heap ->
   s₁.heap.get? fa=some o->o.data=.func (docDef d.name d.params d.body d.scope pm cd doc)->s₁.heap.CodeRec cd d.name->mg d.name=some (.ref fa) ->
   s₁.heap.get? a=some { cls:=.type "list",data:=.seq vs.toArray }->IntsAre vs ns->ns.length<=n->s₁.gens = #[] ->
   codeAny (model l.prog w) callerA (.call (.ref fa) ⟨[.ref a],[]⟩) (fun r s'=>r=.ok (.ret (.bool true))/\OldK s₁.heap s'.heap/\s'.os=s₁.os/\AllBare s'.gens) s₁) :
  WalkO q loose XP YP l.row.toRowW d [] (fun f vs=>PySem.call f vs):=by
 intro w s₀ s₁ mg mb G Y fa o pm cd doc dV kV ho hd hcd hD hmg hg args vals as hpre hlay hrd hwl hlo;obtain rfl:dV=.none:=Dflts.none hD hdf;obtain rfl:kV=.none:=Dflts.noKw hD;obtain⟨a,vs,ns,rfl,rfl,hobj,hints,hlen⟩:=uk hn hpre hwl;refine enter_call (codeAny_mono (call w s₀ s₁ mg mb fa o pm cd doc a vs ns G Y ho (fd_plain hd) hcd hmg hobj hints hlen hg) fun r s' hq => ?_)
 obtain⟨rfl,h2,h3,h4⟩:=hq;exact⟨.inl ⟨.bool true,.bool true,[],rfl,fun _=>rfl,.bool true,um l _,fun _=>⟨List.Pairwise.nil,fun _ hm=>(nomatch hm)⟩⟩,h2,h3,h4⟩
section
variable{prog:Program}{w:World}{A:Around}{E:Value->Shared->Prop}{s:Shared}{K:Frag}
end
end Tb
namespace L2
open PySem PySem.Spec PyProof.Rows
theorem mf:∀ {vs:List Value} {ns:List Int},IntsAre vs ns->Vals (ns.map V.int) vs
 | _,_,.nil=>.nil
 | _,_,.cons n t h=>.cons ⟨t,rfl⟩ (mf h)
def Only(H:Hp):Prop:=∀ b,H b=none\/∃ o xs,H b=some (.dD o (.lst xs))
theorem vU{P:Program}{w:World}{K:PySem.W.Frag}{mg mb:Str->Option Value}{CX:ue}{k:Nat}{fa a:Addr}{fd:FuncData}{x:Str}{sp:Sp}{s₁:Shared}{vs:List Value}{ns:List Int}
  (KX:K.In s₁.heap) (hns:s₁.heap.Ns mainGlobals mg) (hb:s₁.heap.Ns builtinsNs mb) (hbb:∀ x:Str,x≠"__name__"->mb x=bootBuiltins x) (hlim:s₁.heap.NoLimit) (hg:s₁.gens = #[])
  (ha:s₁.heap.get? a=some { cls:=.type "list",data:=.seq vs.toArray }) (hi:IntsAre vs ns) (hl:ns.length<=sizeLine) (hr:cD k callerA)
  (F:∀ base:Heap,K.In base->base.Ns mainGlobals mg->cU P w K mg base CX k fa fd [x] sp) (hbind:∀ (s:Shared) (u:Value),BindsTo s fd ⟨[u],[]⟩ [(x,u)])
  (hsp:∀ H:Hp,Only H->jO K H a (ns.map V.int)->sp [.ref a] H (fun v _=>v=.bl true) fun _ _ _=>False)
  (Oc:∀ H e s',CX [] H s₁ (fun _ _ _=>False) e s'->False) :
  codeAny (model P w) callerA (.call (.ref fa) ⟨[.ref a],[]⟩) (fun r s'=>r=.ok (.ret (.bool true))/\OldK s₁.heap s'.heap/\s'.os=s₁.os/\AllBare s'.gens) s₁:=by
 have rv:=mf hi;have lenV:=hi.length
 have core:∀ H:Hp,Only H->jO K H a (ns.map V.int)->ic P w H s₁.heap->(∀ b,H b≠none->b=a)->(H a≠none->K.lookup a=none) ->
   codeAny (model P w) callerA (.call (.ref fa) ⟨[.ref a],[]⟩) (fun r s'=>r=.ok (.ret (.bool true))/\OldK s₁.heap s'.heap/\s'.os=s₁.os/\AllBare s'.gens) s₁:=by
  intro H hO hS hok hA hK;have sm:∀ {b:Addr} {o:Obj},s₁.heap.get? b=some o->H b=none->(mT s₁.heap H).get? b=some o:=fun e n=>vf e n
  have GK:∀ {b:Addr} {o:Obj} {es:Array DictEntry} {ep:Nat},s₁.heap.get? b=some o->o.data=.dict es ep->H b=none:=fun {b o es ep} e d=>by
   cases q:H b with
   | none=>rfl
   | some u=>
    have e':b=a:=hA b (by rw[q];simp)
    subst e';rw[ha]at e;cases e
    have d':Data.seq vs.toArray _=Data.dict es ep:=d;cases d'
  have L6:∀ {b:Addr} {m:Str->Option Value},s₁.heap.Ns b m->(mT s₁.heap H).Ns b m:=fun {b m} ⟨o,es,ep,e,d,r⟩=>⟨o,es,ep,sm e (GK e d),d,r⟩
  have Tc:K.In (mT s₁.heap H):=fun b o e=>sm (KX b o e) (by
   cases q:H b with
   | none=>rfl
   | some u=>
    have e':b=a:=hA b (by rw[q];simp)
    subst e';rw[hK (by rw[q];simp)]at e;cases e)
  have hM:Mod K mg (mT s₁.heap H):=⟨Tc,L6 hns,⟨mb,L6 hb,hbb⟩,let ⟨mc,h1,h2⟩:=hlim;⟨mc,L6 h1,h2⟩⟩
  have e0:qz P w K mg (mT s₁.heap H) callerA [] s₁ H:=⟨rfl,hM,fun b o e=>yn e,Nat.le_of_eq (tZ _ _),trivial,fun b hb=>absurd (show b∈([]:List Addr) from hb) (by simp),hok,.of_eq hg⟩
  refine codeAny_mono ((F _ Tc (L6 hns)).run callerA [] s₁ H ⟨[.ref a],[]⟩ [.ref a] [.ref a] _ _ hr e0 (hbind s₁ (.ref a)) (.cons rfl .nil) (hsp H hO hS)) fun r s' h => ?_
  cases r with
  | error e=>exact(Oc H e s' h).elim
  | ok fl=>
   cases fl with
   | next=>exact False.elim h
   | brk=>exact False.elim h
   | cont=>exact False.elim h
   | ret u=>
    obtain⟨v,H',os,bare,un,hok',r',q⟩:=h;have q':v=.bl true:=q;subst q';obtain rfl:u=Value.bool true:=r';refine⟨rfl,OldK.of_keep fun b o e => ?_,os,bare⟩
    cases q:H b with
    | none=>exact un.keep b o e q (by intro z;exact absurd (show b∈([]:List Addr) from z) (by simp)) (by simp)
    | some u=>
     rcases hO b with z | ⟨ob,xs,z⟩
     ·rw[q]at z;cases z
     ·have z2:=un.ix b ob _ z
      obtain⟨e1,_⟩:=hok b _ z;obtain⟨e2,_⟩:=hok' b _ z2;rw[e]at e1;cases e1
      exact e2
 cases hk:K.lookup a with
 | some o=>
  have e:=KX a o hk;rw[ha]at e;cases e;refine core (fun _=>none) (fun _=>.inl rfl) (.inr ⟨_,vs.toArray,_,hk,rfl,rfl,rfl,by rw[List.size_toArray,lenV];exact hl,by simpa using rv⟩) (fun b u z=>by have z':(none:Option HO)=some u:=z;cases z') (fun b z=>absurd rfl z) fun z=>absurd rfl z
 | none=>
  refine core (fun b=>if b=a then some (.dD { cls:=.type "list",data:=.seq vs.toArray } (.lst (ns.map V.int))) else none) (fun b => ?_) (.inl (.inr ⟨{ cls:=.type "list",data:=.seq vs.toArray },if_pos rfl⟩)) (fun b u z => ?_) (fun b z => ?_) fun _=>hk
  ·by_cases hb:b=a
   ·exact .inr ⟨_,_,if_pos hb⟩
   ·exact .inl (if_neg hb)
  ·by_cases hb:b=a
   ·have z':=(if_pos hb).symm.trans z
    cases z';subst hb;exact⟨ha,by rw[List.length_map];exact hl,vs,_,rv,ha⟩
   ·have z':=(if_neg hb).symm.trans z
    cases z'
  ·by_cases hb:b=a
   ·exact hb
   ·exact absurd (if_neg hb) z
theorem yR{l:PySem.W.OpenLaw}{n k:Nat}{q:Program}{loose:List Str}{XP:(Str->Option Value)->Heap->Prop}{YP:World->Heap->Prop}{d:DefRec}{K:Params->PySem.W.Frag}{CX:World->ue}{sp:World->Sp}{x:Str}
  (hn:l.most=some n) (hn2:n<=sizeLine) (hdf:d.params.defaults=[]) (hr:cD k callerA)
  (hY:∀ (w:World) (h:Heap),YP w h->(K w.params).In h)
  (F:∀ (w:World) (mg:Str->Option Value) (fa:Addr) (h:Heap),(K w.params).In h->h.Ns mainGlobals mg->mg d.name=some (.ref fa) ->
   ∃ fd:FuncData,(∀ (s:Shared) (u:Value),BindsTo s fd ⟨[u],[]⟩ [(x,u)]) /\
    ∀ base:Heap,(K w.params).In base->base.Ns mainGlobals mg->cU l.prog w (K w.params) mg base (CX w) k fa fd [x] (sp w))
  (hsp:∀ (w:World) (H:Hp) (a:Addr) (ns:List Int),ns.length<=n->Only H->jO (K w.params) H a (ns.map V.int)->sp w [.ref a] H (fun v _=>v=.bl true) fun _ _ _=>False)
  (Oc:∀ (w:World) (H:Hp) (s:Shared) (e:Value) (s':Shared),CX w [] H s (fun _ _ _=>False) e s'->False) :
  PySem.W.WalkO q loose XP YP l.row.toRowW d [] (fun f vs=>PySem.call f vs):=by
 refine Tb.oO hn hdf fun w s₀ s₁ mg mb fa o pm cd doc a vs ns G Y ho hd hcd hmg hobj hints hlen hg => ?_
 have KX:=hY w _ Y;obtain⟨fd,hb,hF⟩:=F w mg fa _ KX G.T.g hmg;exact vU KX G.T.g G.T.b G.T.builtins G.T.nolimit hg hobj hints (Nat.le_trans hlen hn2) hr hF hb (fun H hO hS=>hsp w H a ns hlen hO hS) fun H e s'=>Oc w H s₁ e s'
noncomputable def inClass(s:Stmt)(j:Nat):Stmt:=match s with
 | .ClassDef _ _ _ body _ _ _ _ _ _ _=>body.getD j (.Pass ⟨0,0,0,0⟩)
 | _=>.Pass ⟨0,0,0,0⟩
noncomputable def bK(s:Stmt):Arguments:=match s with
 | .FunctionDef _ a _ _ _ _ _ _ _ _=>a
 | _=>{ posonlyargs:=[],args:=[],vararg:=none,kwonlyargs:=[],kw_defaults:=[],kwarg:=none,defaults:=[] }
noncomputable def bG(s:Stmt):List Stmt:=match s with
 | .FunctionDef _ _ b _ _ _ _ _ _ _=>b
 | _=>[]
noncomputable def aw(s:Stmt):Scope:=match s with
 | .FunctionDef _ _ _ _ _ _ sc _ _ _=>sc
 | _=>{ kind:=.function,names:=[],isGenerator:=false,isCoroutine:=false }
abbrev jS:ue:=fun _ _ _ _ _ _=>False
abbrev E0:XK:=fun _ _ _=>False
theorem kq{X:Cx}:Passes jS X E0:=fun _ _ _ _ _ _ _ h=>h.elim
structure Dj(K:PySem.W.Frag)(x qual:Str)(st:Stmt)(f:Addr)(fd:FuncData):Prop where
 ex:∃ (oc:Value) (od:Option Addr) (kV doc pm:Value) (an:Option Addr) (cdv ct:Value) (osl:Array (Option Value)),
  fd=PySem.W.fnOf x qual (bK st) (bG st) (aw st) .none kV doc pm an cdv ct/\K.lookup f=some ⟨oc,od,.func fd,osl⟩/\PySem.W.codeIn K cdv qual=true
 kp:PySem.W.keepIn K (.ref f)=true
section
variable{P:Program}{w:World}{K:PySem.W.Frag}{mg:Str->Option Value}{base:Heap}
theorem Dj.ok{x qual:Str}{st:Stmt}{f:Addr}{fd:FuncData}{N ps:List Str}{k:Nat}{sp:Sp}(F:Dj K x qual st f fd)(S:jQ N ps (aw st))(len:∀ vs H Q E,sp vs H Q E->vs.length=ps.length)
  (hbody:∀ (cdv:Value) (A:Around) (outer:List Env) (s:Shared) (H:Hp) (vs:List V) (Q:VK) (E:XK),cD k (A.deeper (envOfC qual (aw st) s.heap.objs.size f cdv))->sp vs H Q E ->
   ∃ t,jt (oE jS P w K mg base N qual (aw st) f cdv A outer s H E).vj (bG st) t/\t { nx:=fun _ H'=>Q .non H',rt:=Q } (start N vs) H):cU P w K mg base jS (k + 1) f fd ps sp:=by
 obtain⟨oc,od,kV,doc,pm,an,cdv,ct,osl,rfl,lk,hcd⟩:=F.ex;refine BE lk hcd S len fun A outer s H vs Q E hr hsp => ?_
 obtain⟨t,h,q⟩:=hbody cdv A outer s H vs Q E hr hsp;exact⟨t,h.vj,q⟩
theorem Dj.binds{x qual:Str}{st:Stmt}{f:Addr}{fd:FuncData}{ps:List Str}(F:Dj K x qual st f fd)
  (h:∀ (kV doc pm:Value) (an:Option Addr) (cdv ct:Value) (us:List Value),us.length=ps.length->bindArgs (PySem.W.fnOf x qual (bK st) (bG st) (aw st) .none kV doc pm an cdv ct) ⟨us,[]⟩=pure (ps.zip us)):Binds K fd ps []:=by
 obtain⟨oc,od,kV,doc,pm,an,cdv,ct,osl,rfl,lk,hcd⟩:=F.ex;exact .all (h kV doc pm an cdv ct)
theorem fj{x qual:Str}{st:Stmt}{f:Addr}{oc:Value}{od an:Option Addr}{osl:Array (Option Value)}{kV doc pm cdv ct:Value}(l:K.lookup f=some ⟨oc,od,.func (PySem.W.fnOf x qual (bK st) (bG st) (aw st) .none kV doc pm an cdv ct),osl⟩)
  (c:PySem.W.codeIn K cdv qual=true) (k:PySem.W.keepIn K (.ref f)=true):Dj K x qual st f (PySem.W.fnOf x qual (bK st) (bG st) (aw st) .none kV doc pm an cdv ct):=⟨⟨oc,od,kV,doc,pm,an,cdv,ct,osl,rfl,l,c⟩,k⟩
end
section
variable{X:Cx}
theorem uo:di X (.builtin "len") (fun xs H Q=>∃ a kvs,xs=[V.ref a]/\Rd H a (.dK kvs)/\Q (.int kvs.length) H):=by
 intro pins s σ H xs us Q I r h;obtain⟨a,kvs,rfl,ha,q⟩:=h;obtain⟨u,rfl,ru⟩:=vals1 r;cases ru;exact GX I ha fun t s' I'=>⟨.int kvs.length,H,I',⟨t,rfl⟩,q⟩
end
theorem oP{A B:Prop}(h:B):if false=true then A else B:=by
 rw[if_neg Bool.false_ne_true];exact h
theorem oQ{A B:Prop}(h:A):if true=true then A else B:=by
 rw[if_pos rfl];exact h
def iK(H H':Hp):Prop:=∀ b o,H b=some o->H' b=some o
theorem iK.refl(H:Hp):iK H H:=fun _ _ h=>h
theorem iK.trans{H H1 H2:Hp}(a:iK H H1)(b:iK H1 H2):iK H H2:=fun c o h=>b c o (a c o h)
section
variable{κ:Type}[DecidableEq κ]
end
end L2
namespace Mir
open PySem
inductive D where
 | non | bl (b:Bool) | int (i:Int) | str (x:Str)
 | lst (xs:List D) | tup (xs:List D) | dct (ks:List L2.Key) (vs:List D) | ref (n:Nat)
 deriving Inhabited
inductive Out (α:Type) where
 | ok (a:α) | exc (c:Str) (fs:List (Str×D)) | bad
noncomputable def Out.bind{α β:Type}:Out α->(α->Out β)->Out β
 | .ok a,f=>f a
 | .exc c fs,_=>.exc c fs
 | .bad,_=>.bad
instance:Monad Out where
 pure:=.ok
 bind:=Out.bind
@[simp] theorem L7{α β:Type}(a:α)(f:α->Out β):(Out.ok a >>= f)=f a:=rfl
@[simp] theorem G0{α β:Type}(f:α->Out β):((Out.bad:Out α) >>= f)=.bad:=rfl
@[simp] theorem G2{α β:Type}(c fs)(f:α->Out β):((Out.exc c fs:Out α) >>= f)=.exc c fs:=rfl
@[simp] theorem L8{α:Type}(a:α):(pure a:Out α)=.ok a:=rfl
mutual
noncomputable def eA:D->D->Bool
 | .non,.non=>true
 | .bl a,.bl b=>a == b
 | .bl a,.int j=>(if a then 1 else 0) == j
 | .int i,.bl b=>i == (if b then 1 else 0)
 | .int i,.int j=>i == j
 | .str x,.str y=>x == y
 | .lst xs,.lst ys=>eB xs ys
 | .tup xs,.tup ys=>eB xs ys
 | _,_=>false
noncomputable def eB:List D->List D->Bool
 | [],[]=>true
 | x::xs,y::ys=>eA x y && eB xs ys
 | _,_=>false
end
noncomputable def aI:Nat->D->Bool
 | _,.non | _,.bl _ | _,.int _ | _,.str _=>true
 | n + 1,.lst xs | n + 1,.tup xs=>xs.all (aI n)
 | _,_=>false
noncomputable def small(n:Nat):Bool:=decide (n<=sizeLine)
def jJ:D->Option Bool
 | .non=>some false
 | .bl b=>some b
 | .int i=>some (i != 0)
 | .str x=>if small x.length then some (x.length != 0) else none
 | .lst xs=>some (!xs.isEmpty)
 | .tup xs=>some (!xs.isEmpty)
 | _=>none
abbrev Rs:=Bool×D
noncomputable def kr(i:Int):Bool:=decide (i.natAbs < 18446744073709551616)
theorem oT{i:Int}(h:kr i=true) : -(2 ^ 64) < i/\i < 2 ^ 64:=by
 have:=of_decide_eq_true h;omega
def fw(op:Operator)(x y:D):Out Rs:=
 match op,x,y with
 | .Add,.int i,.int j=>.ok (false,.int (i + j))
 | .Sub,.int i,.int j=>.ok (false,.int (i - j))
 | .Mult,.int i,.int j=>if kr i || kr j then .ok (false,.int (i * j)) else .bad
 | .FloorDiv,.int i,.int j=>if decide (0 < j) && decide (j < 1073741824) then .ok (false,.int (i / j)) else .bad
 | .Mod,.int i,.int j=>if decide (0 < j) then .ok (false,.int (i % j)) else .bad
 | .Pow,.int i,.int j=>if decide (0<=j) && decide (j<=1000) && decide (i.natAbs < 2 ^ 64) then .ok (false,.int (i ^ j.toNat)) else .bad
 | .Add,.str i,.str j=>if small (i.length + j.length) then .ok (false,.str (i++j)) else .bad
 | .Add,.lst i,.lst j=>if small (i.length + j.length) then .ok (true,.lst (i++j)) else .bad
 | _,_,_=>.bad
noncomputable def sr(x y:Str):Bool := !(Builtin.Str.occurrences y x 0 y.length 1).isEmpty
def inD(x y:D):Out Bool:=
 match x,y with
 | x,.lst ys=>if aI 8 x && ys.all (aI 8) then .ok (ys.any fun y=>eA y x) else .bad
 | x,.tup ys=>if aI 8 x && ys.all (aI 8) then .ok (ys.any fun y=>eA y x) else .bad
 | .str x,.str y=>.ok (sr x y)
 | _,_=>.bad
noncomputable def isD(x y:D):Out Bool:=
 match x,y with
 | .non,.non=>.ok true
 | _,.non=>.ok false
 | .bl a,.bl b=>.ok (a == b)
 | .non,.bl _=>.ok false
 | .int _,.bl _=>.ok false
 | .str _,.bl _=>.ok false
 | .lst _,.bl _=>.ok false
 | .tup _,.bl _=>.ok false
 | _,_=>.bad
def dI(op:CmpOp)(x y:D):Out Bool:=
 match op,x,y with
 | .Eq,x,y=>if aI 8 x && aI 8 y then .ok (eA x y) else .bad
 | .NotEq,x,y=>if aI 8 x && aI 8 y then .ok (!eA x y) else .bad
 | .Lt,.int i,.int j=>.ok (decide (i < j))
 | .LtE,.int i,.int j=>.ok (decide (i<=j))
 | .Gt,.int i,.int j=>.ok (decide (j < i))
 | .GtE,.int i,.int j=>.ok (decide (j<=i))
 | .In,x,y=>inD x y
 | .NotIn,x,y=>do let b ← inD x y;.ok (!b)
 | .Is,x,y=>isD x y
 | .IsNot,x,y=>do let b ← isD x y;.ok (!b)
 | _,_,_=>.bad
noncomputable def bE(c:Nat):Str:=⟨#[c]⟩
def qF(x y:D):Out Rs:=
 match x,y with
 | .lst xs,.int i=>match L2.jH xs i with | some d=>.ok (false,d) | none=>.bad
 | .tup xs,.int i=>match L2.jH xs i with | some d=>.ok (false,d) | none=>.bad
 | .str z,.int i=>if small z.length then (match L2.jH z.cps.toList i with | some c=>.ok (false,.str (bE c)) | none=>.bad) else .bad
 | _,_=>.bad
def cX{α:Type}(xs:List α)(lo hi:Option Int):List α:=(xs.drop (HT.cv xs.length 0 lo)).take (HT.cv xs.length xs.length hi - HT.cv xs.length 0 lo)
def vV(x:D)(lo hi:Option Int):Out Rs:=
 match x with
 | .lst xs=>.ok (true,.lst (cX xs lo hi))
 | .str z=>if small z.length then .ok (false,.str ⟨(cX z.cps.toList lo hi).toArray⟩) else .bad
 | _=>.bad
noncomputable def intsFrom(lo:Int):Nat->List D
 | 0=>[]
 | n + 1=>.int lo::intsFrom (lo + 1) n
noncomputable def lK(i:Int):Bool:=decide (i.natAbs < 4611686018427387904)
theorem oU{i:Int}(h:lK i=true) : -(2 ^ 62)<=i/\i < 2 ^ 62:=by
 have:=of_decide_eq_true h;omega
noncomputable def c8(i:Nat):List D->List D
 | []=>[]
 | d::ds=>.tup [.int i,d]::c8 (i + 1) ds
inductive jT where
 | len | all | any | sorted | list | tuple | int | min | max | bool
 deriving DecidableEq
def fx:List D->Option (List Bool)
 | []=>some []
 | d::r=>match jJ d,fx r with | some b,some bs=>some (b::bs) | _,_=>none
noncomputable def BI:List D->Option (List Int)
 | []=>some []
 | .int i::r=>(BI r).map (i :: ·)
 | _=>none
noncomputable def mj:List D->Option (List Str)
 | []=>some []
 | .str i::r=>(mj r).map (i :: ·)
 | _=>none
noncomputable def G3(a b:Str):Bool := !decide (b.cps.toList < a.cps.toList)
def yS(ds:List D):Out (List D):=
 if 64<=ds.length then .bad else
 match BI ds with
 | some is=>.ok ((is.mergeSort fun a b=>decide (a<=b)).map .int)
 | none=>match mj ds with
  | some xs=>.ok ((xs.mergeSort G3).map .str)
  | none=>.bad
def ie(f:jT)(a:D):Out Rs:=
 match f,a with
 | .len,.tup [.lst xs]=>.ok (false,.int xs.length)
 | .len,.tup [.tup xs]=>.ok (false,.int xs.length)
 | .len,.tup [.str z]=>if small z.length then .ok (false,.int z.length) else .bad
 | .all,.tup [.lst xs]=>match fx xs with | some bs=>.ok (false,.bl (bs.all id)) | none=>.bad
 | .any,.tup [.lst xs]=>match fx xs with | some bs=>.ok (false,.bl (bs.any id)) | none=>.bad
 | .sorted,.tup [.lst xs]=>do let ys ← yS xs;.ok (true,.lst ys)
 | .list,.tup [.lst xs]=>.ok (true,.lst xs)
 | .list,.tup [.tup xs]=>.ok (true,.lst xs)
 | .tuple,.tup [.lst xs]=>.ok (false,.tup xs)
 | .tuple,.tup [.tup xs]=>.ok (false,.tup xs)
 | .int,.tup [.int i]=>.ok (false,.int i)
 | .int,.tup [.bl k]=>.ok (false,.int (if k then 1 else 0))
 | .min,.tup [.int i,.int j]=>.ok (false,.int (if j < i then j else i))
 | .max,.tup [.int i,.int j]=>.ok (false,.int (if j > i then j else i))
 | _,_=>.bad
inductive V9 where
 | index | join
 deriving DecidableEq
def vW(m:V9)(x:D)(a:D):Out Rs:=
 match m,x,a with
 | .index,.lst xs,.tup [d]=>if aI 8 d && xs.all (aI 8) then (match xs.findIdx? fun y=>eA y d with | some j=>.ok (false,.int j) | none=>.bad) else .bad
 | .index,.str z,.tup [.str y]=>match Builtin.Str.occurrences z y 0 z.length 1 with | i::_=>.ok (false,.int i) | []=>.bad
 | .join,.str z,.tup [.lst ds]=>match mj ds with | some xs=>if decide (z.length<=16) && decide ((xs.map (·.length)).sum + xs.length<=1048576) then .ok (false,.str (Txt.join z xs)) else .bad | none=>.bad
 | _,_,_=>.bad
inductive Ty where
 | int | str | bool | list | tuple | dict
 deriving DecidableEq
noncomputable def vX:D->Ty->Option Bool
 | .non,_=>some false
 | .bl _,t=>some (t == .bool || t == .int)
 | .int _,t=>some (t == .int)
 | .str _,t=>some (t == .str)
 | .lst _,t=>some (t == .list)
 | .tup _,t=>some (t == .tuple)
 | .dct _ _,t=>some (t == .dict)
 | .ref _,_=>none
noncomputable def fb:D->Bool
 | .non | .bl _ | .int _ | .str _=>true
 | _=>false
noncomputable def fuel:Nat:=100000
def nj{α:Type}(xs:List α)(i:Int)(x:α):List α:=let k:=HT.cv xs.length 0 (some i);xs.take k++x::xs.drop k
end Mir
namespace Mir
open PySem PySem.Spec PyProof.Rows L2
mutual
noncomputable def Rep(Z:Addr->Prop)(H:Hp):D->V->Prop
 | .non,v=>v=.non
 | .bl b,v=>v=.bl b
 | .int i,v=>v=.int i
 | .str x,v=>v=.str x
 | .lst ds,v=>∃ a vs,v=.ref a/\Z a/\Rd H a (.lst vs)/\aT Z H ds vs
 | .tup ds,v=>∃ a vs,v=.ref a/\Z a/\Rd H a (.tup vs)/\aT Z H ds vs
 | .dct ks ds,v=>∃ a vs,v=.ref a/\Z a/\H a=some (.dK (ks.zip vs))/\aT Z H ds vs
 | .ref _,_=>False
noncomputable def aT(Z:Addr->Prop)(H:Hp):List D->List V->Prop
 | [],vs=>vs=[]
 | d::ds,vs=>∃ v r,vs=v::r/\Rep Z H d v/\aT Z H ds r
end
section
variable{Z Z':Addr->Prop}{H H':Hp}
theorem nk{a:Addr}{u:HO}(k:∀ o,H a=some o->H' a=some o)(h:Rd H a u):Rd H' a u:=by
 rcases h with h | ⟨o,h⟩
 ·exact .inl (k _ h)
 ·exact .inr ⟨o,k _ h⟩
mutual
theorem Rep.mono(k:∀ a o,Z a->H a=some o->H' a=some o)(z:∀ a,Z a->Z' a):∀ {d:D} {v:V},Rep Z H d v->Rep Z' H' d v
 | .non,_,h=>by simpa only [Rep] using h
 | .bl _,_,h=>by simpa only [Rep] using h
 | .int _,_,h=>by simpa only [Rep] using h
 | .str _,_,h=>by simpa only [Rep] using h
 | .lst ds,v,h=>by
  simp only[Rep]at h ⊢;obtain⟨a,vs,e,hz,hr,hs⟩:=h;exact⟨a,vs,e,z a hz,nk (fun o=>k a o hz) hr,aT.mono k z hs⟩
 | .tup ds,v,h=>by
  simp only[Rep]at h ⊢;obtain⟨a,vs,e,hz,hr,hs⟩:=h;exact⟨a,vs,e,z a hz,nk (fun o=>k a o hz) hr,aT.mono k z hs⟩
 | .dct ks ds,v,h=>by
  simp only[Rep]at h ⊢;obtain⟨a,vs,e,hz,hr,hs⟩:=h;exact⟨a,vs,e,z a hz,k a _ hz hr,aT.mono k z hs⟩
 | .ref _,_,h=>by simp only[Rep]at h
theorem aT.mono(k:∀ a o,Z a->H a=some o->H' a=some o)(z:∀ a,Z a->Z' a):∀ {ds:List D} {vs:List V},aT Z H ds vs->aT Z' H' ds vs
 | [],_,h=>by simpa only [aT] using h
 | d::ds,vs,h=>by
  simp only[aT]at h ⊢;obtain⟨v,r,e,h1,h2⟩:=h;exact⟨v,r,e,Rep.mono k z h1,aT.mono k z h2⟩
end
theorem aT.length:∀ {ds:List D} {vs:List V},aT Z H ds vs->vs.length=ds.length
 | [],_,h=>by simp only[aT]at h;rw[h];rfl
 | d::ds,_,h=>by
  simp only[aT]at h;obtain⟨v,r,e,_,h2⟩:=h;rw[e,List.length_cons,List.length_cons,aT.length h2]
theorem aT.get:∀ {ds:List D} {vs:List V} {i:Nat} {d:D},aT Z H ds vs->ds[i]?=some d->∃ v,vs[i]?=some v/\Rep Z H d v
 | [],_,_,_,_,e=>by simp at e
 | d::ds,_,0,_,h,e=>by
  simp only[aT]at h;obtain⟨v,r,rfl,h1,_⟩:=h;simp at e;subst e
  exact⟨v,rfl,h1⟩
 | d::ds,_,i + 1,d',h,e=>by
  simp only[aT]at h;obtain⟨v,r,rfl,_,h2⟩:=h;obtain⟨u,h3,h4⟩:=aT.get (i:=i) (d:=d') h2 (by simpa using e)
  exact⟨u,by simpa using h3,h4⟩
theorem aT.append:∀ {ds es:List D} {vs ws:List V},aT Z H ds vs->aT Z H es ws->aT Z H (ds++es) (vs++ws)
 | [],_,_,_,h,h'=>by simp only[aT]at h;rw[h];exact h'
 | d::ds,_,_,_,h,h'=>by
  simp only[aT]at h;obtain⟨v,r,rfl,h1,h2⟩:=h
  show aT Z H (d::(ds++_)) (v::(r++_))
  simp only[aT];exact⟨v,_,rfl,h1,aT.append h2 h'⟩
theorem aT.nil:aT Z H [] []:=by simp only[aT]
theorem aT.cons{d:D}{ds:List D}{v:V}{vs:List V}(h:Rep Z H d v)(h':aT Z H ds vs):aT Z H (d::ds) (v::vs):=by
 simp only[aT];exact⟨v,vs,rfl,h,h'⟩
theorem aT.nil_inv{vs:List V}(h:aT Z H [] vs):vs=[]:=by simpa only [aT] using h
theorem aT.cons_inv{d:D}{ds:List D}{vs:List V}(h:aT Z H (d::ds) vs):∃ v r,vs=v::r/\Rep Z H d v/\aT Z H ds r:=by simpa only [aT] using h
def Now(Z:Addr->Prop)(H:Hp)(d:D)(v:V):Prop:=
 match d with
 | .lst ds=>∃ a vs,v=.ref a/\Rd H a (.lst vs)/\aT Z H ds vs
 | d=>Rep Z H d v
theorem Rep.now{d:D}{v:V}(h:Rep Z H d v):Now Z H d v:=by
 cases d with
 | lst ds=>
  simp only[Rep]at h;obtain⟨a,vs,e,_,h⟩:=h;exact⟨a,vs,e,h⟩
 | _=>exact h
end
structure eJ(Z:Addr->Prop)(H:Hp)(Z':Addr->Prop)(H':Hp):Prop where
 same:iK H H'
 sub:∀ a,Z a->Z' a
 new:∀ a,Z' a->Z a\/H a=none
 dom:∀ a,Z' a->H' a≠none
theorem eJ.refl{Z:Addr->Prop}{H:Hp}(d:∀ a,Z a->H a≠none):eJ Z H Z H:=⟨iK.refl _,fun _ h=>h,fun _ h=>.inl h,d⟩
theorem iK.laid{H:Hp}{p:Addr}{o:HO}(h:H p=none):iK H (upd H p o):=fun b u e=>by rw[aF (bb e h)];exact e
theorem eJ.laid{Z:Addr->Prop}{H:Hp}{p:Addr}{o:HO}(d:∀ a,Z a->H a≠none)(h:H p=none):eJ Z H Z (upd H p o):=
 ⟨iK.laid h,fun _ h=>h,fun _ h=>.inl h,fun a ha=>by
  have ne:a≠p:=fun e=>d a ha (by rw[e];exact h)
  rw[aF ne];exact d a ha⟩
def Zp(Z:Addr->Prop)(p:Addr):Addr->Prop:=fun a=>Z a\/a=p
section
variable{Z0 Z Z':Addr->Prop}{H0 H H':Hp}{ρ:yT}{σ:L2.St}
end
def d_(bw own:Bool)(Z:Addr->Prop)(Hb H:Hp)(d:D)(v:V):Prop:=
 if own=true then ∃ a vs ds,d=.lst ds/\v=.ref a/\Hb a=none/\¬ Z a/\H a=some (.lst vs)/\aT Z H ds vs
 else if bw=true then Now Z H d v else Rep Z H d v
theorem d_.own{bw:Bool}{Z:Addr->Prop}{Hb H:Hp}{a:Addr}{ds:List D}{vs:List V}(h1:Hb a=none)(h2:¬ Z a)(h3:H a=some (.lst vs))(h4:aT Z H ds vs):d_ bw true Z Hb H (.lst ds) (.ref a):=by
 unfold d_;rw[if_pos rfl];exact⟨a,vs,ds,rfl,rfl,h1,h2,h3,h4⟩
theorem d_.rep{bw:Bool}{Z:Addr->Prop}{Hb H:Hp}{d:D}{v:V}(h:Rep Z H d v):d_ bw false Z Hb H d v:=by
 unfold d_;rw[if_neg Bool.false_ne_true]
 split
 ·exact h.now
 ·exact h
theorem d_.now{own:Bool}{Z:Addr->Prop}{Hb H:Hp}{d:D}{v:V}(h:d_ true own Z Hb H d v):Now Z H d v:=by
 unfold d_ at h;split at h
 ·obtain⟨a,vs,ds,rfl,rfl,_,_,h3,h4⟩:=h
  exact⟨a,vs,rfl,.inl h3,h4⟩
 ·rw[if_pos rfl]at h;exact h
theorem PE.imp{X:Cx}{e:Expr}{t t':TE}(h:PE X e t)(i:∀ σ H Q,t' σ H Q->t σ H Q):PE X e t':=fun pins s σ H Q I q=>h pins s σ H Q I (i σ H Q q)
theorem ku{α β:Type}{x:Out α}{f:α->Out β}{b:β}(h:(x >>= f)=.ok b):∃ a,x=.ok a/\f a=.ok b:=by
 cases x with
 | ok a=>exact⟨a,rfl,h⟩
 | exc c fs=>cases h
 | bad=>cases h
section
variable{Γ:lL}{Z0 Z:Addr->Prop}{H0 H:Hp}{ρ:yT}{σ:L2.St}{c:Ex}{Q:VK}{own:Bool}{d:D}
end
end Mir
namespace Mir
open PySem PySem.Spec PyProof.Rows L2
section
variable{Z Z':Addr->Prop}{H H2 H':Hp}{d:D}{v:V}{bw own:Bool}
theorem bx{n:Nat}(h:small n=true):n<=sizeLine:=of_decide_eq_true h
end
section
variable{X:Cx}{Γ:lL}{bw:Bool}{a b e:Expr}{ca cb c:Ex}{pos:Pos}
noncomputable def fy:D->Option V
 | .non=>some .non
 | .bl b=>some (.bl b)
 | .int i=>some (.int i)
 | .str x=>some (.str x)
 | _=>none
theorem fA{Z:Addr->Prop}{H:Hp}{d:D}{v:V}(h:fy d=some v):Rep Z H d v:=by
 cases d<;>simp only[fy]at h<;>first | cases h;simp only[Rep] | cases h
end
section
variable{Z:Addr->Prop}{H:Hp}{x:V}
theorem fN(h:Now Z H .non x):x=.non:=by simpa only [Now,Rep] using h
theorem bA{i:Int}(h:Now Z H (.int i) x):x=.int i:=by simpa only [Now,Rep] using h
theorem ig{i:Bool}(h:Now Z H (.bl i) x):x=.bl i:=by simpa only [Now,Rep] using h
theorem c9{i:Str}(h:Now Z H (.str i) x):x=.str i:=by simpa only [Now,Rep] using h
theorem c_{ds:List D}(h:Now Z H (.lst ds) x):∃ a vs,x=.ref a/\Rd H a (.lst vs)/\aT Z H ds vs:=h
theorem fO{ds:List D}(h:Now Z H (.tup ds) x):∃ a vs,x=.ref a/\Z a/\Rd H a (.tup vs)/\aT Z H ds vs:=by simpa only [Now,Rep] using h
theorem kx{K:PySem.W.Frag}{a:Addr}{vs:List V}(h:Rd H a (.lst vs)):jO K H a vs:=.inl h
theorem uq{K:PySem.W.Frag}{a:Addr}{vs:List V}(h:Rd H a (.tup vs)):f_ K H a vs:=.inl h
theorem yU{bw:Bool}{Q:VK}{ds:List D}{vs:List V}(dom:∀ a,Z a->H a≠none)(hs:aT Z H ds vs)
  (k:∀ v H' Z',eJ Z H Z' H'->d_ bw true Z' H H' (.lst ds) v->Q v H'):∀ p,H p=none->Q (.ref p) (upd H p (.lst vs)):=fun p hp=>
 k _ _ Z (eJ.laid dom hp) (.own hp (fun z=>dom p z hp) aS (hs.mono (fun a o _=>iK.laid hp a o) fun _ z=>z))
end
section
variable{X:Cx}{Γ:lL}{bw:Bool}{a b e:Expr}{ca cb c:Ex}{pos:Pos}
def BJ:R2:=fun x y H Q=>∃ l b xs zs,x=.ref l/\y=.ref b/\Rd H l (.lst xs)/\Rd H b (.lst zs)/\xs.length + zs.length<=sizeLine/\∀ p,H p=none->Q (.ref p) (upd H p (.lst (xs++zs)))
theorem yV:gf X (binaryOp .Add) BJ:=by
 intro pins s σ H x y v u Q I rx ry h;obtain⟨l,b,xs,zs,rfl,rfl,hH,hB,hz,q⟩:=h;cases rx;cases ry;obtain⟨z,its,n,r,e⟩:xs.length<=sizeLine/\∃ (its:List Value) (n:Nat),Vals xs its/\s.heap.get? l=some { cls:=.type "list",data:=.seq its.toArray n }:=Rd.ok hH I.hok;obtain⟨z2,its2,n2,r2,e2⟩:zs.length<=sizeLine/\∃ (its:List Value) (n:Nat),Vals zs its/\s.heap.get? b=some { cls:=.type "list",data:=.seq its.toArray n }:=Rd.ok hB I.hok;have hl:=r.length;have hl2:=r2.length;refine PySem.P.add_list e e2 ?_ (by rw[List.size_toArray,List.size_toArray];omega)
 have ea:its.toArray++its2.toArray=(its++its2).toArray:=by simp
 rw[ea];exact⟨.ref _,_,I.Oa (t':=s.toks) (r.append r2) (by rw[List.length_append];omega),rfl,q _ I.fresh⟩
def yW(op:Operator):R2:=fun x y H Q=>match op with
 | .Add=>(∃ i j,x=.int i/\y=.int j/\Q (.int (i + j)) H)\/(∃ i j,x=.str i/\y=.str j/\i.length + j.length<=sizeLine/\Q (.str (i++j)) H)\/BJ x y H Q
 | .Sub=>∃ i j,x=.int i/\y=.int j/\Q (.int (i - j)) H
 | .Mult=>∃ i j,x=.int i/\y=.int j/\yz i j/\Q (.int (i * j)) H
 | .FloorDiv=>∃ i j,x=.int i/\y=.int j/\GC i j/\Q (.int (i / j)) H
 | .Mod=>∃ i j,x=.int i/\y=.int j/\0 < j/\Q (.int (i % j)) H
 | .Pow=>∃ i j,x=.int i/\y=.int j/\GD i j/\Q (.int (i ^ j.toNat)) H
 | _=>False
theorem vY(op:Operator):gf X (binaryOp op) (yW op):=by
 cases op with
 | Add=>exact CW.or (qr.or yV)
 | Sub=>exact CY
 | Mult=>exact CZ
 | FloorDiv=>exact yA
 | Mod=>exact C1
 | Pow=>exact C3
 | _=>exact fun _ _ _ _ _ _ _ _ _ _ _ _ h=>h.elim
theorem Dk{op:Operator}{dx dy:D}{x y:V}{Z:Addr->Prop}{H:Hp}{own:Bool}{d:D}{Q:VK}(nx:Now Z H dx x)(ny:Now Z H dy y)(dom:∀ a,Z a->H a≠none)(ee:fw op dx dy=.ok (own,d))
  (k:∀ v H' Z',eJ Z H Z' H'->d_ bw own Z' H H' d v->Q v H'):yW op x y H Q:=by
 have flat:∀ {d':D} {v:V},fy d'=some v->Out.ok (false,d')=Out.ok (own,d)->Q v H:=fun hf q=>by
  cases q;exact k _ H Z (eJ.refl dom) (.rep (fA hf))
 unfold fw at ee;split at ee
 ·cases bA nx;cases bA ny
  exact .inl ⟨_,_,rfl,rfl,flat rfl ee⟩
 ·cases bA nx;cases bA ny
  exact⟨_,_,rfl,rfl,flat rfl ee⟩
 ·cases bA nx;cases bA ny
  split at ee
  ·rename_i hc
   refine⟨_,_,rfl,rfl,?_,flat rfl ee⟩;simp only[Bool.or_eq_true]at hc;have hc:=hc.imp oT oT;exact hc
  ·cases ee
 ·cases bA nx;cases bA ny
  split at ee
  ·rename_i hc
   refine⟨_,_,rfl,rfl,?_,flat rfl ee⟩;simp only[Bool.and_eq_true,decide_eq_true_eq]at hc;exact hc
  ·cases ee
 ·cases bA nx;cases bA ny
  split at ee
  ·rename_i hc
   exact⟨_,_,rfl,rfl,of_decide_eq_true hc,flat rfl ee⟩
  ·cases ee
 ·cases bA nx;cases bA ny
  split at ee
  ·rename_i hc
   refine⟨_,_,rfl,rfl,?_,flat rfl ee⟩;simp only[Bool.and_eq_true,decide_eq_true_eq]at hc;exact⟨hc.1.1,Int.le_trans hc.1.2 (by decide),hc.2⟩
  ·cases ee
 ·cases c9 nx;cases c9 ny
  split at ee
  ·rename_i hc
   exact .inr (.inl ⟨_,_,rfl,rfl,bx hc,flat rfl ee⟩)
  ·cases ee
 ·obtain⟨l,xs,rfl,h1,h2⟩:=c_ nx
  obtain⟨m,zs,rfl,h3,h4⟩:=c_ ny;split at ee
  ·rename_i hc
   cases ee;have hz:=bx hc;exact .inr (.inr ⟨l,m,xs,zs,rfl,rfl,h1,h3,by rw[h2.length,h4.length];exact hz,yU dom (h2.append h4) k⟩)
  ·cases ee
 ·cases ee
end
section
variable{Z:Addr->Prop}{H:Hp}
theorem nq{a:Addr}{u u':HO}(hn:∀ o w,u≠.dD o w)(hn':∀ o w,u'≠.dD o w)(h:Rd H a u)(h':Rd H a u'):u=u':=by
 rcases h with h | ⟨o,h⟩<;>rcases h' with h' | ⟨o',h'⟩<;>rw[h]at h'<;>injection h' with e
 ·exact absurd e (hn _ _)
 ·exact absurd e.symm (hn' _ _)
 ·injection e
theorem qG{a:Addr}{xs ys:List V}(h:Rd H a (.lst xs))(h':Rd H a (.lst ys)):xs=ys:=by
 have e:=nq (fun _ _ z=>by cases z) (fun _ _ z=>by cases z) h h'
 injection e
theorem qH{a:Addr}{xs ys:List V}(h:Rd H a (.tup xs))(h':Rd H a (.tup ys)):xs=ys:=by
 have e:=nq (fun _ _ z=>by cases z) (fun _ _ z=>by cases z) h h'
 injection e
theorem su{a:Addr}{xs ys:List V}(h:Rd H a (.lst xs))(h':Rd H a (.tup ys)):False:=by
 have e:=nq (fun _ _ z=>by cases z) (fun _ _ z=>by cases z) h h'
 cases e
mutual
theorem Rep.uniq:∀ (n:Nat) (d d':D) (v:V),aI n d=true->aI n d'=true->Rep Z H d v->Rep Z H d' v->d=d'
 | n,.lst xs,d',v,o,o',h,h'=>by
  simp only[Rep]at h;obtain⟨a,vs,rfl,_,h1,h2⟩:=h;cases d'<;>simp only[Rep]at h'
  case lst ys=>
   obtain⟨b,ws,e,_,h3,h4⟩:=h';cases e;cases qG h1 h3;cases n with
   | zero=>simp[aI]at o
   | succ n=>rw[aT.uniq n xs ys vs (by simpa[aI] using o) (by simpa[aI] using o') h2 h4]
  case tup ys=>
   obtain⟨b,ws,e,_,h3,h4⟩:=h';cases e;exact(su h1 h3).elim
  case dct ks ys=>cases n<;>simp[aI]at o'
  all_goals cases h'
 | n,.tup xs,d',v,o,o',h,h'=>by
  simp only[Rep]at h;obtain⟨a,vs,rfl,_,h1,h2⟩:=h;cases d'<;>simp only[Rep]at h'
  case tup ys=>
   obtain⟨b,ws,e,_,h3,h4⟩:=h';cases e;cases qH h1 h3;cases n with
   | zero=>simp[aI]at o
   | succ n=>rw[aT.uniq n xs ys vs (by simpa[aI] using o) (by simpa[aI] using o') h2 h4]
  case lst ys=>
   obtain⟨b,ws,e,_,h3,h4⟩:=h';cases e;exact(su h3 h1).elim
  case dct ks ys=>cases n<;>simp[aI]at o'
  all_goals cases h'
 | n,.dct ks xs,_,_,o,_,_,_=>by cases n<;>simp[aI]at o
 | n,.ref _,_,_,_,_,h,_=>by simp only[Rep]at h
 | n,.non,d',v,_,o',h,h'=>by
  simp only[Rep]at h;subst h
  cases d'<;>simp only[Rep]at h'<;>first | rfl | (obtain⟨_,_,e,_⟩:=h';cases e;done) | (cases h';done)
 | n,.bl b,d',v,_,o',h,h'=>by
  simp only[Rep]at h;subst h
  cases d'<;>simp only[Rep]at h'<;>first | (obtain⟨_,_,e,_⟩:=h';cases e;done) | (cases h';rfl) | (cases h';done)
 | n,.int b,d',v,_,o',h,h'=>by
  simp only[Rep]at h;subst h
  cases d'<;>simp only[Rep]at h'<;>first | (obtain⟨_,_,e,_⟩:=h';cases e;done) | (cases h';rfl) | (cases h';done)
 | n,.str b,d',v,_,o',h,h'=>by
  simp only[Rep]at h;subst h
  cases d'<;>simp only[Rep]at h'<;>first | (obtain⟨_,_,e,_⟩:=h';cases e;done) | (cases h';rfl) | (cases h';done)
theorem aT.uniq:∀ (n:Nat) (xs ys:List D) (vs:List V),(∀ x∈xs,aI n x=true)->(∀ x∈ys,aI n x=true)->aT Z H xs vs->aT Z H ys vs->xs=ys
 | n,[],ys,vs,_,_,h,h'=>by
  rw[h.nil_inv]at h';cases ys with
  | nil=>rfl
  | cons y ys=>obtain⟨_,_,e,_⟩:=h'.cons_inv;cases e
 | n,x::xs,ys,vs,o,o',h,h'=>by
  obtain⟨v,r,rfl,h1,h2⟩:=h.cons_inv;cases ys with
  | nil=>exact absurd h'.nil_inv (by simp)
  | cons y ys=>
   obtain⟨w,r',e,h3,h4⟩:=h'.cons_inv;cases e;rw[Rep.uniq n x y v (o x (by simp)) (o' y (by simp)) h1 h3,aT.uniq n xs ys r (fun z hz=>o z (by simp[hz])) (fun z hz=>o' z (by simp[hz])) h2 h4]
end
mutual
theorem vZ:∀ (n:Nat) (d:D),aI n d=true->eA d d=true
 | n,.lst xs,o=>by
  cases n with
  | zero=>simp[aI]at o
  | succ n=>simp only[eA];exact fB n xs (by simpa[aI] using o)
 | n,.tup xs,o=>by
  cases n with
  | zero=>simp[aI]at o
  | succ n=>simp only[eA];exact fB n xs (by simpa[aI] using o)
 | n,.dct _ _,o=>by cases n<;>simp[aI]at o
 | n,.ref _,o=>by cases n<;>simp[aI]at o
 | n,.non,_=>by simp[eA]
 | n,.bl _,_=>by simp[eA]
 | n,.int _,_=>by simp[eA]
 | n,.str _,_=>by simp[eA]
theorem fB:∀ (n:Nat) (xs:List D),(∀ x∈xs,aI n x=true)->eB xs xs=true
 | n,[],_=>by simp[eB]
 | n,x::xs,o=>by
  simp only[eB,vZ n x (o x (by simp)),fB n xs fun z hz=>o z (by simp[hz]),Bool.and_self]
end
theorem dW:∀ (xs ys:List D),((List.range (min xs.length ys.length)).all (fun j=>eA (xs.getD j .non) (ys.getD j .non)) && (xs.length == ys.length))=eB xs ys
 | [],[]=>by simp[eB]
 | [],_::_=>by simp[eB]
 | _::_,[]=>by simp[eB]
 | x::xs,y::ys=>by
  have ih:=dW xs ys;have e1:min (x::xs).length (y::ys).length=min xs.length ys.length + 1:=by simp only[List.length_cons];omega
  rw[e1,List.range_succ_eq_map,List.all_cons,List.all_map,eB,← ih];simp[Function.comp_def,Bool.and_assoc]
theorem kz{xs ys:List D}(h:xs.length=ys.length):(List.range xs.length).all (fun j=>eA (xs.getD j .non) (ys.getD j .non))=eB xs ys:=by
 have e:=dW xs ys;rw[← h,Nat.min_self]at e;simpa using e
theorem nr{xs ys:List D}(h:xs.length≠ys.length):eB xs ys=false:=by
 rw[← dW xs ys];simp[h]
end
inductive Vw (s:Shared) (Z:Addr->Prop) (H:Hp):D->Value->Prop where
 | non:Vw s Z H .non .none
 | bl (b:Bool):Vw s Z H (.bl b) (.bool b)
 | int (i:Int) (t:Tok):Vw s Z H (.int i) (.int i t)
 | str (x:Str) (t:Tok):Vw s Z H (.str x) (.str x t)
 | lst {l:Addr} {its:List Value} {vs:List V} {ds:List D}:s.heap.IsList l its.toArray->Vals vs its->Rd H l (.lst vs)/\aT Z H ds vs->Vw s Z H (.lst ds) (.ref l)
 | tup {l:Addr} {its:List Value} {vs:List V} {ds:List D}:s.heap.IsTuple l its.toArray->Vals vs its->Rd H l (.tup vs)/\aT Z H ds vs->Vw s Z H (.tup ds) (.ref l)
section
variable{X:Cx}{pins:List (Addr×Obj)}{σ:L2.St}{Z:Addr->Prop}{H:Hp}{s:Shared}{A:Around}
theorem fY{n:Nat}{d:D}{v:V}{u:Value}(I:Inv X pins σ H s)(nw:Now Z H d v)(r:RelV v u)(o:aI n d=true):Vw s Z H d u:=by
 cases d with
 | non=>cases fN nw;cases r;exact .non
 | bl b=>cases ig nw;cases r;exact .bl b
 | int b=>cases bA nw;obtain⟨t,rfl⟩:=r;exact .int b t
 | str b=>cases c9 nw;obtain⟨t,rfl⟩:=r;exact .str b t
 | lst ds=>
  obtain⟨a,vs,rfl,h1,h2⟩:=c_ nw;cases r;obtain⟨its,rv,p,hz⟩:=I.list (kx (K:=X.K) h1);exact .lst p.isList rv ⟨h1,h2⟩
 | tup ds=>
  obtain⟨a,vs,rfl,_,h1,h2⟩:=fO nw;cases r;obtain⟨its,rv,p,hz⟩:=I.tuple (uq (K:=X.K) h1);exact .tup p rv ⟨h1,h2⟩
 | dct ks ds=>cases n<;>simp[aI]at o
 | ref k=>cases n<;>simp[aI]at o
theorem nu{vs:List V}{its:List Value}(r:Vals vs its){j:Nat}(hj:j < its.length):∃ v,vs[j]?=some v/\RelV v its[j]:=by
 have hl:=r.length;have h1:vs[j]?=some vs[j]:=by simp[show j < vs.length by omega]
 obtain⟨u,h2,h3⟩:=r.get h1;rw[List.getElem?_eq_getElem hj]at h2;cases h2;exact⟨_,h1,h3⟩
theorem fC{n:Nat}(I:Inv X pins σ H s)(ih:∀ (A:Around) (dx dy:D) (u w:Value),A.units + n < cLine->aI n dx=true->aI n dy=true->Vw s Z H dx u->Vw s Z H dy w->SeqAt.EqAt A s u w (eA dx dy))
  {ds es:List D} (ox:∀ x∈ds,aI n x=true) (oy:∀ x∈es,aI n x=true) (hu:A.units + (n + 1) < cLine) {vs ws:List V} {its its2:List Value} (rl:Vals vs its) (rm:Vals ws its2) (pl:aT Z H ds vs) (pm:aT Z H es ws) :
  ∀ j (h1:j < its.toArray.size) (h2:j < its2.toArray.size),SeqAt.EqAt A.in1 s its.toArray[j] its2.toArray[j] (eA (ds.getD j .non) (es.getD j .non)):=by
 intro j h1 h2;have n1:=rl.length;have n2:=rm.length;have k1:=pl.length;have k2:=pm.length;simp only[List.size_toArray]at h1 h2;simp only[List.getElem_toArray];obtain⟨v,hv,rv⟩:=nu rl h1;obtain⟨w,hw,p_⟩:=nu rm h2;have e1:ds[j]?=some (ds.getD j .non):=by simp[List.getD,show j < ds.length by omega]
 have e2:es[j]?=some (es.getD j .non):=by simp[List.getD,show j < es.length by omega]
 obtain⟨v',hv',p1⟩:=pl.get e1;obtain⟨w',hw',p2⟩:=pm.get e2;rw[hv]at hv';cases hv'
 rw[hw]at hw';cases hw'
 have o1:=ox _ (List.mem_of_getElem? e1);have o2:=oy _ (List.mem_of_getElem? e2);exact ih A.in1 _ _ _ _ (by show A.units + 1 + n < cLine;omega) o1 o2 (fY I p1.now rv o1) (fY I p2.now p_ o2)
theorem fD(I:Inv X pins σ H s):∀ (n:Nat) (A:Around) (dx dy:D) (u w:Value),A.units + n < cLine->aI n dx=true->aI n dy=true->Vw s Z H dx u->Vw s Z H dy w->SeqAt.EqAt A s u w (eA dx dy):=by
 intro n
 induction n with
 | zero=>
  intro A dx dy u w hn ox oy hx hy;have hu:A.units < cLine:=by omega
  cases hx with
  | non=>
   cases hy with
   | non=>exact SeqAt.EqAt.same _
   | bl b2=>exact SeqAt.EqAt.none_bool _
   | int i2 t2=>exact SeqAt.EqAt.none_int _ _
   | str x2 t2=>exact SeqAt.EqAt.none_str _ _
   | @lst m its2 vs2 dn hm rm pm=>exact SeqAt.EqAt.none_list hm hu
   | @tup m its2 vs2 dn hm rm pm=>exact SeqAt.EqAt.none_tuple hm hu
  | bl b=>
   cases hy with
   | non=>exact SeqAt.EqAt.bool_none _
   | bl b2=>exact SeqAt.EqAt.bool_bool _ _
   | int i2 t2=>exact SeqAt.EqAt.bool_int _ _ _
   | str x2 t2=>exact SeqAt.EqAt.bool_str _ _ _
   | @lst m its2 vs2 dn hm rm pm=>exact SeqAt.EqAt.bool_list _ hm hu
   | @tup m its2 vs2 dn hm rm pm=>exact SeqAt.EqAt.bool_tuple _ hm hu
  | int i t=>
   cases hy with
   | non=>exact SeqAt.EqAt.int_none _ _
   | bl b2=>exact SeqAt.EqAt.int_bool _ _ _
   | int i2 t2=>exact SeqAt.EqAt.int_int _ _ _ _
   | str x2 t2=>exact SeqAt.EqAt.int_str _ _ _ _
   | @lst m its2 vs2 dn hm rm pm=>exact SeqAt.EqAt.int_list _ _ hm hu
   | @tup m its2 vs2 dn hm rm pm=>exact SeqAt.EqAt.int_tuple _ _ hm hu
  | str x t=>
   cases hy with
   | non=>exact SeqAt.EqAt.str_none _ _
   | bl b2=>exact SeqAt.EqAt.str_bool _ _ _
   | int i2 t2=>exact SeqAt.EqAt.str_int _ _ _ _
   | str x2 t2=>exact SeqAt.EqAt.str_str _ _ _ _
   | @lst m its2 vs2 dn hm rm pm=>exact SeqAt.EqAt.str_list _ _ hm hu
   | @tup m its2 vs2 dn hm rm pm=>exact SeqAt.EqAt.str_tuple _ _ hm hu
  | @lst l its vs ds hl rl pl=>
   cases hy with
   | non=>exact SeqAt.EqAt.list_none hl hu
   | bl b2=>exact SeqAt.EqAt.list_bool _ hl hu
   | int i2 t2=>exact SeqAt.EqAt.list_int _ _ hl hu
   | str x2 t2=>exact SeqAt.EqAt.list_str _ _ hl hu
   | @lst m its2 vs2 dn hm rm pm=>
    simp[aI]at ox
   | @tup m its2 vs2 dn hm rm pm=>exact SeqAt.EqAt.list_tuple hl hm hu
  | @tup l its vs ds hl rl pl=>
   cases hy with
   | non=>exact SeqAt.EqAt.tuple_none hl hu
   | bl b2=>exact SeqAt.EqAt.tuple_bool _ hl hu
   | int i2 t2=>exact SeqAt.EqAt.tuple_int _ _ hl hu
   | str x2 t2=>exact SeqAt.EqAt.tuple_str _ _ hl hu
   | @lst m its2 vs2 dn hm rm pm=>exact SeqAt.EqAt.tuple_list hl hm hu
   | @tup m its2 vs2 dn hm rm pm=>
    simp[aI]at ox
 | succ n ih=>
  intro A dx dy u w hn ox oy hx hy;have hu:A.units < cLine:=by omega
  cases hx with
  | non=>
   cases hy with
   | non=>exact SeqAt.EqAt.same _
   | bl b2=>exact SeqAt.EqAt.none_bool _
   | int i2 t2=>exact SeqAt.EqAt.none_int _ _
   | str x2 t2=>exact SeqAt.EqAt.none_str _ _
   | @lst m its2 vs2 dn hm rm pm=>exact SeqAt.EqAt.none_list hm hu
   | @tup m its2 vs2 dn hm rm pm=>exact SeqAt.EqAt.none_tuple hm hu
  | bl b=>
   cases hy with
   | non=>exact SeqAt.EqAt.bool_none _
   | bl b2=>exact SeqAt.EqAt.bool_bool _ _
   | int i2 t2=>exact SeqAt.EqAt.bool_int _ _ _
   | str x2 t2=>exact SeqAt.EqAt.bool_str _ _ _
   | @lst m its2 vs2 dn hm rm pm=>exact SeqAt.EqAt.bool_list _ hm hu
   | @tup m its2 vs2 dn hm rm pm=>exact SeqAt.EqAt.bool_tuple _ hm hu
  | int i t=>
   cases hy with
   | non=>exact SeqAt.EqAt.int_none _ _
   | bl b2=>exact SeqAt.EqAt.int_bool _ _ _
   | int i2 t2=>exact SeqAt.EqAt.int_int _ _ _ _
   | str x2 t2=>exact SeqAt.EqAt.int_str _ _ _ _
   | @lst m its2 vs2 dn hm rm pm=>exact SeqAt.EqAt.int_list _ _ hm hu
   | @tup m its2 vs2 dn hm rm pm=>exact SeqAt.EqAt.int_tuple _ _ hm hu
  | str x t=>
   cases hy with
   | non=>exact SeqAt.EqAt.str_none _ _
   | bl b2=>exact SeqAt.EqAt.str_bool _ _ _
   | int i2 t2=>exact SeqAt.EqAt.str_int _ _ _ _
   | str x2 t2=>exact SeqAt.EqAt.str_str _ _ _ _
   | @lst m its2 vs2 dn hm rm pm=>exact SeqAt.EqAt.str_list _ _ hm hu
   | @tup m its2 vs2 dn hm rm pm=>exact SeqAt.EqAt.str_tuple _ _ hm hu
  | @lst l its vs ds hl rl pl=>
   cases hy with
   | non=>exact SeqAt.EqAt.list_none hl hu
   | bl b2=>exact SeqAt.EqAt.list_bool _ hl hu
   | int i2 t2=>exact SeqAt.EqAt.list_int _ _ hl hu
   | str x2 t2=>exact SeqAt.EqAt.list_str _ _ hl hu
   | @lst m its2 vs2 dn hm rm pm=>
    have n1:=rl.length;have n2:=rm.length;have k1:=pl.2.length;have k2:=pm.2.length;simp only[eA]
    by_cases hll:l=m
    ·subst hll
     have e0:=qG pl.1 pm.1;subst e0;have e1:=aT.uniq n ds dn vs (by simpa[aI] using ox) (by simpa[aI] using oy) pl.2 pm.2
     subst e1;rw[fB n ds (by simpa[aI] using ox)]
     exact SeqAt.EqAt.same _
    ·refine SeqAt.EqAt.of_refs hll ?_
     by_cases hsz:ds.length=dn.length
     ·rw[← kz hsz]
      have:=SeqAt.RcAt.lists hl hm (by simp only[List.size_toArray];omega) hu (fC I ih (by simpa[aI] using ox) (by simpa[aI] using oy) hn rl rm pl.2 pm.2)
      rw[show its.toArray.size=ds.length by simp only[List.size_toArray];omega]at this
      exact this
     ·rw[nr hsz]
      exact SeqAt.RcAt.lists_lengths hl hm (by simp only[List.size_toArray,bne_iff_ne];omega) hu
   | @tup m its2 vs2 dn hm rm pm=>exact SeqAt.EqAt.list_tuple hl hm hu
  | @tup l its vs ds hl rl pl=>
   cases hy with
   | non=>exact SeqAt.EqAt.tuple_none hl hu
   | bl b2=>exact SeqAt.EqAt.tuple_bool _ hl hu
   | int i2 t2=>exact SeqAt.EqAt.tuple_int _ _ hl hu
   | str x2 t2=>exact SeqAt.EqAt.tuple_str _ _ hl hu
   | @lst m its2 vs2 dn hm rm pm=>exact SeqAt.EqAt.tuple_list hl hm hu
   | @tup m its2 vs2 dn hm rm pm=>
    have n1:=rl.length;have n2:=rm.length;have k1:=pl.2.length;have k2:=pm.2.length;simp only[eA]
    by_cases hll:l=m
    ·subst hll
     have e0:=qH pl.1 pm.1;subst e0;have e1:=aT.uniq n ds dn vs (by simpa[aI] using ox) (by simpa[aI] using oy) pl.2 pm.2
     subst e1;rw[fB n ds (by simpa[aI] using ox)]
     exact SeqAt.EqAt.same _
    ·refine SeqAt.EqAt.of_refs hll ?_
     rw[← dW ds dn];have:=SeqAt.RcAt.tuples hl hm hu (fC I ih (by simpa[aI] using ox) (by simpa[aI] using oy) hn rl rm pl.2 pm.2)
     rw[show its.toArray.size=ds.length by simp only[List.size_toArray];omega,show its2.toArray.size=dn.length by simp only[List.size_toArray];omega]at this
     exact this
theorem v3(I:Inv X pins σ H s){n:Nat}{dx dy:D}{u w:Value}(hn:A.units + (n + 1) < cLine)(ox:aI (n + 1) dx=true)(oy:aI (n + 1) dy=true)(hx:Vw s Z H dx u)(hy:Vw s Z H dy w):SeqAt.RcAt A s u w (eA dx dy):=by
 have hu:A.units < cLine:=by omega
 cases hx with
 | non=>
  cases hy with
  | non=>exact SeqAt.RcAt.none_none
  | bl b2=>exact SeqAt.RcAt.none_bool _
  | int i2 t2=>exact SeqAt.RcAt.none_int _ _
  | str x2 t2=>exact SeqAt.RcAt.none_str _ _
  | @lst m its2 vs2 dn hm rm pm=>exact SeqAt.RcAt.none_list hm hu
  | @tup m its2 vs2 dn hm rm pm=>exact SeqAt.RcAt.none_tuple hm hu
 | bl b=>
  cases hy with
  | non=>exact SeqAt.RcAt.bool_none _
  | bl b2=>exact SeqAt.RcAt.bool_bool _ _
  | int i2 t2=>exact SeqAt.RcAt.bool_int _ _ _
  | str x2 t2=>exact SeqAt.RcAt.bool_str _ _ _
  | @lst m its2 vs2 dn hm rm pm=>exact SeqAt.RcAt.bool_list _ hm hu
  | @tup m its2 vs2 dn hm rm pm=>exact SeqAt.RcAt.bool_tuple _ hm hu
 | int i t=>
  cases hy with
  | non=>exact SeqAt.RcAt.int_none _ _
  | bl b2=>exact SeqAt.RcAt.int_bool _ _ _
  | int i2 t2=>exact SeqAt.RcAt.int_int _ _ _ _
  | str x2 t2=>exact SeqAt.RcAt.int_str _ _ _ _
  | @lst m its2 vs2 dn hm rm pm=>exact SeqAt.RcAt.int_list _ _ hm hu
  | @tup m its2 vs2 dn hm rm pm=>exact SeqAt.RcAt.int_tuple _ _ hm hu
 | str x t=>
  cases hy with
  | non=>exact SeqAt.RcAt.str_none _ _
  | bl b2=>exact SeqAt.RcAt.str_bool _ _ _
  | int i2 t2=>exact SeqAt.RcAt.str_int _ _ _ _
  | str x2 t2=>exact SeqAt.RcAt.str_str _ _ _ _
  | @lst m its2 vs2 dn hm rm pm=>exact SeqAt.RcAt.str_list _ _ hm hu
  | @tup m its2 vs2 dn hm rm pm=>exact SeqAt.RcAt.str_tuple _ _ hm hu
 | @lst l its vs ds hl rl pl=>
  cases hy with
  | non=>exact SeqAt.RcAt.list_none hl hu
  | bl b2=>exact SeqAt.RcAt.list_bool _ hl hu
  | int i2 t2=>exact SeqAt.RcAt.list_int _ _ hl hu
  | str x2 t2=>exact SeqAt.RcAt.list_str _ _ hl hu
  | @lst m its2 vs2 dn hm rm pm=>
   have n1:=rl.length;have n2:=rm.length;have k1:=pl.2.length;have k2:=pm.2.length;simp only[eA]
   by_cases hsz:ds.length=dn.length
   ·rw[← kz hsz]
    have:=SeqAt.RcAt.lists hl hm (by simp only[List.size_toArray];omega) hu (fC I (fD I n) (by simpa[aI] using ox) (by simpa[aI] using oy) hn rl rm pl.2 pm.2)
    rw[show its.toArray.size=ds.length by simp only[List.size_toArray];omega]at this
    exact this
   ·rw[nr hsz]
    exact SeqAt.RcAt.lists_lengths hl hm (by simp only[List.size_toArray,bne_iff_ne];omega) hu
  | @tup m its2 vs2 dn hm rm pm=>exact SeqAt.RcAt.list_tuple hl hm hu
 | @tup l its vs ds hl rl pl=>
  cases hy with
  | non=>exact SeqAt.RcAt.tuple_none hl hu
  | bl b2=>exact SeqAt.RcAt.tuple_bool _ hl hu
  | int i2 t2=>exact SeqAt.RcAt.tuple_int _ _ hl hu
  | str x2 t2=>exact SeqAt.RcAt.tuple_str _ _ hl hu
  | @lst m its2 vs2 dn hm rm pm=>exact SeqAt.RcAt.tuple_list hl hm hu
  | @tup m its2 vs2 dn hm rm pm=>
   have n1:=rl.length;have n2:=rm.length;have k1:=pl.2.length;have k2:=pm.2.length;simp only[eA];rw[← dW ds dn];have:=SeqAt.RcAt.tuples hl hm hu (fC I (fD I n) (by simpa[aI] using ox) (by simpa[aI] using oy) hn rl rm pl.2 pm.2)
   rw[show its.toArray.size=ds.length by simp only[List.size_toArray];omega,show its2.toArray.size=dn.length by simp only[List.size_toArray];omega]at this
   exact this
theorem qI(I:Inv X pins σ H s){n:Nat}{dx dy:D}{u w:Value}(hn:A.units + (n + 1) < cLine)(ox:aI (n + 1) dx=true)(oy:aI (n + 1) dy=true)(hx:Vw s Z H dx u)(hy:Vw s Z H dy w):SeqAt.RcNeAt A s u w (!eA dx dy):=by
 have hu:A.units < cLine:=by omega
 cases hx with
 | non=>
  cases hy with
  | non=>exact SeqAt.RcNeAt.none_none
  | bl b2=>exact SeqAt.RcNeAt.none_bool _
  | int i2 t2=>exact SeqAt.RcNeAt.none_int _ _
  | str x2 t2=>exact SeqAt.RcNeAt.none_str _ _
  | @lst m its2 vs2 dn hm rm pm=>exact SeqAt.RcNeAt.none_list hm hu
  | @tup m its2 vs2 dn hm rm pm=>exact SeqAt.RcNeAt.none_tuple hm hu
 | bl b=>
  cases hy with
  | non=>exact SeqAt.RcNeAt.bool_none _
  | bl b2=>exact SeqAt.RcNeAt.bool_bool _ _
  | int i2 t2=>exact SeqAt.RcNeAt.bool_int _ _ _
  | str x2 t2=>exact SeqAt.RcNeAt.bool_str _ _ _
  | @lst m its2 vs2 dn hm rm pm=>exact SeqAt.RcNeAt.bool_list _ hm hu
  | @tup m its2 vs2 dn hm rm pm=>exact SeqAt.RcNeAt.bool_tuple _ hm hu
 | int i t=>
  cases hy with
  | non=>exact SeqAt.RcNeAt.int_none _ _
  | bl b2=>exact SeqAt.RcNeAt.int_bool _ _ _
  | int i2 t2=>exact SeqAt.RcNeAt.int_int _ _ _ _
  | str x2 t2=>exact SeqAt.RcNeAt.int_str _ _ _ _
  | @lst m its2 vs2 dn hm rm pm=>exact SeqAt.RcNeAt.int_list _ _ hm hu
  | @tup m its2 vs2 dn hm rm pm=>exact SeqAt.RcNeAt.int_tuple _ _ hm hu
 | str x t=>
  cases hy with
  | non=>exact SeqAt.RcNeAt.str_none _ _
  | bl b2=>exact SeqAt.RcNeAt.str_bool _ _ _
  | int i2 t2=>exact SeqAt.RcNeAt.str_int _ _ _ _
  | str x2 t2=>exact SeqAt.RcNeAt.str_str _ _ _ _
  | @lst m its2 vs2 dn hm rm pm=>exact SeqAt.RcNeAt.str_list _ _ hm hu
  | @tup m its2 vs2 dn hm rm pm=>exact SeqAt.RcNeAt.str_tuple _ _ hm hu
 | @lst l its vs ds hl rl pl=>
  cases hy with
  | non=>exact SeqAt.RcNeAt.list_none hl hu
  | bl b2=>exact SeqAt.RcNeAt.list_bool _ hl hu
  | int i2 t2=>exact SeqAt.RcNeAt.list_int _ _ hl hu
  | str x2 t2=>exact SeqAt.RcNeAt.list_str _ _ hl hu
  | @lst m its2 vs2 dn hm rm pm=>
   have n1:=rl.length;have n2:=rm.length;have k1:=pl.2.length;have k2:=pm.2.length;simp only[eA]
   by_cases hsz:ds.length=dn.length
   ·rw[← kz hsz]
    have:=SeqAt.RcNeAt.lists hl hm (by simp only[List.size_toArray];omega) hu (fC I (fD I n) (by simpa[aI] using ox) (by simpa[aI] using oy) hn rl rm pl.2 pm.2)
    rw[show its.toArray.size=ds.length by simp only[List.size_toArray];omega]at this
    exact this
   ·rw[nr hsz]
    exact SeqAt.RcNeAt.lists_lengths hl hm (by simp only[List.size_toArray,bne_iff_ne];omega) hu
  | @tup m its2 vs2 dn hm rm pm=>exact SeqAt.RcNeAt.list_tuple hl hm hu
 | @tup l its vs ds hl rl pl=>
  cases hy with
  | non=>exact SeqAt.RcNeAt.tuple_none hl hu
  | bl b2=>exact SeqAt.RcNeAt.tuple_bool _ hl hu
  | int i2 t2=>exact SeqAt.RcNeAt.tuple_int _ _ hl hu
  | str x2 t2=>exact SeqAt.RcNeAt.tuple_str _ _ hl hu
  | @lst m its2 vs2 dn hm rm pm=>exact SeqAt.RcNeAt.tuple_list hl hm hu
  | @tup m its2 vs2 dn hm rm pm=>
   have n1:=rl.length;have n2:=rm.length;have k1:=pl.2.length;have k2:=pm.2.length;simp only[eA];rw[← dW ds dn];have:=SeqAt.RcNeAt.tuples hl hm hu (fC I (fD I n) (by simpa[aI] using ox) (by simpa[aI] using oy) hn rl rm pl.2 pm.2)
   rw[show its.toArray.size=ds.length by simp only[List.size_toArray];omega,show its2.toArray.size=dn.length by simp only[List.size_toArray];omega]at this
   exact this
end
end Mir
namespace Mir
open PySem PySem.Spec PyProof.Rows L2
theorem Vw.uniq{s:Shared}{Z:Addr->Prop}{H:Hp}{n:Nat}{d d':D}{u:Value}(h:Vw s Z H d u)(h':Vw s Z H d' u)(o:aI n d=true)(o':aI n d'=true):d=d':=by
 cases h with
 | non=>cases h';rfl
 | bl b=>cases h';rfl
 | int i t=>cases h';rfl
 | str x t=>cases h';rfl
 | @lst l its vs ds hl rl pl=>
  cases h' with
  | @lst _ its2 vs2 dn hm rm pm=>
   cases qG pl.1 pm.1;cases n with
   | zero=>simp[aI]at o
   | succ n=>rw[aT.uniq n ds dn vs (by simpa[aI] using o) (by simpa[aI] using o') pl.2 pm.2]
  | @tup _ its2 vs2 dn hm rm pm=>exact(su pl.1 pm.1).elim
 | @tup l its vs ds hl rl pl=>
  cases h' with
  | @tup _ its2 vs2 dn hm rm pm=>
   cases qH pl.1 pm.1;cases n with
   | zero=>simp[aI]at o
   | succ n=>rw[aT.uniq n ds dn vs (by simpa[aI] using o) (by simpa[aI] using o') pl.2 pm.2]
  | @lst _ its2 vs2 dn hm rm pm=>exact(su pm.1 pl.1).elim
section
variable{X:Cx}{pins:List (Addr×Obj)}{σ:L2.St}{Z:Addr->Prop}{H:Hp}{s:Shared}
def jK(s:Shared)(Z:Addr->Prop)(H:Hp)(dx:D)(u:Value):Bool:=@decide (∃ d,aI 8 d=true/\Vw s Z H d u/\eA d dx=true) (Classical.propDecidable _)
theorem sv{dx d:D}{u:Value}(o:aI 8 d=true)(h:Vw s Z H d u):jK s Z H dx u=eA d dx:=by
 unfold jK;cases e:eA d dx with
 | true=>exact @decide_eq_true _ (Classical.propDecidable _) ⟨d,o,h,e⟩
 | false=>
  refine @decide_eq_false _ (Classical.propDecidable _) ?_;rintro⟨d',o',h',e'⟩;rw[Vw.uniq h' h o' o,e]at e';cases e'
theorem kA(I:Inv X pins σ H s){dx:D}:∀ {ds:List D} {vs:List V} {its:List Value},aT Z H ds vs->Vals vs its->(∀ d∈ds,aI 8 d=true)->its.any (jK s Z H dx)=ds.any fun d=>eA d dx
 | [],_,_,h,r,_=>by rw[h.nil_inv]at r;cases r;rfl
 | d::ds,_,_,h,r,o=>by
  obtain⟨v,vr,rfl,h1,h2⟩:=h.cons_inv;cases r with
  | cons r1 r2=>
   rw[List.any_cons,List.any_cons,kA I h2 r2 fun z hz=>o z (by simp[hz]),sv (o d (by simp)) (fY I h1.now r1 (o d (by simp)))]
theorem kB(I:Inv X pins σ H s){A:Around}{dx:D}{w:Value}(hu:A.units + 8 < cLine)(ox:aI 8 dx=true)(hx:Vw s Z H dx w) :
  ∀ {ds:List D} {vs:List V} {its:List Value},aT Z H ds vs->Vals vs its->(∀ d∈ds,aI 8 d=true)->∀ u∈its,SeqAt.EqAt A s u w (jK s Z H dx u)
 | [],_,_,h,r,_,u,hm=>by rw[h.nil_inv]at r;cases r;simp at hm
 | d::ds,_,_,h,r,o,u,hm=>by
  obtain⟨v,vr,rfl,h1,h2⟩:=h.cons_inv;cases r with
  | cons r1 r2=>
   rcases List.mem_cons.mp hm with e | hm
   ·subst e
    have vw:=fY I h1.now r1 (o d (by simp))
    rw[sv (o d (by simp)) vw]
    exact fD I 8 A d dx _ w hu (o d (by simp)) ox vw hx
   ·exact kB I hu ox hx h2 r2 (fun z hz=>o z (by simp[hz])) u hm
end
section
variable{X:Cx}{Γ:lL}{bw:Bool}{a b e:Expr}{ca cb cc c:Ex}{pos:Pos}
def v5(op:CmpOp):R2:=fun x y H Q=>∃ Z dx dy k,Now Z H dx x/\Now Z H dy y/\dI op dx dy=.ok k/\Q (.bl k) H
theorem oV{Z:Addr->Prop}{H:Hp}{ks:List L2.Key}{ds:List D}{x:V}(h:Now Z H (.dct ks ds) x):∃ a,x=.ref a:=by
 have h:Rep Z H (.dct ks ds) x:=h;simp only[Rep]at h;obtain⟨a,_,e,_⟩:=h;exact⟨a,e⟩
theorem BK{Z:Addr->Prop}{H:Hp}{dx dy:D}{x y:V}{k:Bool}{u v:Value}(nx:Now Z H dx x)(ny:Now Z H dy y)(rx:RelV x u)(ry:RelV y v)(h:isD dx dy=.ok k):plainIs u v=true/\(u == v)=k:=by
 have yX:∀ {ds:List D} {x:V} {u:Value},Now Z H (.lst ds) x->RelV x u->∃ a,u=.ref a:=fun n r=>by
  obtain⟨a,_,rfl,_⟩:=c_ n;exact⟨a,r⟩
 have G5:∀ {ds:List D} {x:V} {u:Value},Now Z H (.tup ds) x->RelV x u->∃ a,u=.ref a:=fun n r=>by
  obtain⟨a,_,rfl,_⟩:=fO n;exact⟨a,r⟩
 cases dy with
 | non=>
  cases fN ny;cases ry;cases dx with
  | non=>cases fN nx;cases rx;cases h;exact⟨rfl,rfl⟩
  | bl b=>cases ig nx;cases rx;cases h;exact⟨rfl,rfl⟩
  | int i=>cases bA nx;obtain⟨t,rfl⟩:=rx;cases h;exact⟨rfl,rfl⟩
  | str i=>cases c9 nx;obtain⟨t,rfl⟩:=rx;cases h;exact⟨rfl,rfl⟩
  | lst ds=>obtain⟨a,rfl⟩:=yX nx rx;cases h;exact⟨rfl,rfl⟩
  | tup ds=>obtain⟨a,rfl⟩:=G5 nx rx;cases h;exact⟨rfl,rfl⟩
  | dct ks ds=>obtain⟨a,rfl⟩:=oV nx;cases rx;cases h;exact⟨rfl,rfl⟩
  | ref n=>exact(show False by simpa only [Now,Rep] using nx).elim
 | bl c=>
  cases ig ny;cases ry;cases dx with
  | non=>cases fN nx;cases rx;cases h;exact⟨rfl,rfl⟩
  | bl b=>cases ig nx;cases rx;cases h;exact⟨rfl,by cases b<;>cases c<;>rfl⟩
  | int i=>cases bA nx;obtain⟨t,rfl⟩:=rx;cases h;exact⟨rfl,rfl⟩
  | str i=>cases c9 nx;obtain⟨t,rfl⟩:=rx;cases h;exact⟨rfl,rfl⟩
  | lst ds=>obtain⟨a,rfl⟩:=yX nx rx;cases h;exact⟨rfl,rfl⟩
  | tup ds=>obtain⟨a,rfl⟩:=G5 nx rx;cases h;exact⟨rfl,rfl⟩
  | dct ks ds=>cases h
  | ref n=>cases h
 | int _=>cases dx<;>cases h
 | str _=>cases dx<;>cases h
 | lst _=>cases dx<;>cases h
 | tup _=>cases dx<;>cases h
 | dct _ _=>cases dx<;>cases h
 | ref _=>cases dx<;>cases h
theorem BL{pins:List (Addr×Obj)}{s:Shared}{σ:L2.St}{H:Hp}{x y:V}{u v:Value}{Q:VK}(hu:X.A.units + 64 < cLine)(I:Inv X pins σ H s)(rx:RelV x u)(ry:RelV y v)
  {Z:Addr->Prop} {dx dy:D} {k:Bool} (nx:Now Z H dx x) (ny:Now Z H dy y) (e:inD dx dy=.ok k) :
  (Q (.bl k) H->wpAny (model X.prog X.w) X.A (compareOp .In u v) (EP X pins σ Q) X.xe s)/\(Q (.bl !k) H->wpAny (model X.prog X.w) X.A (compareOp .NotIn u v) (EP X pins σ Q) X.xe s):=by
 unfold inD at e;split at e
 ·rename_i ys
  split at e
  ·rename_i hc
   cases e;simp only[Bool.and_eq_true]at hc;obtain⟨ox,os⟩:=hc;have os:=List.all_eq_true.mp os;obtain⟨l,vs,rfl,h1,h2⟩:=c_ ny;cases ry;obtain⟨its,rv,p,hz⟩:=I.list (kx (K:=X.K) h1);have vw:=fY I nx rx ox;have hm:∀ w,w∈its.toArray->SeqAt.EqAt X.A.in1 s w u (jK s Z H dx w):=fun w hw=>kB I (A:=X.A.in1) (by show X.A.units + 1 + 8 < cLine;omega) ox vw h2 rv os w (by simpa using hw)
   have ea:its.toArray.any (jK s Z H dx)=ys.any fun y=>eA y dx:=by
    rw[← kA I h2 rv os];simp
   exact⟨fun q=>SeqAt.in_listAt (jK s Z H dx) p.isList hm ⟨.bl _,H,I,rfl,by rw[ea];exact q⟩,fun q=>SeqAt.notIn_listAt (jK s Z H dx) p.isList hm ⟨.bl _,H,I,rfl,by rw[ea];exact q⟩⟩
  ·cases e
 ·rename_i ys
  split at e
  ·rename_i hc
   cases e;simp only[Bool.and_eq_true]at hc;obtain⟨ox,os⟩:=hc;have os:=List.all_eq_true.mp os;obtain⟨l,vs,rfl,_,h1,h2⟩:=fO ny;cases ry;obtain⟨its,rv,p,hz⟩:=I.tuple (uq (K:=X.K) h1);have vw:=fY I nx rx ox;have hm:∀ w,w∈its.toArray->SeqAt.EqAt X.A.in1 s w u (jK s Z H dx w):=fun w hw=>kB I (A:=X.A.in1) (by show X.A.units + 1 + 8 < cLine;omega) ox vw h2 rv os w (by simpa using hw)
   have ea:its.toArray.any (jK s Z H dx)=ys.any fun y=>eA y dx:=by
    rw[← kA I h2 rv os];simp
   exact⟨fun q=>SeqAt.in_tupleAt (jK s Z H dx) p hm ⟨.bl _,H,I,rfl,by rw[ea];exact q⟩,fun q=>SeqAt.notIn_tupleAt (jK s Z H dx) p hm ⟨.bl _,H,I,rfl,by rw[ea];exact q⟩⟩
  ·cases e
 ·cases e
  cases c9 nx;cases c9 ny;exact⟨fun q=>ub pins s σ H _ _ u v Q I rx ry ⟨_,_,rfl,rfl,q⟩,fun q=>mW pins s σ H _ _ u v Q I rx ry ⟨_,_,rfl,rfl,q⟩⟩
 ·cases e
theorem jc(hu:X.A.units + 64 < cLine)(op:CmpOp):gf X (compareOp op) (v5 op):=by
 intro pins s σ H x y u v Q I rx ry h;obtain⟨Z,dx,dy,k,nx,ny,e,q⟩:=h;have fin:EP X pins σ Q (.bool k) s:=⟨.bl k,H,I,rfl,q⟩
 have intc:∀ {i j:Int} {o:CmpOp} {g:Int->Int->Bool},gf X (compareOp o) (yx fun i j=>.bl (g i j))->dx=.int i->dy=.int j->k=g i j->wpAny (model X.prog X.w) X.A (compareOp o u v) (EP X pins σ Q) X.xe s:=by
  intro i j o g h1 e1 e2 e3;subst e1 e2 e3;cases bA nx;cases bA ny;exact h1 pins s σ H _ _ u v Q I rx ry ⟨_,_,rfl,rfl,q⟩
 cases op with
 | Eq=>
  unfold dI at e;dsimp only at e;split at e
  ·rename_i hc
   cases e;simp only[Bool.and_eq_true]at hc;exact v3 I (n:=7) (by omega) hc.1 hc.2 (fY I nx rx hc.1) (fY I ny ry hc.2) X.prog X.w X.xe _ fin
  ·cases e
 | NotEq=>
  unfold dI at e;dsimp only at e;split at e
  ·rename_i hc
   cases e;simp only[Bool.and_eq_true]at hc;exact qI I (n:=7) (by omega) hc.1 hc.2 (fY I nx rx hc.1) (fY I ny ry hc.2) X.prog X.w X.xe _ fin
  ·cases e
 | Lt=>cases dx<;>cases dy<;>first | (cases e;exact intc GF rfl rfl rfl) | cases e
 | LtE=>cases dx<;>cases dy<;>first | (cases e;exact intc GG rfl rfl rfl) | cases e
 | Gt=>cases dx<;>cases dy<;>first | (cases e;exact intc GH rfl rfl rfl) | cases e
 | GtE=>cases dx<;>cases dy<;>first | (cases e;exact intc GI rfl rfl rfl) | cases e
 | In=>
  have e:inD dx dy=.ok k:=by cases dx<;>cases dy<;>exact e
  exact(BL hu I rx ry nx ny e).1 q
 | NotIn=>
  have e:(do let b ← inD dx dy;Out.ok (!b))=.ok k:=by cases dx<;>cases dy<;>exact e
  obtain⟨b,e1,e2⟩:=ku e;cases e2;exact(BL hu I rx ry nx ny e1).2 q
 | Is=>
  have e:isD dx dy=.ok k:=by cases dx<;>cases dy<;>exact e
  obtain⟨h1,h2⟩:=BK nx ny rx ry e;exact wpAny_is_plain h1 (by rw[h2];exact fin)
 | IsNot=>
  have e:(do let b ← isD dx dy;Out.ok (!b))=.ok k:=by cases dx<;>cases dy<;>exact e
  obtain⟨b,e1,e2⟩:=ku e;cases e2;obtain⟨h1,h2⟩:=BK nx ny rx ry e1;exact wpAny_isNot_plain h1 (by rw[h2];exact fin)
theorem Dm{op:CmpOp}{dx dy:D}{x y:V}{Z:Addr->Prop}{H:Hp}{own:Bool}{d:D}{Q:VK}(nx:Now Z H dx x)(ny:Now Z H dy y)(dom:∀ a,Z a->H a≠none)
  (ee:(do let r ← dI op dx dy;Out.ok (false,D.bl r))=.ok (own,d)) (k:∀ v H' Z',eJ Z H Z' H'->d_ bw own Z' H H' d v->Q v H'):v5 op x y H Q:=by
 obtain⟨r,e1,e2⟩:=ku ee;cases e2;exact⟨Z,dx,dy,r,nx,ny,e1,k _ H Z (eJ.refl dom) (.rep (fA rfl))⟩
end
theorem PT.imp{X:Cx}{e:Expr}{t t':TT}(h:PT X e t)(i:∀ σ H Q,t' σ H Q->t σ H Q):PT X e t':=fun pins s σ H Q I q=>h pins s σ H Q I (i σ H Q q)
theorem PW.imp{X:Cx}{e:Expr}{t t':TT}(h:PW X e t)(i:∀ σ H Q,t' σ H Q->t σ H Q):PW X e t':=fun wh pins s σ H Q I q=>h wh pins s σ H Q I (i σ H Q q)
section
variable{X:Cx}{Γ:lL}{bw:Bool}{a b e:Expr}{ca cb cc c:Ex}{pos:Pos}
theorem Dn{Z:Addr->Prop}{H:Hp}{d:D}{x:V}{t:Bool}{K:PySem.W.Frag}(n:Now Z H d x)(h:jJ d=some t):oA K x H t:=by
 cases d with
 | non=>cases fN n;cases h;rfl
 | bl b=>cases ig n;cases h;rfl
 | int b=>cases bA n;cases h;rfl
 | str b=>
  cases c9 n;simp only[jJ]at h;split at h
  ·rename_i hs
   cases h;refine⟨bx hs,?_⟩
   have e:((b.length:Int) != 0)=(b.length != 0):=by
    rw[Bool.eq_iff_iff];simp only[bne_iff_ne,ne_eq];omega
   rw[e]
  ·cases h
 | lst ds=>
  obtain⟨a,vs,rfl,h1,h2⟩:=c_ n;cases h;refine .inl ⟨vs,kx h1,?_⟩;have:=h2.length;cases ds<;>cases vs<;>simp at this ⊢
 | tup ds=>
  obtain⟨a,vs,rfl,_,h1,h2⟩:=fO n;cases h;refine .inr (.inl ⟨vs,uq h1,?_⟩);have:=h2.length;cases ds<;>cases vs<;>simp at this ⊢
 | dct ks ds=>cases h
 | ref k=>cases h
end
def v7(Z:Addr->Prop)(H:Hp):List D->List V->Prop
 | [],vs=>vs=[]
 | d::ds,vs=>∃ v r,vs=v::r/\Now Z H d v/\v7 Z H ds r
section
variable{Z Z':Addr->Prop}{H H':Hp}
theorem v7.one{d:D}{xs:List V}(h:v7 Z H [d] xs):∃ x,xs=[x]/\Now Z H d x:=by
 obtain⟨v,r,e,h1,h2⟩:=h;exact⟨v,by rw[e,show r=[] from h2],h1⟩
end
def Args(bw:Bool)(Z:Addr->Prop)(H:Hp)(ds:List D)(vs:List V):Prop:=if bw=true then v7 Z H ds vs else aT Z H ds vs
theorem PA.imp{X:Cx}{e:List Expr}{t t':TA}(h:PA X e t)(i:∀ σ H Q,t' σ H Q->t σ H Q):PA X e t':=fun pos pins s σ H Q I q=>h pos pins s σ H Q I (i σ H Q q)
section
variable{X:Cx}{Γ:lL}{bw:Bool}{a b e:Expr}{es:List Expr}{ca cb cc c cs:Ex}{pos p:Pos}
theorem v8{Z:Addr->Prop}{H:Hp}{ds:List D}{vs:List V}{i:Int}{d:D}(h:aT Z H ds vs)(e:jH ds i=some d):∃ v,jH vs i=some v/\Rep Z H d v:=by
 unfold jH at e ⊢;rw[h.length];cases q:vI ds.length i with
 | none=>rw[q]at e;cases e
 | some j=>
  rw[q]at e;exact h.get e
theorem Dp{dx dy:D}{x y:V}{Z:Addr->Prop}{H:Hp}{own:Bool}{d:D}{Q:VK}{K:PySem.W.Frag}(nx:Now Z H dx x)(ny:Now Z H dy y)(dom:∀ a,Z a->H a≠none)(ee:qF dx dy=.ok (own,d))
  (k:∀ v H' Z',eJ Z H Z' H'->d_ bw own Z' H H' d v->Q v H'):L4 K x y H Q:=by
 unfold qF at ee;split at ee
 ·obtain⟨l,xs,rfl,h1,h2⟩:=c_ nx
  cases bA ny;split at ee
  ·rename_i d' hd
   cases ee;obtain⟨v,hv,rv⟩:=v8 h2 hd;exact .inl ⟨l,xs,_,v,rfl,rfl,kx h1,hv,k v H Z (eJ.refl dom) (.rep rv)⟩
  ·cases ee
 ·obtain⟨l,xs,rfl,_,h1,h2⟩:=fO nx
  cases bA ny;split at ee
  ·rename_i d' hd
   cases ee;obtain⟨v,hv,rv⟩:=v8 h2 hd;exact .inr (.inl ⟨l,xs,_,v,rfl,rfl,uq h1,hv,k v H Z (eJ.refl dom) (.rep rv)⟩)
  ·cases ee
 ·cases c9 nx
  cases bA ny;split at ee
  ·rename_i hs
   split at ee
   ·rename_i c' hd
    cases ee;exact .inr (.inr ⟨_,_,c',rfl,rfl,bx hs,hd,k _ H Z (eJ.refl dom) (.rep (fA rfl))⟩)
   ·cases ee
  ·cases ee
 ·cases ee
theorem v9{α:Type}(xs:List α)(lo hi:Option Int):(cX xs lo hi).length<=xs.length:=by
 unfold cX;rw[List.length_take,List.length_drop];omega
theorem sx(n d:Nat)(v:Int):max 0 (min (if v < 0 then v + (n:Int) else v) (n:Int))=((HT.cv n d (some v):Nat):Int):=by
 show max 0 (min (if v < 0 then v + (n:Int) else v) (n:Int))=(((if v < 0 then (v + (n:Int)).toNat else min v.toNat n):Nat):Int)
 by_cases hv:v < 0
 ·simp only[if_pos hv];omega
 ·simp only[if_neg hv];omega
theorem v_{a b:Int}{p q:Nat}(ha:a=p)(hb:b=q):sliceRange a b 1=(List.range (q - p)).map fun k=>p + k:=by
 subst ha hb;unfold sliceRange;simp only[show((1:Int) > 0)=True from by simp,if_true]
 by_cases hlt:(p:Int) < q
 ·rw[if_pos hlt]
  have e3:(((q:Int) - p + 1 - 1) / 1).toNat=q - p:=by first | omega | (simp;done) | (simp;omega)
  rw[e3];refine List.map_congr_left fun k _ => ?_
  omega
 ·rw[if_neg hlt]
  have:q - p=0:=by omega
  rw[this];rfl
theorem kC(lo hi:Option Int)(n:Nat):Builtin.Str.strSliceIndices lo hi 1 n=(List.range (HT.cv n n hi - HT.cv n 0 lo)).map fun k=>HT.cv n 0 lo + k:=by
 unfold Builtin.Str.strSliceIndices;simp only[show((1:Int) > 0)=True from by simp,if_true]
 refine v_ ?_ ?_
 ·cases lo with
  | none=>rfl
  | some v=>exact sx n 0 v
 ·cases hi with
  | none=>rfl
  | some v=>exact sx n n v
theorem ur:∀ (n a:Nat) (l:List Nat),a + n<=l.length->((List.range n).map fun k=>a + k).filterMap (fun i=>l[i]?)=(l.drop a).take n:=by
 intro n
 induction n with
 | zero=>intro a l _;simp
 | succ n ih=>
  intro a l h;have hlt:a + n < l.length:=by omega
  rw[List.range_succ,List.map_append,List.filterMap_append,ih a l (by omega),List.take_add_one,List.getElem?_drop]
  simp[List.getElem?_eq_getElem hlt]
theorem wa(x:Str)(lo hi:Option Int):(Builtin.Str.strSliceIndices lo hi 1 x.length).filterMap (x.cps[·]?)=cX x.cps.toList lo hi:=by
 have hn:x.cps.toList.length=x.length:=by simp[Str.length]
 have l1:=HT.m3 x.length 0 (Nat.zero_le _) lo;have l2:=HT.m3 x.length x.length (Nat.le_refl _) hi;rw[kC];unfold cX;rw[hn];generalize HT.cv x.length 0 lo=p at *;generalize HT.cv x.length x.length hi=q at *
 by_cases Y3:p<=q
 ·have:=ur (q - p) p x.cps.toList (by rw[hn];omega)
  simpa using this
 ·have:q - p=0:=by omega
  rw[this];simp
def G6:V->Option Int->Option Int->Hp->VK->Prop:=fun x lo hi H Q=>∃ z,x=.str z/\z.length<=sizeLine/\Q (.str ⟨(cX z.cps.toList lo hi).toArray⟩) H
theorem kD:yJ X G6:=by
 intro pins s σ H x v vl vu lo hi sl Q I rx hs pl pu h;obtain⟨z,rfl,hz,q⟩:=h;obtain⟨t,rfl⟩:=rx;refine⟨"str",_,F.slot_str_getitem.lookup,typeIs_str _ _ _,?_⟩
 have part:∀ {w:Value} {o:Option Int},IsPart w o->∃ p:Option (Int×Tok),w=partValue p/\p.map (·.1)=o:=fun h=>by
  cases h with
  | none=>exact⟨none,rfl,rfl⟩
  | int i t=>exact⟨some (i,t),rfl,rfl⟩
 obtain⟨p1,e1,m1⟩:=part pl;obtain⟨p2,e2,m2⟩:=part pu;subst e1 e2;refine wpAny_getItem_str_slice (l:=p1) (u:=p2) (st:=none) hs rfl ?_
 have ep:(slicePicked z p1 p2 none).filterMap (z.cps[·]?)=cX z.cps.toList lo hi:=by
  unfold slicePicked;rw[m1,m2];exact wa z lo hi
 have hl:(cX z.cps.toList lo hi).length<=z.length:=by
  have:=v9 z.cps.toList lo hi;simpa[Str.length] using this
 unfold sliceMade;split
 ·rename_i hc
  have hw:(slicePicked z p1 p2 none).length=z.length:=by
   simp only[Bool.and_eq_true,beq_iff_eq]at hc;exact hc.2
  have ez:(⟨(cX z.cps.toList lo hi).toArray⟩:Str)=z:=by
   unfold slicePicked at hw;rw[m1,m2]at hw;have hw:(Builtin.Str.strSliceIndices lo hi 1 z.length).length=z.length:=hw;rw[kC,List.length_map,List.length_range]at hw;have l2:=HT.m3 z.length z.length (Nat.le_refl _) hi;have hn:z.cps.toList.length=z.length:=by simp[Str.length]
   have ec:cX z.cps.toList lo hi=z.cps.toList:=by
    unfold cX;rw[hn]
    by_cases h0:z.length=0
    ·have:z.cps.toList=[]:=List.eq_nil_of_length_eq_zero (by rw[hn];exact h0)
     rw[this];simp
    ·have p0:HT.cv z.length 0 lo=0:=by omega
     rw[p0,List.drop_zero,List.take_of_length_le (by rw[hn];omega)]
   rw[ec]
  refine⟨.str z,H,I,⟨t,rfl⟩,?_⟩;rw[ez]at q;exact q
 ·rw[ep]
  refine⟨?_,.str _,H,I.tok _,⟨_,rfl⟩,q⟩
  show(cX z.cps.toList lo hi).toArray.size<=sizeLine
  rw[List.size_toArray];omega
def V_(K:PySem.W.Frag):V->Option Int->Option Int->Hp->VK->Prop:=fun x lo hi H Q=>GS K x lo hi H Q\/G6 x lo hi H Q
end
noncomputable def kE(F:List D->Out Rs):Sp:=fun vs H Q _=>
 ∃ Z ds own d,(∀ a,Z a->H a≠none)/\aT Z H ds vs/\F ds=.ok (own,d)/\∀ v H' Z',eJ Z H Z' H'->d_ false own Z' H H' d v->Q v H'
theorem d_.weak{bw own:Bool}{Z:Addr->Prop}{Hb H:Hp}{d:D}{v:V}(h:d_ false own Z Hb H d v):d_ bw own Z Hb H d v:=by
 unfold d_ at h ⊢;split
 ·rename_i ho;rw[if_pos ho]at h;exact h
 ·rename_i ho;rw[if_neg ho,if_neg Bool.false_ne_true]at h
  split
  ·exact h.now
  ·exact h
section
variable{X:Cx}{Γ:lL}{bw:Bool}{a b e:Expr}{es:List Expr}{ca cb cc c cs:Ex}{pos p:Pos}
structure G7(X:Cx)(k:Nat)(x:Str)(F:List D->Out Rs):Prop where
 ex:∃ (f:Addr) (fd:FuncData) (ps:List Str),X.mg x=some (.ref f)/\PySem.W.keepIn X.K (.ref f)=true/\Binds X.K fd ps []/\cU X.prog X.w X.K X.mg X.base jS k f fd ps (kE F)
inductive eK (h:Heap):Value->Bool->Prop where
 | non:eK h .none false
 | bl (b:Bool):eK h (.bool b) b
 | int (i:Int) (t:Tok):eK h (.int i t) (i != 0)
 | str (x:Str) (t:Tok):x.length<=sizeLine->eK h (.str x t) ((x.length:Int) != 0)
 | lst {l:Addr} {its:Array Value}:h.IsList l its->its.size<=sizeLine->eK h (.ref l) (!its.isEmpty)
 | tup {l:Addr} {its:Array Value}:IsTup h l its->its.size<=sizeLine->eK h (.ref l) (!its.isEmpty)
theorem eK.keep{h h':Heap}{u:Value}{t:Bool}(k:∀ b o,(u=.ref b)->h.get? b=some o->h'.get? b=some o)(x:eK h u t):eK h' u t:=by
 cases x with
 | non=>exact .non
 | bl=>exact .bl _
 | int i t=>exact .int i t
 | str x t z=>exact .str x t z
 | lst q z=>obtain⟨o,h1,h2⟩:=q;exact .lst ⟨o,k _ o rfl h1,h2⟩ z
 | tup q z=>obtain⟨o,h1,h2⟩:=q;exact .tup ⟨o,k _ o rfl h1,h2⟩ z
theorem eK.run{prog:Program}{w:World}{A:Around}{E:Value->Shared->Prop}{s:Shared}{u:Value}{t:Bool}{Q:Bool->Shared->Prop}(x:eK s.heap u t)(q:∀ tk,Q t { s with toks:=tk }):wpAny (model prog w) A (truthy u) Q E s:=by
 have hl:=gn;cases x with
 | non=>exact truthy_none (q s.toks)
 | bl=>exact wpAny_truthy_bool (q s.toks)
 | int i t=>exact PySem.P.truthy_int (q s.toks)
 | str x t z=>exact PySem.P.truthy_str (by omega) (q _)
 | lst h z=>exact wpAny_truthy_list h (by omega) (q _)
 | tup h z=>exact truthy_tuple h (by omega) (q _)
theorem wb{pins:List (Addr×Obj)}{σ:L2.St}{H:Hp}{s:Shared}{Z:Addr->Prop}{d:D}{v:V}{u:Value}{t:Bool}(I:Inv X pins σ H s)(n:Now Z H d v)(r:RelV v u)(h:jJ d=some t):eK s.heap u t:=by
 cases d with
 | non=>cases fN n;cases r;cases h;exact .non
 | bl b=>cases ig n;cases r;cases h;exact .bl _
 | int b=>cases bA n;obtain⟨k,rfl⟩:=r;cases h;exact .int _ _
 | str b=>
  cases c9 n;obtain⟨k,rfl⟩:=r;simp only[jJ]at h;split at h
  ·rename_i hs
   cases h
   have e:((b.length:Int) != 0)=(b.length != 0):=by
    rw[Bool.eq_iff_iff];simp only[bne_iff_ne,ne_eq];omega
   rw[← e];exact .str b k (bx hs)
  ·cases h
 | lst ds=>
  obtain⟨a,vs,rfl,h1,h2⟩:=c_ n;cases r;cases h;obtain⟨its,rv,p,hz⟩:=I.list (kx (K:=X.K) h1)
  have e:(!ds.isEmpty) = !its.toArray.isEmpty:=by
   have k1:=h2.length;have k2:=rv.length;cases ds<;>cases vs<;>cases its<;>simp at k1 k2 ⊢
  rw[e];exact .lst p.isList (by rw[List.size_toArray,← rv.length];exact hz)
 | tup ds=>
  obtain⟨a,vs,rfl,_,h1,h2⟩:=fO n;cases r;cases h;obtain⟨its,rv,p,hz⟩:=I.tuple (uq (K:=X.K) h1)
  have e:(!ds.isEmpty) = !its.toArray.isEmpty:=by
   have k1:=h2.length;have k2:=rv.length;cases ds<;>cases vs<;>cases its<;>simp at k1 k2 ⊢
  rw[e];exact .tup p (by rw[List.size_toArray,← rv.length];exact hz)
 | dct ks ds=>cases h
 | ref k=>cases h
section
variable{prog:Program}{w:World}{A:Around}{R:Result->Shared->Prop}{J:Addr}{fp wr:List Addr}{n:Nat}{P:Nat->Value->Prop}{T:Nat->Heap->Prop}
theorem wc(W:Walks prog w A.in1 J fp wr n P T)(tr:Nat->Bool)(G:Heap->Prop)(gk:∀ h h':Heap,G h->(∀ b o,b∉wr->h.get? b=some o->h'.get? b=some o)->G h')
  (ht:∀ i v (h:Heap),P i v->G h->eK h v (tr i)):∀ (m i:Nat) (s:Shared),n - i=m->i<=n->T i s.heap->G s.heap ->
  (∀ h' tk,(∀ b o,b∉wr->s.heap.get? b=some o->h'.get? b=some o)->R (.ok (.ret (.bool (((List.range n).drop i).all tr)))) { s with heap:=h',toks:=tk }) ->
  codeAny (model prog w) A (.builtin "all.loop" ⟨[.ref J],[]⟩) R s:=by
 intro m
 induction m with
 | zero=>
  intro i s hm hi st g fin;obtain rfl:i=n:=by omega
  refine codeAny_builtin PySem.F.entry_all_loop ?_;rw[Around.under_plainId PySem.F.plain_all_loop _];refine wpAny_bind (m:=pyNext (.ref J)) (W.done s _ _ st fun h' tk kp=>wpAny_bind (wpAny_rule (wpAny_pure ?_)))
  have q:=fin h' tk kp;rw[List.drop_of_length_le (by simp)]at q
  exact q
 | succ m ih=>
  intro i s hm hi st g fin;have lt:i < n:=by omega
  have dr:(List.range n).drop i=i::(List.range n).drop (i + 1):=by
   rw[List.drop_eq_getElem_cons (by simpa using lt)];simp
  refine codeAny_builtin PySem.F.entry_all_loop ?_;rw[Around.under_plainId PySem.F.plain_all_loop _];refine wpAny_bind (m:=pyNext (.ref J)) (W.item i s _ _ lt st fun v h' tk pv st' kp => ?_)
  have g':G h':=gk _ _ g kp;refine wpAny_bind (wpAny_holding ((ht i v h' pv g').run (s:={ s with heap:=h',toks:=tk }) fun tk2 => ?_))
  refine wpAny_bind (wpAny_letGo ?_);cases e:tr i with
  | true=>
   simp only[if_true];refine wpAny_pure ⟨plainId_quiet PySem.F.plain_all_loop _,ih (i + 1) _ (by omega) lt st' g' fun h2 tk3 yY => ?_⟩
   have q:=fin h2 tk3 fun b o nb z=>yY b o nb (kp b o nb z)
   rw[dr,List.all_cons,e,Bool.true_and]at q;exact q
  | false=>
   simp only[Bool.false_eq_true,if_false];refine wpAny_bind (wpAny_rule (wpAny_pure ?_));have q:=fin h' tk2 kp;rw[dr,List.all_cons,e,Bool.false_and]at q;exact q
theorem wd(W:Walks prog w A.in1 J fp wr n P T)(tr:Nat->Bool)(G:Heap->Prop)(gk:∀ h h':Heap,G h->(∀ b o,b∉wr->h.get? b=some o->h'.get? b=some o)->G h')
  (ht:∀ i v (h:Heap),P i v->G h->eK h v (tr i)):∀ (m i:Nat) (s:Shared),n - i=m->i<=n->T i s.heap->G s.heap ->
  (∀ h' tk,(∀ b o,b∉wr->s.heap.get? b=some o->h'.get? b=some o)->R (.ok (.ret (.bool (((List.range n).drop i).any tr)))) { s with heap:=h',toks:=tk }) ->
  codeAny (model prog w) A (.builtin "any.loop" ⟨[.ref J],[]⟩) R s:=by
 intro m
 induction m with
 | zero=>
  intro i s hm hi st g fin;obtain rfl:i=n:=by omega
  refine codeAny_builtin PySem.F.entry_any_loop ?_;rw[Around.under_plainId PySem.F.plain_any_loop _];refine wpAny_bind (m:=pyNext (.ref J)) (W.done s _ _ st fun h' tk kp=>wpAny_bind (wpAny_rule (wpAny_pure ?_)))
  have q:=fin h' tk kp;rw[List.drop_of_length_le (by simp)]at q
  exact q
 | succ m ih=>
  intro i s hm hi st g fin;have lt:i < n:=by omega
  have dr:(List.range n).drop i=i::(List.range n).drop (i + 1):=by
   rw[List.drop_eq_getElem_cons (by simpa using lt)];simp
  refine codeAny_builtin PySem.F.entry_any_loop ?_;rw[Around.under_plainId PySem.F.plain_any_loop _];refine wpAny_bind (m:=pyNext (.ref J)) (W.item i s _ _ lt st fun v h' tk pv st' kp => ?_)
  have g':G h':=gk _ _ g kp;refine wpAny_bind (wpAny_holding ((ht i v h' pv g').run (s:={ s with heap:=h',toks:=tk }) fun tk2 => ?_))
  refine wpAny_bind (wpAny_letGo ?_);cases e:tr i with
  | false=>
   simp only[Bool.false_eq_true,if_false];refine wpAny_pure ⟨plainId_quiet PySem.F.plain_any_loop _,ih (i + 1) _ (by omega) lt st' g' fun h2 tk3 yY => ?_⟩
   have q:=fin h2 tk3 fun b o nb z=>yY b o nb (kp b o nb z)
   rw[dr,List.any_cons,e,Bool.false_or]at q;exact q
  | true=>
   simp only[if_true];refine wpAny_bind (wpAny_rule (wpAny_pure ?_));have q:=fin h' tk2 kp;rw[dr,List.any_cons,e,Bool.true_or]at q;exact q
end
theorem nv:∀ {ds:List D} {bs:List Bool},fx ds=some bs->bs.length=ds.length
 | [],_,h=>by cases h;rfl
 | d::ds,bs,h=>by
  simp only[fx]at h;split at h
  ·rename_i b bs' h1 h2
   cases h;rw[List.length_cons,List.length_cons,nv h2]
  ·cases h
theorem sy:∀ {ds:List D} {bs:List Bool} {i:Nat} {d:D},fx ds=some bs->ds[i]?=some d->∃ b,bs[i]?=some b/\jJ d=some b
 | [],_,_,_,_,h=>by simp at h
 | d::ds,bs,i,d',h,hd=>by
  simp only[fx]at h;split at h
  ·rename_i b bs' h1 h2
   cases h;cases i with
   | zero=>simp at hd;subst hd;exact⟨b,rfl,h1⟩
   | succ i=>
    obtain⟨c,q1,q2⟩:=sy (i:=i) h2 (by simpa using hd)
    exact⟨c,by simpa using q1,q2⟩
  ·cases h
theorem all_range:∀ (bs:List Bool),((List.range bs.length).all fun i=>(bs[i]?).getD true)=bs.all id
 | []=>rfl
 | b::bs=>by
  rw[List.length_cons,List.range_succ_eq_map,List.all_cons,List.all_map,List.all_cons,← all_range bs];rfl
theorem any_range:∀ (bs:List Bool),((List.range bs.length).any fun i=>(bs[i]?).getD false)=bs.any id
 | []=>rfl
 | b::bs=>by
  rw[List.length_cons,List.range_succ_eq_map,List.any_cons,List.any_map,List.any_cons,← any_range bs];rfl
def Od(K:PySem.W.Frag):List V->Hp->VK->Prop:=fun xs H Q=>∃ Z ds bs x,xs=[x]/\Now Z H (.lst ds) x/\fx ds=some bs/\Q (.bl (bs.all id)) H
def Oe(K:PySem.W.Frag):List V->Hp->VK->Prop:=fun xs H Q=>∃ Z ds bs x,xs=[x]/\Now Z H (.lst ds) x/\fx ds=some bs/\Q (.bl (bs.any id)) H
theorem we{pins:List (Addr×Obj)}{σ:L2.St}{H:Hp}{s:Shared}{Z:Addr->Prop}{ds:List D}{vs:List V}{its:List Value}{bs:List Bool}(I:Inv X pins σ H s)(h2:aT Z H ds vs)(rv:Vals vs its)(hb:fx ds=some bs)(dflt:Bool) :
  ∀ (i:Nat) (v:Value),its.toArray[i]?=some v->eK s.heap v ((bs[i]?).getD dflt):=by
 intro i v hv;have hv:its[i]?=some v:=by simpa using hv
 obtain⟨hi,ev⟩:=List.getElem?_eq_some_iff.mp hv;obtain⟨x,hx,rx⟩:=nu rv hi;have k1:=h2.length;have k2:=rv.length;have ed:ds[i]?=some ds[i]:=by simp[show i < ds.length by omega]
 obtain⟨y,hy,ry⟩:=h2.get ed;rw[hx]at hy;cases hy
 obtain⟨b,q1,q2⟩:=sy hb ed;rw[q1];rw[ev]at rx;exact wb I ry.now rx q2
theorem wg(hc:X.calm=true):di X (.builtin "all") (Od X.K):=by
 intro pins s σ H xs us Q I r h;obtain⟨Z,ds,bs,x,rfl,nw,hb,q⟩:=h;obtain⟨u,rfl,rx⟩:=vals1 r;obtain⟨l,vs,rfl,h1,h2⟩:=c_ nw;cases rx;obtain⟨its,rv,p,hz⟩:=I.list (kx (K:=X.K) h1);have hlt:l < s.heap.objs.size:=by obtain⟨_,e,_⟩:=p.isList;exact Heap.lt_size e
 have tr:=we I h2 rv hb true;refine call_function_tree PySem.F.kind_all PySem.F.plain_all PySem.F.entry_all (PySem.F.args_all1 _) ?_;unfold Builtin.«all»;refine wpAny_bind (m:=oneArg "all" _) (wpAny_pure (wpAny_bind (wpAny_pyIter_list p.isList ?_)))
 refine wpAny_pure ⟨plainId_quiet PySem.F.plain_all_loop _,wc (Walks.list (A:=X.A.in1) (I.ok.hd hc) s.heap.objs.size l (Nat.ne_of_lt hlt) its.toArray) (fun i=>(bs[i]?).getD true)
  (fun h=>∀ b o,b≠s.heap.objs.size->s.heap.get? b=some o->h.get? b=some o) (fun h h' g kp b o nb e=>kp b o (by simpa using nb) (g b o nb e))
  (fun i v h pv g=>(tr i v pv).keep fun b o e z=>g b o (Nat.ne_of_lt (Heap.lt_size z)) z) _ 0 _ rfl (Nat.zero_le _) ⟨⟨_,Heap.get?_push_size _ rfl,rfl,rfl⟩,p.isList.push _⟩ (fun b o nb e=>Heap.get?_push_of_some _ e) fun h' tk kp => ?_⟩
 have e:((List.range its.toArray.size).drop 0).all (fun i=>(bs[i]?).getD true)=bs.all id:=by
  rw[List.drop_zero,List.size_toArray,← rv.length,h2.length,← nv hb];exact all_range bs
 rw[e]
 exact⟨.bl _,H,I.kept (h':=h') (t':=tk) fun b o z=>kp b o (by
  have:=Nat.ne_of_lt (Heap.lt_size z);simpa using this) (Heap.get?_push_of_some _ z),rfl,q⟩
theorem wj(hc:X.calm=true):di X (.builtin "any") (Oe X.K):=by
 intro pins s σ H xs us Q I r h;obtain⟨Z,ds,bs,x,rfl,nw,hb,q⟩:=h;obtain⟨u,rfl,rx⟩:=vals1 r;obtain⟨l,vs,rfl,h1,h2⟩:=c_ nw;cases rx;obtain⟨its,rv,p,hz⟩:=I.list (kx (K:=X.K) h1);have hlt:l < s.heap.objs.size:=by obtain⟨_,e,_⟩:=p.isList;exact Heap.lt_size e
 have tr:=we I h2 rv hb false;refine call_function_tree PySem.F.kind_any PySem.F.plain_any PySem.F.entry_any (PySem.F.args_any1 _) ?_;unfold Builtin.«any»;refine wpAny_bind (m:=oneArg "any" _) (wpAny_pure (wpAny_bind (wpAny_pyIter_list p.isList ?_)))
 refine wpAny_pure ⟨plainId_quiet PySem.F.plain_any_loop _,wd (Walks.list (A:=X.A.in1) (I.ok.hd hc) s.heap.objs.size l (Nat.ne_of_lt hlt) its.toArray) (fun i=>(bs[i]?).getD false)
  (fun h=>∀ b o,b≠s.heap.objs.size->s.heap.get? b=some o->h.get? b=some o) (fun h h' g kp b o nb e=>kp b o (by simpa using nb) (g b o nb e))
  (fun i v h pv g=>(tr i v pv).keep fun b o e z=>g b o (Nat.ne_of_lt (Heap.lt_size z)) z) _ 0 _ rfl (Nat.zero_le _) ⟨⟨_,Heap.get?_push_size _ rfl,rfl,rfl⟩,p.isList.push _⟩ (fun b o nb e=>Heap.get?_push_of_some _ e) fun h' tk kp => ?_⟩
 have e:((List.range its.toArray.size).drop 0).any (fun i=>(bs[i]?).getD false)=bs.any id:=by
  rw[List.drop_zero,List.size_toArray,← rv.length,h2.length,← nv hb];exact any_range bs
 rw[e]
 exact⟨.bl _,H,I.kept (h':=h') (t':=tk) fun b o z=>kp b o (by
  have:=Nat.ne_of_lt (Heap.lt_size z);simpa using this) (Heap.get?_push_of_some _ z),rfl,q⟩
end
section
variable{X:Cx}{Γ:lL}{bw:Bool}{a b e:Expr}{es:List Expr}{ca cb cc c cs:Ex}{pos p:Pos}
noncomputable def jT.nm:jT->Str
 | .len=>"len" | .all=>"all" | .any=>"any" | .sorted=>"sorted" | .list=>"list" | .tuple=>"tuple" | .int=>"int" | .min=>"min" | .max=>"max" | .bool=>"bool"
theorem jd{Z:Addr->Prop}{H:Hp}{d:D}{v:V}{Q:VK}(dom:∀ a,Z a->H a≠none)(k:∀ v H' Z',eJ Z H Z' H'->d_ bw false Z' H H' d v->Q v H')(h:fy d=some v):Q v H:=
 k _ H Z (eJ.refl dom) (.rep (fA h))
noncomputable def Ty.nm:Ty->Str
 | .int=>"int" | .str=>"str" | .bool=>"bool" | .list=>"list" | .tuple=>"tuple" | .dict=>"dict"
noncomputable def Ty.id:Ty->String
 | .int=>"int" | .str=>"str" | .bool=>"bool" | .list=>"list" | .tuple=>"tuple" | .dict=>"dict"
theorem yZ(t:Ty):bootBuiltins t.nm=some (.type t.id):=by cases t<;>decide +kernel
theorem sD(K:PySem.W.Frag)(t:Ty):PySem.W.kitOne K (.type "NoneType") (.type t.id)=some false/\PySem.W.kitOne K (.type "bool") (.type t.id)=some (t == .bool || t == .int)/\PySem.W.kitOne K (.type "int") (.type t.id)=some (t == .int) /\
  PySem.W.kitOne K (.type "str") (.type t.id)=some (t == .str)/\PySem.W.kitOne K (.type "list") (.type t.id)=some (t == .list)/\PySem.W.kitOne K (.type "tuple") (.type t.id)=some (t == .tuple)/\PySem.W.kitOne K (.type "dict") (.type t.id)=some (t == .dict):=by
 cases t<;>refine⟨?_,?_,?_,?_,?_,?_,?_⟩<;>with_unfolding_all rfl
def G8(K:PySem.W.Frag):List V->Hp->VK->Prop:=fun xs H Q=>∃ Z d x t b,xs=[x,.ty (Ty.id t)]/\Now Z H d x/\vX d t=some b/\Q (.bl b) H
theorem jx{K:PySem.W.Frag}{H:Hp}{a:Addr}{vs:List V}{X:Cx}{pins:List (Addr×Obj)}{σ:L2.St}{s:Shared}(I:Inv X pins σ H s)(h:Rd H a (.tup vs)):∃ o,s.heap.get? a=some o/\o.cls=.type "tuple":=by
 obtain⟨_,its,_,o,h1,h2,_⟩:vs.length<=sizeLine/\∃ its:List Value,Vals vs its/\IsTup s.heap a its.toArray:=Rd.ok h I.hok;exact⟨o,h1,h2⟩
theorem wk:di X (.builtin "isinstance") (G8 X.K):=by
 intro pins s σ H xs us Q I r h;obtain⟨Z,d,x,t,b,rfl,nw,ht,q⟩:=h;obtain⟨u,w',rfl,rx,rt⟩:=vals2 r;cases (show w'=Value.type (Ty.id t) from rt)
 obtain⟨t1,t2,t3,t4,t5,t6,t7⟩:=sD X.K t;have fin:∀ tk,EP X pins σ Q (.bool b) { s with toks:=tk }:=fun tk=>⟨.bl b,H,I.tok tk,rfl,q⟩
 cases d with
 | non=>cases fN nw;cases ht;exact cO I rx .non t1 fin
 | bl c=>cases ig nw;cases ht;exact cO I rx (.bl c) t2 fin
 | int c=>cases bA nw;cases ht;exact cO I rx (.int c) t3 fin
 | str c=>cases c9 nw;cases ht;exact cO I rx (.str c) t4 fin
 | lst ds=>
  obtain⟨a,vs,rfl,h1,h2⟩:=c_ nw;cases ht;rcases h1 with h1 | ⟨o,h1⟩
  ·exact cO I rx (.lst h1) t5 fin
  ·exact cO I rx (.dD h1) t5 fin
 | tup ds=>
  obtain⟨a,vs,rfl,_,h1,h2⟩:=fO nw;cases ht;cases rx;exact PySem.W.kia_one PySem.W.kitx_tuple I.iy (jx (K:=X.K) I h1) t6 (fun z=>nomatch z) fin
 | dct ks ds=>
  have nw:Rep Z H (.dct ks ds) x:=nw;simp only[Rep]at nw;obtain⟨a,vs,rfl,_,h1,h2⟩:=nw;cases ht;exact cO I rx (.dK h1) t7 fin
 | ref k=>cases ht
end
abbrev sE(ifs:List Expr)(env:Env):Sem Bool:=forIn ifs true fun c r=>if r=true then do let ok ← isTrue c env (eval c env);pure (ForInStep.yield ok) else pure (ForInStep.yield r)
section
variable{prog:Program}{w:World}{A:Around}{R:Result->Shared->Prop}{s:Shared}
theorem uu{elt tg iter:Expr}{ifs:List Expr}{scope:Scope}{pos:Pos}{it acc:Value}{env:Env}(J:Nat->Shared->Prop)
  (turn:∀ n s,J n s->wpAny (model prog w) A (pyNext it) (fun r s1=>match r with
   | none=>R (.ok .next) s1
   | some v=>wpAny (model prog w) A (letOwnedTupleGo tg it v) (fun _ s2=>wpAny (model prog w) A (assign tg env v) (fun _ s3=>wpAny (model prog w) A (sE ifs env) (fun ok s4=>
      if ok=true then wpAny (model prog w) A (eval elt env) (fun x s5=>wpAny (model prog w) A (call (.builtin "list.append") [acc,x]) (fun _ s6=>∃ m,m < n/\J m s6) (fun _ _=>False) s5) (fun _ _=>False) s4
      else ∃ m,m < n/\J m s4) (fun _ _=>False) s3) (fun _ _=>False) s2) (fun _ _=>False) s1) (fun _ _=>False) s)
  (n:Nat) (h:J n s):codeAny (model prog w) A (.compLoop (.ListComp elt [⟨tg,iter,ifs,0⟩] scope pos) 0 it acc env) R s:=by
 refine codeAny_loop rfl J (fun n s hJ => ?_) n h
 refine wpAny_noted (env:=env) (m:=compTurn (.ListComp elt [⟨tg,iter,ifs,0⟩] scope pos) 0 it acc env) ?_;rw[compTurn_list];refine wpAny_bind (wpAny_standAt (wpAny_bind (wpAny_mono (turn n s hJ) (fun r s1 h1 => ?_) fun _ _ z=>z.elim)))
 cases r with
 | none=>exact wpAny_pure h1
 | some v=>
  refine wpAny_bind (wpAny_mono h1 (fun _ s2 h2=>wpAny_bind (wpAny_mono h2 (fun _ s3 h3=>wpAny_bind (wpAny_mono h3 (fun ok s4 h4 => ?_) fun _ _ z=>z.elim)) fun _ _ z=>z.elim)) fun _ _ z=>z.elim)
  cases ok with
  | false=>exact wpAny_pure ⟨rfl,by simpa using h4⟩
  | true=>
   rw[if_pos rfl]at h4;refine wpAny_bind (wpAny_bind (wpAny_mono h4 (fun x s5 h5=>wpAny_bind (wpAny_mono h5 (fun _ s6 h6 => ?_) fun _ _ z=>z.elim)) fun _ _ z=>z.elim))
   exact wpAny_pure (wpAny_pure ⟨rfl,h6⟩)
end
theorem qJ{scope:Scope}{env:Env}(h:∀ y∈scope.names,y.2=.free->∃ c,env.cells.lookup y.1=some c) :
  ∃ cl,closureFor scope env=pure cl/\(∀ n c,(n,c)∈cl->env.cells.lookup n=some c)/\∀ y∈scope.names,y.2=.free->∃ c,(y.1,c)∈cl:=by
 have gen:∀ (l:List (Str×NameKind)) (acc:List (Str×Addr)),(∀ y∈l,y.2=.free->∃ c,env.cells.lookup y.1=some c)->(∀ n c,(n,c)∈acc->env.cells.lookup n=some c) ->
   ∃ cl,(forIn l acc fun x r=>match x with | (name,kind)=>if (kind == NameKind.free)=true then do let a ← cellOf env name;pure (ForInStep.yield ((name,a)::r)) else pure (ForInStep.yield r):Sem (List (Str×Addr)))=pure cl /\
    (∀ n c,(n,c)∈cl->env.cells.lookup n=some c)/\(∀ p∈acc,p∈cl)/\∀ y∈l,y.2=.free->∃ c,(y.1,c)∈cl:=by
  intro l
  induction l with
  | nil=>intro acc _ ha;exact⟨acc,rfl,ha,fun _ hp=>hp,fun _ hy=>absurd hy (by simp)⟩
  | cons y l ih=>
   intro acc hl ha;obtain⟨n,k⟩:=y;cases hk:(k == NameKind.free) with
   | false=>
    obtain⟨cl,e,h1,h2,h3⟩:=ih acc (fun z hz=>hl z (by simp[hz])) ha
    refine⟨cl,?_,h1,h2,fun z hz L9 => ?_⟩
    ·rw[List.forIn_cons]
     simp only[hk,Bool.false_eq_true,if_false];exact e
    ·rcases List.mem_cons.mp hz with rfl | hz
     ·have:k=.free:=L9
      rw[this]at hk;exact absurd hk (by decide)
     ·exact h3 z hz L9
   | true=>
    have hk':k=.free:=by simpa using hk
    obtain⟨c,hc⟩:=hl (n,k) (by simp) hk'
    obtain⟨cl,e,h1,h2,h3⟩:=ih ((n,c)::acc) (fun z hz=>hl z (by simp[hz])) (fun n' c' hm=>by
     rcases List.mem_cons.mp hm with q | q
     ·cases q;exact hc
     ·exact ha n' c' q)
    refine⟨cl,?_,h1,fun p hp=>h2 p (by simp[hp]),fun z hz L9 => ?_⟩
    ·rw[List.forIn_cons]
     simp only[hk,if_true]
     have:cellOf env n=pure c:=by
      have hc:env.cells.lookup n=some c:=hc;unfold cellOf;rw[hc]
     rw[this];exact e
    ·rcases List.mem_cons.mp hz with rfl | hz
     ·exact⟨c,h2 _ (by simp)⟩
     ·exact h3 z hz L9
 obtain⟨cl,e,h1,_,h3⟩:=gen scope.names [] h (fun _ _ z=>absurd z (by simp))
 refine⟨cl,?_,h1,h3⟩;unfold closureFor;have e':=congrArg (fun m:Sem (List (Str×Addr))=>m >>= fun r=>pure r) e
 exact e'
noncomputable def blk(X:Cx)(scope:Scope)(cl:List (Str×Addr))(C:Addr)(N:List Str)(s₀:Shared)(H₀:Hp)(fp:List Addr):Cx:=
 { X with N:=N,s₀:=s₀,H₀:=H₀,env:=compEnvC scope cl C X.env,outer:=X.stack,stack:=X.stack,ex:=fp,fn:=fun _=>false,pn:=[],xe:=fun _ _=>False }
theorem lookup_mem{α β:Type}[BEq α][LawfulBEq α]:∀ {l:List (α×β)} {x:α} {v:β},l.lookup x=some v->(x,v)∈l
 | [],_,_,h=>by simp at h
 | (n,k)::r,x,v,h=>by
  rw[List.lookup_cons]at h;cases e:x == n with
  | true=>rw[e]at h;cases h;rw[eq_of_beq e];simp
  | false=>rw[e]at h;exact List.mem_cons_of_mem _ (lookup_mem h)
theorem mem_lookup{α β:Type}[BEq α][LawfulBEq α]:∀ {l:List (α×β)} {x:α} {v:β},(x,v)∈l->∃ u,l.lookup x=some u
 | [],_,_,h=>by simp at h
 | (n,k)::r,x,v,h=>by
  rw[List.lookup_cons];cases e:x == n with
  | true=>exact⟨k,rfl⟩
  | false=>
   rcases List.mem_cons.mp h with q | q
   ·cases q;simp at e
   ·exact mem_lookup q
theorem eL{env:Env}:∀ (names:List (Str×NameKind)) (x:Str),(names.map fun (n,k)=>if (k == NameKind.free && env.scope.kind == .function && env.kindOf n == some .cell) then (n,NameKind.cell) else (n,k)).lookup x =
  (names.lookup x).map fun k=>if (k == NameKind.free && env.scope.kind == .function && env.kindOf x == some .cell) then NameKind.cell else k
 | [],_=>rfl
 | (n,k)::r,x=>by
  have ih:=eL (env:=env) r x
  show List.lookup x ((if (k == NameKind.free && env.scope.kind == .function && env.kindOf n == some .cell)=true then (n,NameKind.cell) else (n,k))::_)=_
  cases hx:x == n with
  | true=>
   obtain rfl:x=n:=eq_of_beq hx
   by_cases hc:(k == NameKind.free && env.scope.kind == .function && env.kindOf x == some .cell)=true
   ·rw[if_pos hc,List.lookup_cons,List.lookup_cons]
    simp only[hx,Option.map_some,if_pos hc]
   ·rw[if_neg hc,List.lookup_cons,List.lookup_cons]
    simp only[hx,Option.map_some,if_neg hc]
  | false=>
   by_cases hc:(k == NameKind.free && env.scope.kind == .function && env.kindOf n == some .cell)=true
   ·rw[if_pos hc,List.lookup_cons,List.lookup_cons]
    simp only[hx];exact ih
   ·rw[if_neg hc,List.lookup_cons,List.lookup_cons]
    simp only[hx];exact ih
structure jy(X:Cx)(scope:Scope)(tn cn:List Str)(cap:List Nat):Prop where
 kind:scope.kind=.function
 cell:∀ y∈scope.names,y.2≠.cell
 names:∀ y∈scope.names,y.2=.local->scope.names.lookup y.1=some .local
 free:∀ y∈scope.names,y.2=.free->X.env.kindOf y.1=some .cell\/X.env.kindOf y.1=some .free
 len:cn.length=cap.length
 at':∀ (j i:Nat) (x:Str),cn[j]?=some x->cap[j]?=some i->X.N[i]?=some x/\scope.names.lookup x=some .free
noncomputable def oW(cap:List Nat)(σ:L2.St):L2.St:=cap.map fun i=>(σ[i]?).join
def fZ(nt:Nat)(cap:List Nat)(σ:L2.St):L2.St:=List.replicate nt none++oW cap σ
section
variable{X:Cx}{scope:Scope}{tn cn:List Str}{cap:List Nat}
theorem uv{pins:List (Addr×Obj)}{σ:L2.St}{H:Hp}{s:Shared}{fp:List Addr}{cl:List (Str×Addr)}{h1:Heap}{tk:Nat}{m:Str->Option Value}(B:jy X scope tn cn cap)
  (I:Inv X pins σ H s) (hf:∀ b∈fp,lH X pins H b) (hfo:∀ b∈fp,∃ o,s.heap.get? b=some o) (c1:∀ n c,(n,c)∈cl->X.env.cells.lookup n=some c) (c2:∀ y∈scope.names,y.2=.free->∃ c,(y.1,c)∈cl)
  (kp:∀ b o,s.heap.get? b=some o->h1.get? b=some o) (hd:∃ n,h1.get? s.heap.objs.size=some { cls:=.type "list",data:=.seq ([]:List Value).toArray n }) (ns:h1.Ns (s.heap.objs.size + 1) m) :
  Inv (blk X scope cl (s.heap.objs.size + 1) (tn++cn) s H fp) [] (fZ tn.length cap σ) (upd H s.heap.objs.size (.lst [])) { s with heap:=h1,toks:=tk }:=by
 have Wa:∀ b o,s.heap.get? b=some o->b≠s.heap.objs.size + 1:=fun b o e=>Nat.ne_of_lt (Nat.lt_succ_of_lt (Heap.lt_size e))
 have Wb:∀ b o,s.heap.get? b=some o->b≠s.heap.objs.size:=fun b o e=>Nat.ne_of_lt (Heap.lt_size e)
 have cell:∀ x c,cl.lookup x=some c->∃ v,s.heap.IsCell c v:=fun x c e=>I.cell x c (c1 x c (lookup_mem e))
 have yp:∀ x c,cl.lookup x=some c->c≠s.heap.objs.size + 1/\c≠s.heap.objs.size:=fun x c e=>by
  obtain⟨v,o,ho,_⟩:=cell x c e;exact⟨Wa c o ho,Wb c o ho⟩
 have Wc:∀ b∈fp,b < s.heap.objs.size:=fun b hb=>let ⟨o,e⟩:=hfo b hb;Heap.lt_size e
 have fr:=I.hok.fresh (Nat.le_refl s.heap.objs.size);obtain⟨nd,hd⟩:=hd
 refine⟨⟨I.ok.mod,B.kind,I.ok.glob,I.ok.blt,Nat.le_succ _,fun x y c e1 e2 => ?_,fun x hx => ?_,fun x c e _=>absurd (show false=true from e) Bool.false_ne_true,I.ok.hd,I.ok.frames,.inl rfl,fun b hb=>⟨?_,fun x c e z => ?_⟩,fun b o e=>I.bs b o e,Nat.le_trans I.ok.Bv I.sz,fun b o e hb => ?_,fun b hb hbs => ?_,I.stack,I.rV⟩,
  rfl,I.bare,?_,⟨m,ns,fun i x v e1 e2 e3 => ?_⟩,fun x c e => ?_,?_,fun x c e => ?_,fun p hp=>absurd (show p∈([]:List (Addr×Obj)) from hp) (by simp),?_,?_⟩
 ·exact I.ok.inj x y c (c1 x c (lookup_mem e1)) (c1 y c (lookup_mem e2))
 ·have hx:(relabel scope X.env).names.lookup x=some .cell\/(relabel scope X.env).names.lookup x=some .free:=hx
  unfold relabel at hx;simp only[eL]at hx;cases q:scope.names.lookup x with
  | none=>rw[q]at hx;simp at hx
  | some k=>
   rw[q]at hx;have hm:=lookup_mem q
   have hk:k=.free:=by
    by_cases hk:k=.free
    ·exact hk
    ·have hkf:(k == NameKind.free)=false:=by simpa using hk
     rw[Option.map_some]at hx;simp only[hkf,Bool.false_and,Bool.false_eq_true,if_false,Option.some.injEq]at hx;rcases hx with z | z
     ·exact absurd z (B.cell _ hm)
     ·exact z
   obtain⟨c,hc⟩:=c2 _ hm hk;exact mem_lookup hc
 ·exact Nat.ne_of_lt (Nat.lt_succ_of_lt (Wc b hb))
 ·exact(hf b hb).2.2.2.2.1 x c (c1 x c (lookup_mem e)) z
 ·rcases(hf b hb).2.2.2.1 with z | z
  ·exact I.ok.vg b o e z
  ·exact absurd (Nat.lt_of_lt_of_le (Heap.lt_size (I.ok.bs b o e).1) z) (Nat.lt_irrefl _)
 ·rcases List.mem_cons.mp (I.qj b hbs) with z | z
  ·exact(hf b hb).2.1 z
  ·exact(hf b hb).2.2.1 z
 ·exact Un.laid kp (Nat.le_refl _) fr
 ·have Of:i < tn.length->False:=fun hi=>by
   have:(fZ tn.length cap σ)[i]?=some none:=by
    unfold fZ;rw[List.getElem?_append_left (by simpa using hi),List.getElem?_replicate,if_pos hi]
   rw[this]at e2;cases e2
  have hi:tn.length<=i:=Nat.le_of_not_lt Of;have e1:(tn++cn)[i]?=some x:=e1;rw[List.getElem?_append_right hi]at e1
  have e2':(oW cap σ)[i - tn.length]?=some (some v):=by
   unfold fZ at e2;rw[List.getElem?_append_right (by simpa using hi)]at e2
   simpa using e2
  unfold oW at e2';rw[List.getElem?_map]at e2';cases q:cap[i - tn.length]? with
  | none=>rw[q]at e2';cases e2'
  | some i'=>
   rw[q]at e2';have e2:(σ[i']?).join=some v:=by simpa using e2'
   have e4:σ[i']?=some (some v):=by
    cases q2:σ[i']? with
    | none=>rw[q2]at e2;cases e2
    | some z=>rw[q2]at e2;cases z with
     | none=>cases e2
     | some z=>cases e2;rfl
   obtain⟨hN,hfr⟩:=B.at' _ _ _ e1 q;have hk:=B.free _ (lookup_mem hfr) rfl;have hk:X.env.kindOf x=some .cell\/X.env.kindOf x=some .free:=hk
   have Og:FT X.env.scope x:=by
    rcases hk with z | z
    ·exact .inr (.inl z)
    ·exact .inr (.inr z)
   obtain⟨m0,hn0,hl0⟩:=I.loc;obtain⟨u,ru,lk⟩:=hl0 i' x v hN e4 Og;refine⟨u,ru,.inr ⟨?_,?_⟩⟩
   ·show(relabel scope X.env).names.lookup x=some .cell\/(relabel scope X.env).names.lookup x=some .free
    unfold relabel;simp only[eL,hfr,Option.map_some];split
    ·exact .inl rfl
    ·exact .inr rfl
   ·have lk:∃ c,X.env.cells.lookup x=some c/\s.heap.IsCell c (some u):=by
     rcases lk with ⟨z,_⟩ | ⟨_,z⟩
     ·rcases hk with y | y<;>rw[y]at z<;>cases z
     ·exact z
    obtain⟨c,hc,hcc⟩:=lk;obtain⟨c',hc'⟩:=c2 _ (lookup_mem hfr) rfl;obtain⟨c'',hc''⟩:=mem_lookup hc';have:=c1 _ _ (lookup_mem hc'');rw[hc]at this;cases this
    obtain⟨o,ho,hd⟩:=hcc;exact⟨c,hc'',o,kp _ _ ho,hd⟩
 ·obtain⟨v,o,ho,hd⟩:=cell x c e
  exact⟨v,o,kp _ _ ho,hd⟩
 ·show upd H s.heap.objs.size (.lst []) (s.heap.objs.size + 1)=none
  rw[aF (Nat.succ_ne_self _)];exact I.hok.fresh (Nat.le_succ _)
 ·refine⟨?_,fun hz=>absurd (show false=true from hz) Bool.false_ne_true⟩
  rw[aF (yp x c e).2];exact(I.gj x c (c1 x c (lookup_mem e))).1
 ·refine I.hok.laid kp (Nat.le_refl _) ⟨Nat.zero_le _,[],nd,.nil,hd⟩
 ·show(fZ tn.length cap σ).length=(tn++cn).length
  unfold fZ oW;rw[List.length_append,List.length_append,List.length_replicate,List.length_map,B.len]
def y0(X:Cx)(ifs:List Expr)(t:TT):Prop:=∀ (pins:List (Addr×Obj)) (s:Shared) (σ:L2.St) (H:Hp) (Q:Bool->Hp->Prop),Inv X pins σ H s->t σ H Q->wpAny (model X.prog X.w) X.A (sE ifs X.env) (TP X pins σ Q) X.xe s
theorem y1:y0 X [] (fun _ H Q=>Q true H):=fun pins s σ H Q I h=>wpAny_pure ⟨H,I,h⟩
theorem y2{c:Expr}{t:TT}(h:PT X c t):y0 X [c] t:=fun pins s σ H Q I q=>wpAny_tests_one (h pins s σ H Q I q)
def mn(wi:TI)(nt:Nat)(cap:List Nat)(g:TG)(tc:TT)(te:TE):TE:=fun σ H Q=>wi σ H fun J H1=>∀ D,H1 D=none->∃ W:Nat->Nat->List V->Hp->Prop,(∃ m,W 0 m [] (upd H1 D (.lst []))) /\
 ∀ i m ys H2,W i m ys H2->H2 D=some (.lst ys)/\((J.stop i H2/\Q (.ref D) H2)\/(J.go i H2/\ys.length < sizeLine/\∀ x H3,J.LZ i H2 x H3->g x (fZ nt cap σ) H3 fun σ' H4=>tc σ' H4 fun b H5=>
  if b=true then te σ' H5 fun y H6=>H6 D=some (.lst ys)/\∃ m',m' < m/\W (i + 1) m' (ys++[y]) (upd H6 D (.lst (ys++[y]))) else ∃ m',m' < m/\W (i + 1) m' ys H5))
theorem mq{tg iter elt:Expr}{ifs:List Expr}{pos Oh:Pos}{wi:TI}{g:TG}{tc:TT}{te:TE}{use:Option (Value->Sem Unit)}{Q':Value->Shared->Prop}{Q:VK}{pins:List (Addr×Obj)}{σ:L2.St}{H:Hp}{s:Shared}
  (hc:X.calm=true) (B:jy X scope tn cn cap) (hi:PI X tg iter wi) (hs:∀ x,foldedSetIterable iter X.env x=pure x)
  (Dq:∀ v σ H Q,g v σ H Q->g v σ H fun σ' H'=>Q σ' H'/\σ'.length=σ.length/\∀ j,tn.length<=j->σ'[j]?=σ[j]?)
  (hb:∀ cl C s₀ H₀ fp,PG (blk X scope cl C (tn++cn) s₀ H₀ fp) tg g/\y0 (blk X scope cl C (tn++cn) s₀ H₀ fp) ifs tc/\PE (blk X scope cl C (tn++cn) s₀ H₀ fp) elt te)
  (fin:∀ (s':Shared) (H':Hp) (C D:Addr) (m:Str->Option Value),Inv X pins σ H' s'->s'.heap.Ns C m->H' C=none->C≠X.env.locals->X.s₀.heap.objs.size<=C->(∀ x c,X.env.cells.lookup x=some c->c≠C)->(∀ p∈X.pn++pins,p.1≠C)->Q (.ref D) H' ->
   compPost (model X.prog X.w) X.A X.xe use Q' (.ref D) C (.ok .next) s')
  (I:Inv X pins σ H s) (h:mn wi tn.length cap g tc te σ H Q) :
  wpAny (model X.prog X.w) X.A (comprehension (.ListComp elt [⟨tg,iter,ifs,0⟩] scope pos) scope X.env Oh (newList []) false (eval iter X.env) use) Q' X.xe s:=by
 have hfr:∀ y∈scope.names,y.2=.free->∃ c,X.env.cells.lookup y.1=some c:=fun y hy hk=>I.ok.has y.1 (B.free y hy hk)
 obtain⟨cl,hcl,c1,c2⟩:=qJ hfr;refine wpAny_comprehension_free (use:=use) rfl hs hcl B.kind B.names ?_;refine cu (hi pins s σ H _ I h) fun v s1 h1=>cu h1 fun itv s2 h2 => ?_
 obtain⟨it,fp,Oi,J,H2,e,I2,T,st2,f2,h⟩:=h2;subst e;have fr:=I2.hok.fresh (Nat.le_refl s2.heap.objs.size);obtain⟨W,⟨m0,w0⟩,turn⟩:=h s2.heap.objs.size fr;refine wpAny_newObj_type (wpAny_newFunctionEnv B.cell (fun y hy=>absurd hy (by simp)) (fun h1 ns sb => ?_) B.kind)
 have hsz:(s2.heap.push { cls:=.type "list",dict:=none,data:=.seq ([]:List Value).toArray }).objs.size=s2.heap.objs.size + 1:=Heap.size_push _ _;dsimp only at ns sb ⊢;rw[hsz]at ns sb ⊢;have kp:∀ b o,s2.heap.get? b=some o->h1.get? b=some o:=fun b o e=>sb.extBut b o (Nat.ne_of_lt (Nat.lt_succ_of_lt (Heap.lt_size e))) (Heap.get?_push_of_some _ (Heap.get?_push_of_some _ e))
 have hD:∃ n,h1.get? s2.heap.objs.size=some { cls:=.type "list",data:=.seq ([]:List Value).toArray n }:=⟨0,sb.extBut _ _ (Nat.ne_of_lt (Nat.lt_succ_self _)) (Heap.get?_push_of_some _ (Heap.get?_push_size _ rfl))⟩;have hfo:∀ b∈fp,∃ o,s2.heap.get? b=some o:=fun b hb=>let ⟨o,e,_⟩:=T.obj 0 _ st2 b hb;⟨o,e⟩
 have I4:Inv (blk X scope cl (s2.heap.objs.size + 1) (tn++cn) s2 H2 fp) [] (fZ tn.length cap σ) (upd H2 s2.heap.objs.size (.lst [])) { s2 with heap:=h1,toks:=s2.toks + ([]:List (Str×Value)).length }:=
  uv B I2 f2 hfo c1 c2 kp hD ns
 obtain⟨hg,ht,he⟩:=hb cl (s2.heap.objs.size + 1) s2 H2 fp;have Td:Oi 0 h1:=T.keep 0 _ _ st2 fun b hb o e=>kp b o e
 have Wd:∀ b∈fp,upd H2 s2.heap.objs.size (.lst []) b=none:=fun b hb=>by
  obtain⟨o,e⟩:=hfo b hb;rw[aF (Nat.ne_of_lt (Heap.lt_size e))];exact(f2 b hb).1
 have stat:∀ {H':Hp} {pl:List (Addr×Obj)},(∀ b∈fp,H' b=none)->∀ b∈fp,lH (blk X scope cl (s2.heap.objs.size + 1) (tn++cn) s2 H2 fp) [] H' b:=fun hn b hb=>
  ⟨hn b hb,(I4.ok.LX b hb).1,I4.ok.vh b hb,.inl hb,(I4.ok.LX b hb).2,fun p hp=>absurd (show p∈([]:List (Addr×Obj)) from hp) (by simp)⟩
 have loop:codeAny (model X.prog X.w) X.A (.compLoop (.ListComp elt [⟨tg,iter,ifs,0⟩] scope pos) 0 (.ref it) (.ref s2.heap.objs.size) (compEnvC scope cl (s2.heap.objs.size + 1) X.env))
   (compPost (model X.prog X.w) X.A X.xe use Q' (.ref s2.heap.objs.size) (s2.heap.objs.size + 1)) { s2 with heap:=h1,toks:=s2.toks + ([]:List (Str×Value)).length }:=by
  refine uu (fun n s'=>∃ i ys H',Inv (blk X scope cl (s2.heap.objs.size + 1) (tn++cn) s2 H2 fp) [] (fZ tn.length cap σ) H' s'/\Oi i s'.heap/\(∀ b∈fp,H' b=none)/\W i n ys H') ?_ m0 ⟨0,[],_,I4,Td,Wd,w0⟩
  rintro n s5 ⟨i,ys,H5,I5,FV,Te,w5⟩;obtain⟨G9,alt⟩:=turn i n ys H5 w5;rcases alt with ⟨stop,qn⟩ | ⟨go,hlen,step⟩
  ·refine cu (T.done (blk X scope cl (s2.heap.objs.size + 1) (tn++cn) s2 H2 fp) rfl rfl rfl hc i [] s5 _ H5 _ I5 (stat (pl:=[]) Te) FV stop) fun r s6 ⟨hr,I6⟩ => ?_
   subst hr;obtain⟨mC,nC,_⟩:=I6.loc
   have I7:Inv X pins σ H5 s6:=by
    refine I2.call' I6.os I6.base I6.hok I6.bare fun b hb => ?_
    obtain⟨f0,f1,f3,f4,f5,f6⟩:=f2 b hb;exact⟨f4,f1,f5,f6⟩
   have hC:s2.heap.objs.size<=s2.heap.objs.size + 1:=Nat.le_succ _;refine fin s6 H5 (s2.heap.objs.size + 1) s2.heap.objs.size mC I7 nC I6.free (Nat.ne_of_gt (Nat.lt_of_lt_of_le I2.lt hC)) (Nat.le_trans I2.sz hC) (fun x c e z => ?_) (fun p hp z => ?_) qn
   ·obtain⟨v,q⟩:=I2.cell x c e
    exact absurd (Nat.lt_of_lt_of_le q.lt (by rw[z];exact hC)) (Nat.lt_irrefl _)
   ·exact absurd (Nat.lt_of_lt_of_le (Heap.lt_size (I2.pin p hp).1) (by rw[z];exact hC)) (Nat.lt_irrefl _)
  ·refine cu (T.item (blk X scope cl (s2.heap.objs.size + 1) (tn++cn) s2 H2 fp) rfl rfl rfl hc i [] s5 _ H5 _ I5 (stat (pl:=[]) Te) FV go) fun r s6 ⟨u,hr,h6⟩ => ?_
   subst hr;refine cu h6 fun _ s7 ⟨x,H7,I7,r7,y7,Oj,We⟩ => ?_
   have Wf:=I7.pinned (stat (pl:=[]) We) (T.obj _ _ Oj);refine cu (hg _ s7 _ H7 x u _ Wf r7 (Dq _ _ _ _ (step x H7 y7))) fun _ s8 ⟨L_,H8,I8,q8,l8,k8⟩ => ?_
   refine cu (ht _ s8 L_ H8 _ I8 q8) fun ok s9 ⟨H9,I9,q9⟩ => ?_
   have again:∀ {sA:Shared} {HA:Hp},Inv (blk X scope cl (s2.heap.objs.size + 1) (tn++cn) s2 H2 fp) ([]++kf fp s7.heap) L_ HA sA->Inv (blk X scope cl (s2.heap.objs.size + 1) (tn++cn) s2 H2 fp) [] (fZ tn.length cap σ) HA sA/\Oi (i + 1) sA.heap/\∀ b∈fp,HA b=none:=fun {sA HA} IA=>by
    refine⟨(IA.iA (pins:=[])).weak l8.symm fun j v hj => ?_,T.keep _ _ _ Oj fun b hb o e=>(IA.pin (b,o) (List.mem_append_right _ (List.mem_append_right _ (fL hb e)))).1,fun b hb => ?_⟩
    ·have hjt:tn.length<=j:=by
      refine Nat.le_of_not_lt fun hlt => ?_
      have:(fZ tn.length cap σ)[j]?=some none:=by
       unfold fZ;rw[List.getElem?_append_left (by simpa using hlt),List.getElem?_replicate,if_pos hlt]
      rw[this]at hj;cases hj
     rw[k8 j hjt];exact hj
    ·obtain⟨o,e,_⟩:=T.obj _ _ Oj b hb
     exact(IA.pin (b,o) (List.mem_append_right _ (List.mem_append_right _ (fL hb e)))).2.1
   cases ok with
   | false=>
    rw[if_neg Bool.false_ne_true]at q9 ⊢;obtain⟨m',hm,w'⟩:=q9;obtain⟨a1,a2,a3⟩:=again I9;exact⟨m',hm,i + 1,ys,H9,a1,a2,a3,w'⟩
   | true=>
    rw[if_pos rfl]at q9 ⊢;refine cu (he _ s9 L_ H9 _ I9 q9) fun y sB ⟨v,HB,IB,rB,Wg,m',hm,w'⟩ => ?_
    have hx:=lY (X:=blk X scope cl (s2.heap.objs.size + 1) (tn++cn) s2 H2 fp) _ sB L_ HB (.ref s2.heap.objs.size) [v] (.ref s2.heap.objs.size) [y] (fun _ H'=>H'=upd HB s2.heap.objs.size (.lst (ys++[v]))) IB rfl (.cons rB .nil)
     ⟨s2.heap.objs.size,ys,v,rfl,rfl,Wg,hlen,rfl⟩
    refine cu hx fun _ sC ⟨_,HC,IC,_,eC⟩ => ?_
    subst eC;obtain⟨a1,a2,a3⟩:=again IC;exact⟨m',hm,i + 1,ys++[v],_,a1,a2,a3,w'⟩
 exact codeAny_compStart_list loop (T.self X.A 0 _ _ _ Td loop)
theorem y3{tg iter elt:Expr}{ifs:List Expr}{pos:Pos}{wi:TI}{g:TG}{tc:TT}{te:TE}(hc:X.calm=true)(B:jy X scope tn cn cap)(hi:PI X tg iter wi)(hs:∀ x,foldedSetIterable iter X.env x=pure x)
  (Dq:∀ v σ H Q,g v σ H Q->g v σ H fun σ' H'=>Q σ' H'/\σ'.length=σ.length/\∀ j,tn.length<=j->σ'[j]?=σ[j]?)
  (hb:∀ cl C s₀ H₀ fp,PG (blk X scope cl C (tn++cn) s₀ H₀ fp) tg g/\y0 (blk X scope cl C (tn++cn) s₀ H₀ fp) ifs tc/\PE (blk X scope cl C (tn++cn) s₀ H₀ fp) elt te) :
  PE X (.ListComp elt [⟨tg,iter,ifs,0⟩] scope pos) (mn wi tn.length cap g tc te):=by
 intro pins s σ H Q I h;rw[eval_ListComp];refine mq (use:=none) hc B hi hs Dq hb (fun s' H' C D m I' ns h1 h2 h3 h4 h5 q=>⟨m,ns,fun h' sb => ?_⟩) I h
 exact⟨.ref D,H',I'.turned (it:=C) (t':=s'.toks) (fun b o nb e=>sb.extBut b o nb e) h1 h2 (.inr h3) h4 h5,rfl,q⟩
theorem qK{tg iter elt:Expr}{ifs:List Expr}{pos pos' spos:Pos}{wi:TI}{g:TG}{tc:TT}{te:TE}{i:Nat}{x:Str}(hN:X.N.Nodup)(hi':X.N[i]?=some x)(hx:X.env.scope.names.lookup x=some .local)
  (hsw:swapsWith (.ListComp elt [⟨tg,iter,ifs,0⟩] scope pos) (some (.Name x pos')) spos.line X.env=pure true) (hc:X.calm=true) (B:jy X scope tn cn cap) (hi:PI X tg iter wi) (hs:∀ x,foldedSetIterable iter X.env x=pure x)
  (Dq:∀ v σ H Q,g v σ H Q->g v σ H fun σ' H'=>Q σ' H'/\σ'.length=σ.length/\∀ j,tn.length<=j->σ'[j]?=σ[j]?)
  (hb:∀ cl C s₀ H₀ fp,PG (blk X scope cl C (tn++cn) s₀ H₀ fp) tg g/\y0 (blk X scope cl C (tn++cn) s₀ H₀ fp) ifs tc/\PE (blk X scope cl C (tn++cn) s₀ H₀ fp) elt te) :
  PS X (.Assign [.Name x pos'] (.ListComp elt [⟨tg,iter,ifs,0⟩] scope pos) spos) (CO (mn wi tn.length cap g tc te) (ia i)):=by
 intro pins s σ H D I h;rw[exec_Assign_Name_used _ _ _ _ hsw];refine wpAny_bind (wpAny_standAt (wpAny_bind ?_));refine wpAny_bind (m:=comprehension (.ListComp elt [⟨tg,iter,ifs,0⟩] scope pos) scope X.env _ (newList []) false (eval iter X.env) (some (assign (.Name x pos') X.env))) ?_;refine mq (use:=some (assign (.Name x pos') X.env)) (Q':=fun _ s'=>wpAny (model X.prog X.w) X.A (pure ()) (fun _ s''=>wpAny (model X.prog X.w) X.A (pure Flow.next) (SP X pins D) X.xe s'') X.xe s') hc B hi hs Dq hb (fun s' H' C Dl m I' ns h1 h2 h3 h4 h5 q => ?_) I h
 show wpAny (model X.prog X.w) X.A (assign (.Name x pos') X.env (.ref Dl)) _ _ s'
 refine wpAny_assign_Name (lS I' hN hi' (.inl hx) (v:=.ref Dl) rfl (fun s2 I2 ch => ?_) (.inr hx))
 obtain⟨a,sb,ha⟩:=ch
 have FU:C≠a:=by
  rcases ha with rfl | ha
  ·exact h2
  ·exact fun z=>h4 _ _ ha z.symm
 refine⟨m,ns.sameBut sb FU,fun h' Wh=>wpAny_pure (wpAny_pure ?_)⟩
 exact⟨_,H',I2.turned (it:=C) (t':=s2.toks) (fun b o nb e=>Wh.extBut b o nb e) h1 h2 (.inr h3) h4 h5,q⟩
end
theorem PI.imp{X:Cx}{tg e:Expr}{t t':TI}(h:PI X tg e t)(i:∀ σ H R,t' σ H R->t σ H R):PI X tg e t':=fun pins s σ H R I q=>h pins s σ H R I (i σ H R q)
section
variable{Z:Addr->Prop}{H:Hp}
theorem kF:∀ (n:Nat) (lo:Int),(intsFrom lo n).length=n
 | 0,_=>rfl
 | n + 1,lo=>by rw[intsFrom,List.length_cons,kF n]
theorem ints_get:∀ (n:Nat) (lo:Int) (i:Nat) (d:D),(intsFrom lo n)[i]?=some d->d=.int (lo + i)
 | 0,_,_,_,h=>by simp[intsFrom]at h
 | n + 1,lo,0,d,h=>by simp[intsFrom]at h;subst h;simp
 | n + 1,lo,i + 1,d,h=>by
  simp only[intsFrom,List.getElem?_cons_succ]at h;rw[ints_get n (lo + 1) i d h]
  congr 1
  omega
noncomputable def Tf(x:Str):It:=⟨fun i _=>i < x.cps.size,fun i H v H'=>H'=H/\∃ c,x.cps[i]?=some c/\v=.str ⟨#[c]⟩,fun i _=>x.cps.size<=i⟩
end
theorem wm{P:Program}{w:World}{K:PySem.W.Frag}{tg:Expr}(it:Addr)(x:Str)(t:Tok)(ty:String)(hty:ty="str_ascii_iterator"\/ty="str_iterator"):Turn P w K tg (Tf x) [it] it (fun i h=>h.IsStrIter it ty x t i) where
 mem:=by simp
 obj:=fun i h st b hb=>by
  obtain rfl:b=it:=by simpa using hb
  obtain⟨o,e,c,d⟩:=st;exact⟨o,e,fun v z=>by rw[d]at z;cases z⟩
 keep:=fun i h h' st k=>let ⟨o,e,r⟩:=st;⟨o,k it (by simp) o e,r⟩
 item:=by
  intro X hP hw hK hc i pins s σ H E I hf st hg;subst hP hw hK;obtain⟨f0,f1,f2,f3,f4,f5⟩:=hf it (by simp)
  have W:Walks X.prog X.w X.A it [it] [it] x.cps.size (SignAt x) (fun i h=>h.IsStrIter it ty x t i):=by
   rcases hty with rfl | rfl
   ·exact Walks.strAscii (I.ok.hd hc) it x t
   ·exact Walks.strWide (I.ok.hd hc) it x t
  refine W.item i s _ _ hg st fun v h' tk hv st' kk => ?_
  obtain⟨c,u,hx,rfl⟩:=hv;have I1:Inv X pins σ H { s with heap:=h',toks:=tk }:=I.turned (fun b o hb e=>kk b o (by simpa using hb) e) f0 f1 f3 f4 f5
  obtain⟨o,e,q,d⟩:=id st';refine⟨_,rfl,ow (s:={ s with heap:=h',toks:=tk }) (n:=ty) e q d (by rcases hty with rfl | rfl<;>decide) ⟨.str ⟨#[c]⟩,H,I1,⟨u,rfl⟩,⟨rfl,c,hx,rfl⟩,st',fun b hb=>(hf b hb).1⟩⟩
 done:=by
  intro X hP hw hK hc i pins s σ H E I hf st hg;subst hP hw hK;obtain⟨f0,f1,f2,f3,f4,f5⟩:=hf it (by simp)
  have hi:x.cps.size<=i:=hg;rcases hty with rfl | rfl
  ·exact wpAny_pyNext_ascii_end (I.ok.hd hc) st (by simp[hi]) fun h' eb=>⟨rfl,I.turned (t':=s.toks) (fun b o hb e=>eb b o hb e) f0 f1 f3 f4 f5⟩
  ·exact wpAny_pyNext_wide_end (I.ok.hd hc) st (by simp[hi]) fun h' eb=>⟨rfl,I.turned (t':=s.toks) (fun b o hb e=>eb b o hb e) f0 f1 f3 f4 f5⟩
 self:=fun A i s Q E st h=>by
  rcases hty with rfl | rfl
  ·exact wpAny_pyIter_striter_ascii st h
  ·exact wpAny_pyIter_striter_wide st h
section
variable{X:Cx}{Γ:lL}{bw:Bool}{tg e:Expr}{c cs:Ex}{pos p:Pos}
end
section
variable{X:Cx}{Γ:lL}{bw:Bool}{tg iter elt:Expr}{ifs:List Expr}{scope:Scope}{tn cn:List Str}{cap:List Nat}{Wi cc Y4:Ex}{pos:Pos}{n:Nat}
theorem jz(n:Nat)(hn:0 < n):∀ v σ H Q,ia 0 v σ H Q->ia 0 v σ H fun σ' H'=>Q σ' H'/\σ'.length=σ.length/\∀ j,n<=j->σ'[j]?=σ[j]?:=fun v σ H Q h=>⟨h,by simp,fun j hj=>by
 rw[List.getElem?_set_ne];omega⟩
end
theorem PS.imp{X:Cx}{st:Stmt}{t t':TS}(h:PS X st t)(i:∀ D σ H,t' D σ H->t D σ H):PS X st t':=fun pins s σ H D I q=>h pins s σ H D I (i D σ H q)
theorem jt.imp{X:Cx}{st:List Stmt}{t t':TS}(h:jt X st t)(i:∀ D σ H,t' D σ H->t D σ H):jt X st t':=fun pins s σ H D I q=>h pins s σ H D I (i D σ H q)
section
variable{X:Cx}{Γ:lL}{e:Expr}{c:Ex}{st:Stmt}{rest:List Stmt}{a b:Tg}{pos pos':Pos}
end
section
variable{Z0 Z1 Z:Addr->Prop}{H0 H1 H:Hp}{ρ:yT}{σ:L2.St}
end
section
variable{X:Cx}{Γ:lL}{tg e:Expr}{c:Ex}{b:Tg}{tb:List Stmt}{pos pos':Pos}
def je:List Nat->Bz
 | []=>Gx
 | i::is=>BA (ia i) (je is)
theorem mr{nms:List (Str×Pos)}(hN:X.N.Nodup):∀ (is:List Nat) (nms:List (Str×Pos)),is.length=nms.length->(∀ (j i:Nat) (x:Str×Pos),is[j]?=some i->nms[j]?=some x->X.N[i]?=some x.1/\Loc X.env.scope x.1/\(X.fn x.1=true\/X.env.scope.names.lookup x.1=some .local)) ->
  Gw X (nms.map fun x=>Expr.Name x.1 x.2) (je is)
 | [],[],_,_=>yv
 | [],_::_,h,_=>by cases h
 | _::_,[],h,_=>by cases h
 | i::is,(x,px)::nms,hl,h=>by
  obtain⟨h1,h2,h3⟩:=h 0 i (x,px) rfl rfl;exact vm (mU hN h1 h2 h3) (mr (nms:=nms) hN is nms (by simpa using hl) fun j i x e1 e2=>h (j + 1) i x (by simpa using e1) (by simpa using e2))
end
section
variable{X:Cx}{Γ:lL}{e o:Expr}{c:Ex}{i j:Nat}{x y:Str}{p0 p1 p2 p3 p4 p5 pos:Pos}
def sF:V->List V->Hp->VK->Prop:=fun x vs H Q=>∃ l xs k y,x=.ref l/\vs=[.int k,y]/\H l=some (.lst xs) /\ -(2 ^ 63)<=k/\k < 2 ^ 63/\xs.length < sizeLine/\Q .non (upd H l (.lst (nj xs k y)))
end
theorem gv{X:Cx}{pins:List (Addr×Obj)}{σ:L2.St}{H:Hp}{s:Shared}{h':Heap}{t':Nat}{fp:List Addr}{a:Addr}{o:HO}(I:Inv X pins σ H s)(hf:∀ b∈fp,lH X pins H b)
  (k:∀ b o,b∉fp->s.heap.get? b=some o->h'.get? b=some o) (ha:s.heap.objs.size<=a) (new:bJ X.prog X.w (upd H a o) h' a o):Inv X pins σ (upd H a o) { s with heap:=h',toks:=t' }:=by
 have hn:=I.hok.fresh ha;have Th:∀ b u,H b=some u->b∉fp:=fun b u e z=>by rw[(hf b z).1]at e;cases e
 have up:∀ b u,H b=some u->upd H a o b=some u:=fun b u e=>by rw[aF (bb e hn)];exact e
 refine I.step (g':=s.gens) (d':=s.drawn) (ch:=fp) (fun b hb => ?_) (fun b o _ _ hc e _=>k b o hc e) (fun b o _ _ hc e _=>⟨o.slots,k b o hc e⟩) (fun b u _ e n => ?_)
  (fun b o hc e=>⟨o,k b o hc e⟩) (fun b xs e=>up b _ e) (fun b u v e=>up b _ e) (fun b ps e=>⟨#[],by rw[up b _ e];simp⟩) (fun m hm => ?_) (fun b u e => ?_) I.bare
 ·obtain⟨f0,f1,f2,f3,f4,f5⟩:=hf b hb
  exact⟨f3,f1,f4,f5⟩
 ·have:b≠a:=fun z=>absurd (Heap.lt_size e) (by rw[z];exact Nat.not_lt.mpr ha)
  rw[aF this];exact n
 ·obtain⟨o,es,ep,ho,r⟩:=hm
  exact⟨o,es,ep,k _ o (fun z=>(hf _ z).2.1 rfl) ho,r⟩
 ·by_cases hb:b=a
  ·subst hb
   rw[aS]at e;cases e
   exact new
  ·rw[aF hb]at e
   refine(I.hok b u e).stay (fun c v hc q=>k c v ?_ q) (fun c q=>up c _ q) fun c _ q=>up c _ q
   rcases hc with z | z
   ·rw[z];exact Th b u e
   ·exact Th c _ z
def Ti(K:PySem.W.Frag)(a:Addr):It:=
 ⟨fun i H=>∃ xs x,jO K H a xs/\xs[i]?=some x,fun i H x H'=>∃ p,x=.ref p/\H p=none/\∀ xs,jO K H a xs->∃ v,xs[i]?=some v/\H'=upd H p (.tup [.int i,v]),fun i H=>∃ xs,jO K H a xs/\xs.length<=i⟩
theorem uw{P:Program}{w:World}{K:PySem.W.Frag}{elts:List Expr}{x1:Nat}{tpos:Pos}(a e it:Addr)(hne:e≠it) :
  Turn P w K (.Tuple elts x1 tpos) (Ti K a) [e,it] e (fun i h=>(∃ old,IsEnum h e it i old)/\h.IsListIter it a i) where
 mem:=by simp
 obj:=fun i h st b hb=>by
  obtain⟨⟨old,st1⟩,o,e2,c,d⟩:=st;rcases List.mem_cons.mp hb with z | z
  ·subst z
   exact⟨_,st1,fun v z=>by
    have z':Data.fields _=Data.cell v:=z;cases z'⟩
  ·have z:b=it:=by simpa using z
   subst z;exact⟨o,e2,fun v z=>by rw[d]at z;cases z⟩
 keep:=fun i h h' st k=>by
  obtain⟨⟨old,st1⟩,st2⟩:=st;exact⟨⟨old,k e (by simp) _ st1⟩,st2.at fun o q=>k it (by simp) o q⟩
 item:=by
  intro X hP hw hK hc i pins s σ H E I hf st hg;subst hP hw hK;obtain⟨xs,x,hq,hx⟩:=hg;obtain⟨⟨old,st1⟩,st2⟩:=st;obtain⟨its,rv,p,hz⟩:=I.list hq;obtain⟨u,hu,ru⟩:=rv.get hx;refine wpAny_pyNext_enum_item st1 st2 p.isList (x:=u) (by simpa using hu) hne fun h' so si tu sz kp => ?_
  refine⟨_,rfl,wpAny_letOwnedTupleGo_enum (s:={ s with heap:=h',toks:=s.toks + 1 }) so fun h2 se sb => ?_⟩
  have yY:∀ b o,b∉[e,it]->s.heap.get? b=some o->h2.get? b=some o:=fun b o hb q=>by
   have h1:b≠e:=fun z=>hb (by simp[z])
   have h3:b≠it:=fun z=>hb (by simp[z])
   exact sb.extBut b o h1 (kp b o h1 h3 q)
  have hel:e < s.heap.objs.size:=Heap.lt_size st1;have G_:h2.get? s.heap.objs.size=some { cls:=.type "tuple",data:=.seq #[.int i s.toks,u] }:=sb.extBut _ _ (Nat.ne_of_gt hel) tu;have se':∃ old,IsEnum h2 e it ((i + 1:Nat):Int) old:=⟨u,by rw[show((i + 1:Nat):Int)=(i:Int) + 1 by omega];exact se⟩
  refine⟨.ref s.heap.objs.size,upd H s.heap.objs.size (.tup [.int i,x]),?_,rfl,⟨_,rfl,I.hok.fresh (Nat.le_refl _),fun ys hy=>⟨x,by rw[I.ou hy hq];exact hx,rfl⟩⟩,⟨se',?_⟩,fun b hb => ?_⟩
  ·have tup:IsTup h2 s.heap.objs.size [Value.int i s.toks,u].toArray:=⟨_,G_,rfl,_,rfl⟩
   have new:bJ X.prog X.w (upd H s.heap.objs.size (.tup [.int i,x])) h2 s.heap.objs.size (.tup [.int i,x]):=⟨by rw[sizeLine_eq];simp,[.int i s.toks,u],.cons ⟨_,rfl⟩ (.cons ru .nil),tup⟩
   have:=gv (s:=s) (h':=h2) (t':=s.toks + 1) I hf yY (Nat.le_refl _) new;exact this
  ·exact si.extBut sb.extBut (Ne.symm hne)
  ·have hlt:b < s.heap.objs.size:=by
    rcases List.mem_cons.mp hb with z | z
    ·subst z;exact hel
    ·have z:b=it:=by simpa using z
     subst z;obtain⟨o,q,_⟩:=st2;exact Heap.lt_size q
   rw[aF (Nat.ne_of_lt hlt)];exact(hf b hb).1
 done:=by
  intro X hP hw hK hc i pins s σ H E I hf st hg;subst hP hw hK;obtain⟨xs,hq,hx⟩:=hg;obtain⟨⟨old,st1⟩,st2⟩:=st;obtain⟨its,rv,p,hz⟩:=I.list hq;obtain⟨f0,f1,f2,f3,f4,f5⟩:=hf it (by simp)
  have hl:=rv.length;exact wpAny_pyNext_enum_end (I.ok.hd hc) st1 st2 p.isList (by simp;omega) fun h' eb=>⟨rfl,I.turned (t':=s.toks) (fun b o hb e=>eb b o hb e) f0 f1 f3 f4 f5⟩
 self:=fun _ _ _ _ _ st h=>by
  obtain⟨⟨old,st1⟩,_⟩:=st;exact wpAny_pyIter_enum st1 h
theorem gQ:∀ (ds:List D) (k:Nat),(c8 k ds).length=ds.length
 | [],_=>rfl
 | d::ds,k=>by rw[c8,List.length_cons,List.length_cons,gQ ds]
theorem iL:∀ (ds:List D) (k i:Nat) (d:D),(c8 k ds)[i]?=some d->∃ x,ds[i]?=some x/\d=.tup [.int (k + i:Nat),x]
 | [],_,_,_,h=>by simp[c8]at h
 | d::ds,k,0,d',h=>by simp[c8]at h;exact⟨d,rfl,h.symm⟩
 | d::ds,k,i + 1,d',h=>by
  simp only[c8,List.getElem?_cons_succ]at h;obtain⟨x,h1,h2⟩:=iL ds (k + 1) i d' h;exact⟨x,by simpa using h1,by rw[h2,show k + 1 + i=k + (i + 1) by omega]⟩
theorem sG:∀ {ds:List D} {xs:List Str} {Z:Addr->Prop} {H:Hp} {vs:List V} {us:List Value},mj ds=some xs->aT Z H ds vs->Vals vs us->StrsAre us xs
 | [],xs,Z,H,vs,us,h,r,q=>by
  cases h;rw[r.nil_inv]at q;cases q;exact .nil
 | d::ds,xs,Z,H,vs,us,h,r,q=>by
  obtain⟨v,rs,rfl,r1,r2⟩:=r.cons_inv;cases d with
  | str x=>
   simp only[mj]at h;obtain⟨ys,h1,rfl⟩:=Option.map_eq_some_iff.mp h;simp only[Rep]at r1;subst r1;cases q with
   | cons qa qb=>
    obtain⟨t,rfl⟩:=qa;exact .cons x t (sG h1 r2 qb)
  | _=>cases h
def rJoin:V->List V->Hp->VK->Prop:=fun x vs H Q=>∃ z Z ds xs y,x=.str z/\vs=[y]/\Now Z H (.lst ds) y/\mj ds=some xs/\z.length<=16/\(xs.map (·.length)).sum + xs.length<=1048576/\Q (.str (Txt.join z xs)) H
theorem y4{X:Cx}:FX X "str.join" rJoin:=by
 intro pins s σ H x vs v us Q I rx rv h;obtain⟨z,Z,ds,xs,y,rfl,rfl,n,hs,h1,h2,q⟩:=h;obtain⟨t,rfl⟩:=rx;obtain⟨l,ws,rfl,q1,q2⟩:=c_ n;obtain⟨u,rfl,ru⟩:=rv.one;cases ru;obtain⟨its,rv',pl,hz⟩:=I.list (kx (K:=X.K) q1);exact join_listW pl.isList (by simpa using sG hs q2 rv') h1 h2 fun t' k=>⟨.str _,H,I.tok _,⟨t',rfl⟩,q⟩
theorem ux{X:Cx}:L5 X "list.insert" sF:=by
 intro pins s σ H x vs v us Q I rx rv h;obtain⟨l,xs,k,y,rfl,rfl,hH,h1,h2,hz,q⟩:=h;cases rx;obtain⟨u,u',rfl,ru,Wj⟩:=rv.two;obtain⟨t,rfl⟩:=ru;obtain⟨z,its,n,r,hl,e⟩:=I.vL hH;refine call_meets F.slot_list_insert ⟨_,e,rfl⟩ F.entry_list_insert (F.args_list_insert_3 _ _ _) (AutoListH.list_insert_list_int_val_1 l its.toArray n k t u' (by rw[fitsIndex_both h1 h2];simp) (by rw[List.size_toArray];omega)) ⟨e,?_⟩
 refine⟨.non,_,I.yN (its':=nj its k u') hH e ?_ ?_ ?_,rfl,q⟩
 ·have hk:(if k < 0 then (k + (its.toArray.size:Int)).toNat else min k.toNat its.toArray.size)=HT.cv its.length 0 (some k):=by rw[List.size_toArray];rfl
  show(its.toArray.extract 0 (if k < 0 then (k + (its.toArray.size:Int)).toNat else min k.toNat its.toArray.size)).push u'++its.toArray.extract (if k < 0 then (k + (its.toArray.size:Int)).toNat else min k.toNat its.toArray.size)=_
  rw[hk];unfold nj;apply Array.ext';simp;exact List.take_of_length_le (by simp)
 ·have e1:HT.cv xs.length 0 (some k)=HT.cv its.length 0 (some k):=by rw[hl]
  unfold nj;rw[e1];exact(r.take _).append (.cons Wj (r.drop _))
 ·unfold nj
  simp only[List.length_append,List.length_cons,List.length_take,List.length_drop];omega
theorem y6{v v':V}{u:Value}(h:L2.RelV v u)(h':L2.RelV v' u):v=v':=by
 cases v<;>cases v'<;>simp only[L2.RelV]at h h'<;>first
  | (obtain⟨t,rfl⟩:=h;obtain⟨t',e⟩:=h';cases e;done)
  | (obtain⟨t,rfl⟩:=h;obtain⟨t',e⟩:=h';cases e;rfl)
  | (obtain⟨t,rfl⟩:=h;cases h';done)
  | (subst h;obtain⟨t',e⟩:=h';cases e;done)
  | (subst h;cases h';done)
  | (subst h;cases h';rfl)
  | rfl
theorem sH{H:Hp}{a:Addr}{u:HO}{vs:List V}(h:Rd H a (.lst vs))(h':Rd H a u)(hu:∀ o w,u≠.dD o w):u=.lst vs:=by
 rcases h with h | ⟨o,h⟩<;>rcases h' with h' | ⟨o',h'⟩<;>rw[h]at h'<;>cases h'<;>first | rfl | exact absurd rfl (hu _ _)
theorem sI{H:Hp}{a:Addr}{u:HO}{vs:List V}(h:Rd H a (.tup vs))(h':Rd H a u)(hu:∀ o w,u≠.dD o w):u=.tup vs:=by
 rcases h with h | ⟨o,h⟩<;>rcases h' with h' | ⟨o',h'⟩<;>rw[h]at h'<;>cases h'<;>first | rfl | exact absurd rfl (hu _ _)
mutual
theorem sJ{Z:Addr->Prop}{H:Hp}:∀ {n:Nat} {d d':D} {v:V},aI n d=true->aI n d'=true->Rep Z H d v->Rep Z H d' v->d=d'
 | n,.non,d',v,_,o',h,h'=>by
  simp only[Rep]at h;subst h
  cases d'<;>simp only[Rep]at h'<;>first | rfl | (cases h';done) | (obtain⟨_,_,e,_⟩:=h';cases e)
 | n,.bl b,d',v,_,o',h,h'=>by
  simp only[Rep]at h;subst h
  cases d'<;>simp only[Rep]at h'<;>first | (cases h';rfl) | (cases h';done) | (obtain⟨_,_,e,_⟩:=h';cases e)
 | n,.int b,d',v,_,o',h,h'=>by
  simp only[Rep]at h;subst h
  cases d'<;>simp only[Rep]at h'<;>first | (cases h';rfl) | (cases h';done) | (obtain⟨_,_,e,_⟩:=h';cases e)
 | n,.str b,d',v,_,o',h,h'=>by
  simp only[Rep]at h;subst h
  cases d'<;>simp only[Rep]at h'<;>first | (cases h';rfl) | (cases h';done) | (obtain⟨_,_,e,_⟩:=h';cases e)
 | 0,.lst ds,_,_,o,_,_,_=>by simp[aI]at o
 | 0,.tup ds,_,_,o,_,_,_=>by simp[aI]at o
 | n + 1,.lst ds,d',v,o,o',h,h'=>by
  simp only[Rep]at h;obtain⟨a,vs,rfl,_,h1,h2⟩:=h;cases d' with
  | lst ds'=>
   simp only[Rep]at h';obtain⟨a',vs',e,_,h1',h2'⟩:=h';cases e;have:=sH h1 h1' (fun _ _ z=>by cases z)
   cases this;simp only[aI]at o o';rw[kG o o' h2 h2']
  | tup ds'=>
   simp only[Rep]at h';obtain⟨a',vs',e,_,h1',h2'⟩:=h';cases e;have:=sH h1 h1' (fun _ _ z=>by cases z)
   cases this
  | dct _ _=>simp[aI]at o'
  | ref _=>simp[aI]at o'
  | _=>simp only[Rep]at h';cases h'
 | n + 1,.tup ds,d',v,o,o',h,h'=>by
  simp only[Rep]at h;obtain⟨a,vs,rfl,_,h1,h2⟩:=h;cases d' with
  | lst ds'=>
   simp only[Rep]at h';obtain⟨a',vs',e,_,h1',h2'⟩:=h';cases e;have:=sI h1 h1' (fun _ _ z=>by cases z)
   cases this
  | tup ds'=>
   simp only[Rep]at h';obtain⟨a',vs',e,_,h1',h2'⟩:=h';cases e;have:=sI h1 h1' (fun _ _ z=>by cases z)
   cases this;simp only[aI]at o o';rw[kG o o' h2 h2']
  | dct _ _=>simp[aI]at o'
  | ref _=>simp[aI]at o'
  | _=>simp only[Rep]at h';cases h'
 | n,.dct _ _,_,_,o,_,_,_=>by cases n<;>simp[aI]at o
 | n,.ref _,_,_,o,_,_,_=>by cases n<;>simp[aI]at o
theorem kG{Z:Addr->Prop}{H:Hp}:∀ {n:Nat} {ds ds':List D} {vs:List V},ds.all (aI n)=true->ds'.all (aI n)=true->aT Z H ds vs->aT Z H ds' vs->ds=ds'
 | n,[],ds',vs,_,_,h,h'=>by
  rw[h.nil_inv]at h';cases ds' with
  | nil=>rfl
  | cons d r=>obtain⟨_,_,e,_⟩:=h'.cons_inv;cases e
 | n,d::ds,ds',vs,o,o',h,h'=>by
  obtain⟨v,r,rfl,h1,h2⟩:=h.cons_inv;cases ds' with
  | nil=>exact absurd h'.nil_inv (by simp)
  | cons d' ds'=>
   obtain⟨v',r',e,h1',h2'⟩:=h'.cons_inv;cases e;simp only[List.all_cons,Bool.and_eq_true]at o o';rw[sJ o.1 o'.1 h1 h1',kG o.2 o'.2 h2 h2']
end
def wo:V->List V->Hp->VK->Prop:=fun x vs H Q=>∃ Z ds d y j,vs=[y]/\Now Z H (.lst ds) x/\Now Z H d y/\aI 8 d=true/\ds.all (aI 8)=true/\ds.findIdx? (fun e=>eA e d)=some j/\Q (.int j) H
theorem jf{Z:Addr->Prop}{H:Hp}{ds:List D}{vs:List V}{its:List Value}{m:Nat}(r:aT Z H ds vs)(q:Vals vs its)(hm:m < its.length)(hd:m < ds.length):∃ v,Rep Z H ds[m] v/\L2.RelV v its[m]:=by
 obtain⟨v,h1,h2⟩:=r.get (i:=m) (d:=ds[m]) (by simp[hd])
 obtain⟨u,h3,h4⟩:=q.get h1;rw[List.getElem?_eq_getElem hm]at h3;cases h3;exact⟨v,h2,h4⟩
theorem wq{X:Cx}(hu:X.A.units + 64 < cLine):FX X "list.index" wo:=by
 intro pins s σ H x vs v us Q I rx rv h;obtain⟨Z,ds,d,y,j,rfl,nx,ny,o1,o2,hj,q⟩:=h;obtain⟨l,ws,rfl,q1,q2⟩:=c_ nx;cases rx;obtain⟨u,rfl,ru⟩:=rv.one;obtain⟨its,rv',pl,hz⟩:=I.list (kx (K:=X.K) q1);obtain⟨hjl,he,hno⟩:=List.findIdx?_eq_some_iff_getElem.mp hj;have hl:=rv'.length;have hl2:=q2.length;obtain⟨o,n,ho,hc,hd,hdt⟩:=pl;have hdm:∀ m (hm:m < ds.length),aI 8 ds[m]=true:=fun m hm=>List.all_eq_true.mp o2 _ (List.getElem_mem hm)
 have hj2:j < its.length:=by omega
 classical
 let e:Value->Bool:=fun w=>decide (∃ m,∃ (hm:m < its.length) (hd:m < ds.length),its[m]=w/\eA ds[m] d=true)
 have he':∀ m (hm:m < its.length) (hd:m < ds.length),e its[m]=eA ds[m] d:=fun m hm hd=>by
  cases hq:eA ds[m] d with
  | true=>exact decide_eq_true ⟨m,hm,hd,rfl,hq⟩
  | false=>
   refine decide_eq_false ?_;rintro⟨m',hm',hd',e1,e2⟩;obtain⟨v1,r1,p1⟩:=jf q2 rv' hm hd;obtain⟨v2,r2,p2⟩:=jf q2 rv' hm' hd';rw[e1]at p2;have:=y6 p1 p2;subst this;rw[sJ (hdm m hd) (hdm m' hd') r1 r2]at hq;rw[hq]at e2;cases e2
 refine call_meets F.slot_list_index ⟨_,ho,hc⟩ F.entry_list_index (F.args_list_index_2 _ _)
  (SeqAt.list_indexAt l its.toArray n none o.slots u e j (by rw[List.size_toArray];exact hj2) (by rw[sizeLine_eq]at hz;omega) ?_ ?_) ⟨?_,fun w hw => ?_,?_⟩
 ·show e its[j]=true
  rw[he' j hj2 hjl];exact he
 ·intro m hm Wk
  have hm':m < its.length:=by simpa using hm
  show e its[m]=false
  rw[he' m hm' (by omega)]
  simpa using hno m Wk
 ·rw[ho]
  obtain⟨c',d',dt,sl⟩:=o;cases hc;cases hd;cases hdt;rfl
 ·obtain⟨m,hm,rfl⟩:=List.mem_iff_getElem.mp (show w∈its by simpa using hw)
  have hd':m < ds.length:=by omega
  rw[he' m hm hd'];obtain⟨v1,r1,p1⟩:=jf q2 rv' hm hd';exact fD I 8 _ _ _ _ _ (by simp[Around.in1];omega) (hdm m hd') o1 (fY I r1.now p1 (hdm m hd')) (fY I ny ru o1)
 ·exact⟨.int j,H,I.tok _,⟨_,rfl⟩,q⟩
end Mir
namespace Mir
open PySem PySem.Spec PyProof.Rows L2
section
variable{X:Cx}{Γ:lL}{bw:Bool}{a b:Expr}{rest:List Expr}{ca cb:Ex}{pos:Pos}
theorem y8{ta tb:TE}(ha:PE X a ta)(hb:PE X (.BoolOp .And (b::rest) pos) tb):PE X (.BoolOp .And (a::b::rest) pos) (fun σ H Q=>ta σ H fun x H1=>∃ c,oA X.K x H1 c/\if c=true then tb σ H1 Q else Q x H1):=by
 intro pins s σ H Q I h;refine BoolOp_and (cu (ha pins s σ H _ I h) fun v s1 ⟨x,H1,I1,r1,c,t1,q1⟩ => ?_)
 refine cu (mX pins s1 σ H1 x v (fun d H2=>d=c/\H2=H1) I1 r1 ⟨c,t1,rfl,rfl⟩) fun d s2 ⟨H2,I2,e1,e2⟩ => ?_
 subst e1 e2;cases d with
 | true=>exact hb pins s2 σ H2 Q I2 q1
 | false=>exact⟨x,H2,I2,r1,q1⟩
theorem Dr{ta tb:TE}(ha:PE X a ta)(hb:PE X (.BoolOp .Or (b::rest) pos) tb):PE X (.BoolOp .Or (a::b::rest) pos) (fun σ H Q=>ta σ H fun x H1=>∃ c,oA X.K x H1 c/\if c=true then Q x H1 else tb σ H1 Q):=by
 intro pins s σ H Q I h;refine BoolOp_or (cu (ha pins s σ H _ I h) fun v s1 ⟨x,H1,I1,r1,c,t1,q1⟩ => ?_)
 refine cu (mX pins s1 σ H1 x v (fun d H2=>d=c/\H2=H1) I1 r1 ⟨c,t1,rfl,rfl⟩) fun d s2 ⟨H2,I2,e1,e2⟩ => ?_
 subst e1 e2;cases d with
 | false=>exact hb pins s2 σ H2 Q I2 q1
 | true=>exact⟨x,H2,I2,r1,q1⟩
theorem y9{ta:TE}(ha:PE X a ta):PE X (.UnaryOp .Not a pos) (fun σ H Q=>ta σ H fun x H1=>∃ c,oA X.K x H1 c/\Q (.bl (!c)) H1):=by
 intro pins s σ H Q I h;refine UnaryOp_ (cu (ha pins s σ H _ I h) fun v s1 ⟨x,H1,I1,r1,c,t1,q1⟩ => ?_)
 refine not_of (cu (mX pins s1 σ H1 x v (fun d H2=>d=c/\H2=H1) I1 r1 ⟨c,t1,rfl,rfl⟩) fun d s2 ⟨H2,I2,e1,e2⟩ => ?_)
 subst e1 e2;exact⟨.bl (!d),H2,I2,rfl,q1⟩
theorem d_.nw{own:Bool}{Z:Addr->Prop}{Hb H:Hp}{d:D}{v:V}(h:d_ bw own Z Hb H d v):Now Z H d v:=by
 cases bw with
 | true=>exact h.now
 | false=>exact(h.weak (bw:=true)).now
end
noncomputable def Ha(sc:Scope)(x:Str):Bool:=match sc.names.lookup x with
 | some .local | some .cell | some .free=>true
 | _=>false
noncomputable def wt(sc:Scope)(x:Str):Bool:=match sc.names.lookup x with
 | some .local | some .cell=>true
 | _=>false
noncomputable def y_(sc:Scope)(x:Str):Bool:=sc.names.lookup x == some .globalImplicit
noncomputable def okN(x:Str):Bool := !(x == ("__debug__":Str)) && !(x == ("__classdict__":Str)) && !(x == ("__name__":Str))
noncomputable def za(N:List Str)(x:Str):Option Nat:=N.findIdx? (· == x)
def mw(sc:Scope)(N:List Str)(x:Str):Option Nat:=if Ha sc x && okN x then za N x else none
def wu(x:Str):Option Ty:=[Ty.int,.str,.bool,.list,.tuple,.dict].find? (fun t=>t.nm == x)
noncomputable def isStar:Expr->Bool
 | .Starred _ _=>true
 | _=>false
noncomputable def isSlice:Expr->Bool
 | .Slice _ _ _ _=>true
 | _=>false
noncomputable def isSet:Expr->Bool
 | .Set _ _ _=>true
 | _=>false
noncomputable def qL(scope sc:Scope):Scope:={ scope with names:=scope.names.map fun (n,k)=>if (k == .free && sc.kind == .function && sc.names.lookup n == some .cell) then (n,.cell) else (n,k) }
noncomputable def dz(scope:Scope):List Str:=(scope.names.filter fun y=>y.2 == .free).map (·.1)
def qM(sc:Scope)(N:List Str):List Str->Option (List Nat)
 | []=>some []
 | x::xs=>do let i ← mw sc N x;let is ← qM sc N xs;some (i::is)
def wx(scope:Scope)(sc:Scope)(x:Str):Bool:=
 scope.kind == .function && scope.names.all (fun y => !(y.2 == .cell)) && scope.names.all (fun y => !(y.2 == .local) || scope.names.lookup y.1 == some .local) &&
 scope.names.all (fun y => !(y.2 == .free) || (sc.names.lookup y.1 == some .cell || sc.names.lookup y.1 == some .free) && scope.names.lookup y.1 == some .free) &&
 scope.names.lookup x == some .local && decide ((x::dz scope).Nodup)
noncomputable def kH:List Comprehension->Option (Str×Pos×Expr×List Expr)
 | [⟨.Name x p,iter,ifs,0⟩]=>some (x,p,iter,ifs)
 | _=>none
theorem mx{gs:List Comprehension}{x:Str}{p:Pos}{iter:Expr}{ifs:List Expr}(h:kH gs=some (x,p,iter,ifs)):gs=[⟨.Name x p,iter,ifs,0⟩]:=by
 unfold kH at h;split at h
 ·cases h;rfl
 ·cases h
theorem wy{N:List Str}{x:Str}{i:Nat}(h:za N x=some i):N[i]?=some x:=by
 unfold za at h;obtain⟨hi,he,_⟩:=List.findIdx?_eq_some_iff_getElem.mp h;rw[List.getElem?_eq_getElem hi,eq_of_beq he]
theorem sL{sc:Scope}{N:List Str}{x:Str}{i:Nat}(h:mw sc N x=some i):N[i]?=some x/\FT sc x/\(x == ("__debug__":Str))=false/\(x == ("__classdict__":Str))=false:=by
 unfold mw at h;split at h
 ·rename_i hc
  simp only[Bool.and_eq_true,okN,Bool.not_eq_true']at hc;refine⟨wy h,?_,hc.2.1.1,hc.2.1.2⟩;have hv:=hc.1;unfold Ha at hv;unfold FT;split at hv
  ·rename_i q;exact .inl q
  ·rename_i q;exact .inr (.inl q)
  ·rename_i q;exact .inr (.inr q)
  ·cases hv
 ·cases h
theorem sM{x:Str}(h:okN x=true):(x == ("__debug__":Str))=false/\(x == ("__classdict__":Str))=false/\x≠"__name__":=by
 simp only[okN,Bool.and_eq_true,Bool.not_eq_true']at h;refine⟨h.1.1,h.1.2,fun e => ?_⟩
 rw[e]at h;simp at h
noncomputable def ef:List Str:=["len","all","any","list","tuple","int","min","max","bool","isinstance","str","dict","range","sorted","enumerate","reversed","set"]
theorem cw{e:Expr}{es:List Expr}{env:Env}(h:isStar e=false):starEach (e::es) env=(false,eval e env)::starEach es env:=by
 cases e<;>first | rfl | (cases h)
theorem cE{env:Env}{pos:Pos}:∀ {es:List Expr},(∀ e∈es,isStar e=false)->(backTo pos (starEach es env)).any (·.1)=false
 | [],_=>rfl
 | e::es,h=>by
  rw[cw (h e (by simp))]
  show(false || (backTo pos (starEach es env)).any (·.1))=false
  rw[cE fun z hz=>h z (by simp[hz])]
  rfl
section
variable{X:Cx}{Γ:lL}{T:Tab}{k:Nat}{sc:Scope}{N:List Str}
theorem Hc{x:Str}{t:Ty}(h:wu x=some t):x=t.nm/\t.nm∈ef:=by
 unfold wu at h;have h1:=List.find?_some h;exact⟨(eq_of_beq h1).symm,by cases t<;>decide⟩
end
section
variable{X:Cx}{Γ:lL}{T:Tab}{k:Nat}{sc:Scope}{N:List Str}
theorem wz{sc:Scope}{N:List Str}:∀ {xs:List Str} {is:List Nat},qM sc N xs=some is->xs.length=is.length/\∀ (j i:Nat) (x:Str),xs[j]?=some x->is[j]?=some i->N[i]?=some x
 | [],is,h=>by cases h;exact⟨rfl,fun j i x e=>by simp at e⟩
 | x::xs,is,h=>by
  simp only[qM,Option.bind_eq_bind]at h;obtain⟨i,h1,h⟩:=Option.bind_eq_some_iff.mp h;obtain⟨is',h2,h⟩:=Option.bind_eq_some_iff.mp h;cases h;obtain⟨q1,q2⟩:=wz h2;refine⟨by rw[List.length_cons,List.length_cons,q1],fun j i' y e1 e2 => ?_⟩
  cases j with
  | zero=>simp at e1 e2;subst e1 e2;exact(sL h1).1
  | succ j=>exact q2 j i' y (by simpa using e1) (by simpa using e2)
theorem kI{iter:Expr}{env:Env}(h:isSet iter=false):∀ x,foldedSetIterable iter env x=pure x:=by
 intro x;cases iter<;>first | rfl | (simp[isSet]at h)
theorem oX{op:CmpOp}{b:Expr}(h:isSet b=false):behindInMarks op b=false:=by
 cases b<;>first | rfl | (simp[isSet]at h)
end
def oY(sc:Scope)(N:List Str)(x:Str):Option Nat:=if wt sc x && okN x then za N x else none
noncomputable def ij:Expr->Bool
 | .ListComp .. | .SetComp .. | .DictComp ..=>true
 | _=>false
noncomputable def oZ(sc:Scope)(x:Str)(px:Pos)(e:Expr):Bool:=match e with
 | .ListComp _ _ s _=>sc.names.lookup x == some .local && px.line == e.pos.line && !(s.names.any fun (n,k)=>n == x && (k == .local || k == .cell))
 | _=>false
noncomputable def eM:List Expr->Option (List (Str×Pos))
 | []=>some []
 | .Name x p::r=>(eM r).map ((x,p) :: ·)
 | _=>none
def kJ(sc:Scope)(N:List Str):List (Str×Pos)->Option (List Nat)
 | []=>some []
 | x::xs=>do let i ← oY sc N x.1;let is ← kJ sc N xs;some (i::is)
noncomputable def wA:Expr->Bool
 | .Call .. | .Name .. | .Subscript ..=>true
 | _=>false
section
variable{X:Cx}{Γ:lL}{T:Tab}{k:Nat}{sc:Scope}{N:List Str}
theorem jA:∀ {es:List Expr} {nms:List (Str×Pos)},eM es=some nms->es=nms.map fun x=>Expr.Name x.1 x.2
 | [],_,h=>by cases h;rfl
 | e::es,nms,h=>by
  unfold eM at h;split at h
  ·rename_i e;cases e
  ·rename_i x p r q
   cases q;obtain⟨ns,h1,h⟩:=Option.map_eq_some_iff.mp h;subst h;rw[jA h1];rfl
  ·cases h
theorem my(env:Env):∀ (nms:List (Str×Pos)),(assignEach (nms.map fun x=>Expr.Name x.1 x.2) env).length=nms.length/\(assignEach (nms.map fun x=>Expr.Name x.1 x.2) env).findIdx? (·.1)=none
 | []=>⟨rfl,rfl⟩
 | x::r=>by
  obtain⟨h1,h2⟩:=my env r;refine⟨?_,?_⟩
  ·show(assignEach (r.map fun x=>Expr.Name x.1 x.2) env).length + 1=_
   rw[h1];rfl
  ·show List.findIdx? (·.1) ((false,_)::assignEach (r.map fun x=>Expr.Name x.1 x.2) env)=none
   rw[List.findIdx?_cons,h2];rfl
end
def bO(N ps:List Str)(sc:Scope):Bool:=
 sc.kind == .function && !sc.isCoroutine && !sc.isGenerator && decide N.Nodup && decide (N.take ps.length=ps) && ps.all (wt sc) && sc.names.all fun y => !(y.2 == .free)
theorem nz{N ps:List Str}{sc:Scope}(h:bO N ps sc=true):jQ N ps sc:=by
 simp only[bO,Bool.and_eq_true,Bool.not_eq_true',decide_eq_true_eq,List.all_eq_true,beq_iff_eq]at h;obtain⟨⟨⟨⟨⟨⟨h1,h2⟩,h3⟩,h4⟩,h5⟩,h6⟩,h7⟩:=h;refine⟨h1,h2,h3,h4,h5,fun x hx => ?_,fun y hy e => ?_⟩
 ·have hv:=h6 x hx
  unfold wt at hv;split at hv
  ·rename_i q;exact .inl q
  ·rename_i q;exact .inr q
  ·cases hv
 ·have:=h7 y hy
  rw[e]at this;exact absurd this (by decide)
section
variable{P:Program}{w:World}{K:PySem.W.Frag}{mg:Str->Option Value}{base:Heap}{Γ:lL}{T:Tab}{k:Nat}
end
noncomputable def zb:Value->Bool
 | .type x=>x == "list"
 | _=>false
def o_(K:PySem.W.Frag):Bool:=K.all fun p => !zb p.2.cls
theorem pe:∀ {K:PySem.W.Frag} {a:Addr} {o:Obj},K.lookup a=some o->(a,o)∈K
 | [],_,_,h=>by cases h
 | (b,p)::K,a,o,h=>by
  rw[List.lookup_cons]at h;split at h
  ·rename_i e
   cases h;rw[eq_of_beq e];simp
  ·exact List.mem_cons_of_mem _ (pe h)
theorem Hd{K:PySem.W.Frag}(hK:o_ K=true){H:Hp}{a:Addr}{xs:List V}(h:jO K H a xs):Rd H a (.lst xs):=by
 rcases h with h | ⟨o,its,n,h1,h2,_⟩
 ·exact h
 ·have hm:=pe h1
  have:=List.all_eq_true.mp hK _ hm;rw[h2]at this;exact absurd this (by decide)
noncomputable def wB(K:PySem.W.Frag)(x:Str):Bool:=match PySem.W.nsIn K mainGlobals x with
 | some none=>true
 | _=>false
def sN(K:PySem.W.Frag):Bool:=ef.all (wB K)
theorem wC{K:PySem.W.Frag}{h:Heap}{mg:Str->Option Value}(X:K.In h)(G:h.Ns mainGlobals mg)(nb:sN K=true):∀ x∈ef,mg x=none:=fun x hx=>by
 have:=List.all_eq_true.mp nb x hx;unfold wB at this;split at this
 ·rename_i q;exact PySem.W.mg_none_of X G q
 ·cases this
section
variable{prog:Program}{w:World}{A:Around}{E:Value->Shared->Prop}{s:Shared}
theorem qN{it t:Addr}{i:Nat}{items:Array Value}{x:Value}{Q:Value->Shared->Prop}(hit:s.heap.IsTupleIter it t i)(ht:s.heap.IsTuple t items)(hx:items[i]?=some x)
  (hQ:∀ h',h'.IsTupleIter it t (i + 1)->Heap.SameBut it s.heap h'->Q x { s with heap:=h' }):wpAny (model prog w) A (Builtin.SmallTypes.nextOf (.ref it)) Q E s:=by
 obtain⟨o,ho,hc,hd⟩:=id hit;obtain⟨ol,hol,_,nl,hdl⟩:=ht;unfold Builtin.SmallTypes.nextOf
 refine wpAny_bind (wpAny_callSpecial?_slot (name:=Str.ofString "__next__") hit.typeIs F.slot_tuple_iterator_next
  (wpAny_call_entry F.slot_tuple_iterator_next hit.typeIs F.entry_tuple_iterator_next ?_ (F.args_tuple_iterator_next_1 _)))
 show wpAny _ _ (field (.ref it) 0 >>= _) _ _ s
 refine wpAny_bind (wpAny_field ho hd (x:=.ref t) rfl ?_)
 show wpAny _ _ (if (Value.ref t == Value.none)=true then _ else _) _ _ s
 rw[if_neg (show ¬ ((Value.ref t == Value.none)=true) from Bool.false_ne_true)]
 show wpAny _ _ (field (.ref it) 1 >>= _) _ _ s
 refine wpAny_bind (wpAny_field ho hd (x:=.int i 0) rfl ?_)
 show wpAny _ _ (seqItems? (.ref t) >>= _) _ _ s
 refine wpAny_bind (wpAny_seqItems hol hdl ?_);simp only[Int.toNat_natCast,hx];refine wpAny_bind (wpAny_setField ho hd (by simp) (wpAny_pure ⟨x,rfl,wpAny_pure (hQ _ ?_ (Heap.SameBut.update ..))⟩))
 exact⟨_,Heap.get?_update_self _ ho (Obj.isFreed_of_fields (Obj.data_mapFields hd _)),(Obj.cls_mapFields ..).trans hc,by
  rw[Obj.data_mapFields hd];simp[rawInt]⟩
theorem mz{it t:Addr}{i:Nat}{items:Array Value}{Q:Value->Shared->Prop}(hh:A.handled=none)(hit:s.heap.IsTupleIter it t i)(ht:s.heap.IsTuple t items)(hx:items[i]?=none)
  (hE:∀ h' e,Heap.ExtBut it s.heap h'->(∃ o,h'.get? e=some o/\o.cls=.type "StopIteration")->E (.ref e) { s with heap:=h' }):wpAny (model prog w) A (Builtin.SmallTypes.nextOf (.ref it)) Q E s:=by
 obtain⟨o,ho,hc,hd⟩:=id hit;obtain⟨ol,hol,_,nl,hdl⟩:=ht;unfold Builtin.SmallTypes.nextOf
 refine wpAny_bind (wpAny_callSpecial?_slot (name:=Str.ofString "__next__") hit.typeIs F.slot_tuple_iterator_next
  (wpAny_call_entry F.slot_tuple_iterator_next hit.typeIs F.entry_tuple_iterator_next ?_ (F.args_tuple_iterator_next_1 _)))
 show wpAny _ _ (field (.ref it) 0 >>= _) _ _ s
 refine wpAny_bind (wpAny_field ho hd (x:=.ref t) rfl ?_)
 show wpAny _ _ (if (Value.ref t == Value.none)=true then _ else _) _ _ s
 rw[if_neg (show ¬ ((Value.ref t == Value.none)=true) from Bool.false_ne_true)]
 show wpAny _ _ (field (.ref it) 1 >>= _) _ _ s
 refine wpAny_bind (wpAny_field ho hd (x:=.int i 0) rfl ?_)
 show wpAny _ _ (seqItems? (.ref t) >>= _) _ _ s
 refine wpAny_bind (wpAny_seqItems hol hdl ?_);simp only[Int.toNat_natCast,hx];refine wpAny_bind (wpAny_rule (wpAny_bind (wpAny_setField ho hd (by simp) ?_)))
 show wpAny _ _ (newExc (.type "StopIteration") [] >>= _) _ _ _
 refine wpAny_bind ?_;simp only[newExc,newTuple];refine wpAny_bind (wpAny_newObj_type ?_ (by size_fits))
 refine wpAny_bind (m:=firstArgMember _ _) (wpAny_of_eq (a:=Value.none) (by first | rfl | (simp only[firstArgMember];rfl)) ?_)
 refine wpAny_newObj_type ?_ (by size_fits)
 simp only[raiseNew];refine wpAny_bind (wpAny_handled ?_)
 first | rw[show A.in1.handled=none from hh] | rw[hh]
 refine wpAny_bind (wpAny_pure (wpAny_throw ?_));exact hE _ _ (((Heap.SameBut.update ..).extBut.push _).push _) ⟨_,Heap.get?_push_size _ rfl,rfl⟩
end
theorem Ds{prog:Program}{w:World}{A:Around}(hh:A.handled=none)(it l:Addr)(hne:l≠it)(items:Array Value) :
  Draws prog w A it [it,l] items.size (fun i v=>items[i]?=some v) (fun i h=>h.IsTupleIter it l i/\h.IsTuple l items) where
 live:=fun _ _ st=>let ⟨o,ho,_⟩:=st.1;⟨o,ho⟩
 frame:=fun _ _ _ st hk=>⟨let ⟨o,ho,r⟩:=st.1;⟨o,hk it (by simp) o ho,r⟩,let ⟨o,ho,r⟩:=st.2;⟨o,hk l (by simp) o ho,r⟩⟩
 item:=fun i s Q E hi st hQ=>by
  refine qN st.1 st.2 (x:=items[i]) (by simp[hi]) fun h' hit' hs' => ?_
  exact hQ _ h' s.toks (by simp[hi]) ⟨hit',st.2.extBut hs'.extBut hne⟩ hs'
 done:=fun s Q E st hE=>mz hh st.1 st.2 (by simp) hE
open AutoSeq1 (wpAny_loadPart') in
theorem pf(l:Addr)(items:Array Value)(n:Nat)(dct:Option Addr)(sl:Array (Option Value)) :
  Meets (Builtin.«enumerate.__new__» ⟨[.type "enumerate",.ref l],[]⟩) (fun _ R s=>s.heap.get? l=some { cls:=.type "tuple",dict:=dct,data:=.seq items n,slots:=sl } /\
   R (.ok (.ret (.ref (s.heap.push { cls:=.type "tuple_iterator",data:=.fields #[.ref l,.int 0 0] }).objs.size)))
    { s with heap:=(s.heap.push { cls:=.type "tuple_iterator",data:=.fields #[.ref l,.int 0 0] }).push { cls:=.type "enumerate",data:=.fields #[.none,.bool false,.ref s.heap.objs.size,rawInt 0,.none,.none] } }):=
 .of_wp fun prog w A R s h=>by
  obtain⟨hp,g,d,tk,os⟩:=s;obtain⟨hl,h⟩:=h
  have hsub:=sub_enumerate;have hL:Heap.IsTuple (Shared.heap ⟨hp,g,d,tk,os⟩) l items:=⟨_,hl,rfl,n,rfl⟩
  wp_walk using wpAny_loadPart' hl
  refine wpAny_stack_any fun st=>wpAny_pure ?_
  split
  ·rename_i c _ _ _ _ _
   cases (c == Value.type "enumerate")
   ·wp_walk using wpAny_loadPart' hl,wpAny_pyIter_tuple hL
    exact⟨_,rfl,h⟩
   ·wp_walk using wpAny_loadPart' hl,wpAny_pyIter_tuple hL
    exact⟨_,rfl,h⟩
  ·wp_walk using wpAny_loadPart' hl,wpAny_pyIter_tuple hL
   exact⟨_,rfl,h⟩
theorem qO{prog:Program}{w:World}{A:Around}{E:Value->Shared->Prop}{s:Shared}{l:Addr}{items:Array Value}{Q:Value->Shared->Prop}(hL:s.heap.IsTuple l items)
  (h:∀ h',IsEnum h' (s.heap.objs.size + 1) s.heap.objs.size 0 .none->h'.IsTupleIter s.heap.objs.size l 0->h'.objs.size=s.heap.objs.size + 2 ->
   (∀ b o,s.heap.get? b=some o->h'.get? b=some o)->Q (.ref (s.heap.objs.size + 1)) { s with heap:=h' }) :
  wpAny (model prog w) A (call (.type "enumerate") [.ref l]) Q E s:=by
 obtain⟨⟨c,dct,dt,sl⟩,hl,hc,n,hd⟩:=hL;replace hc:c=.type "tuple":=hc;replace hd:dt=.seq items n:=hd;subst hc hd
 refine callType_new F.called_enumerate (by decide) (F.typeCall_enumerate_1 _) (F.newCall_enumerate_1 _) (fun obj=>F.args_object_init_2 obj _) F.entry_enumerate_new
  (pf l items n dct sl) ⟨hl,?_⟩
 have hz:(s.heap.push { cls:=.type "tuple_iterator",data:=.fields #[.ref l,.int 0 0] }).objs.size=s.heap.objs.size + 1:=Heap.size_push ..
 show _/\_
 rw[hz]
 have he:IsEnum ((s.heap.push { cls:=.type "tuple_iterator",data:=.fields #[.ref l,.int 0 0] }).push
   { cls:=.type "enumerate",data:=.fields #[.none,.bool false,.ref s.heap.objs.size,rawInt 0,.none,.none] }) (s.heap.objs.size + 1) s.heap.objs.size 0 .none:=by
  have:=Heap.get?_push_size (s.heap.push { cls:=.type "tuple_iterator",data:=.fields #[.ref l,.int 0 0] })
   (o:={ cls:=.type "enumerate",data:=.fields #[.none,.bool false,.ref s.heap.objs.size,rawInt 0,.none,.none] }) rfl
  rw[hz]at this;exact this
 refine⟨⟨_,he,rfl⟩,h _ he ⟨_,Heap.get?_push_of_some _ (Heap.get?_push_size _ rfl),rfl,rfl⟩ (by rw[Heap.size_push,hz]) fun b o x=>Heap.get?_push_of_some _ (Heap.get?_push_of_some _ x)⟩
theorem uy{prog:Program}{w:World}{A:Around}{E:Value->Shared->Prop}{s:Shared}{e it l:Addr}{i:Nat}{items:Array Value}{old:Value}{Q:Option Value->Shared->Prop}(hh:A.handled=none)
  (he:IsEnum s.heap e it i old) (hit:s.heap.IsTupleIter it l i) (hl:s.heap.IsTuple l items) (hx:items[i]?=none)
  (hQ:∀ h',Heap.ExtBut it s.heap h'->Q none { s with heap:=h' }):wpAny (model prog w) A (pyNext (.ref e)) Q E s:=by
 have hT:s.TypeIs (.ref e) "enumerate":=⟨_,he,rfl⟩;unfold pyNext
 refine wpAny_bind (wpAny_attempt (wpAny_callSpecial?_slot (name:=Str.ofString "__next__") hT F.slot_enumerate_next
  (wpAny_call_entry F.slot_enumerate_next hT F.entry_enumerate_next ?_ (F.args_enumerate_next_1 _))))
 show wpAny _ _ (field (.ref e) 2 >>= _) _ _ _
 refine wpAny_bind (wpAny_field he rfl (x:=.ref it) rfl ?_);refine wpAny_bind (mz hh hit hl hx fun h' x he' hx' => ?_)
 obtain⟨o,ho,hc⟩:=hx';refine wpAny_bind (wpAny_isInstance (T:="StopIteration") (b:=true) ⟨o,ho,hc⟩ isSubtype_stop ?_);exact wpAny_pure (hQ _ he')
def He(K:PySem.W.Frag)(a:Addr):It:=
 ⟨fun i H=>∃ xs x,f_ K H a xs/\xs[i]?=some x,fun i H x H'=>∃ p,x=.ref p/\H p=none/\∀ xs,f_ K H a xs->∃ v,xs[i]?=some v/\H'=upd H p (.tup [.int i,v]),fun i H=>∃ xs,f_ K H a xs/\xs.length<=i⟩
theorem qP{P:Program}{w:World}{K:PySem.W.Frag}{elts:List Expr}{x1:Nat}{tpos:Pos}(a e it:Addr)(hne:e≠it) :
  Turn P w K (.Tuple elts x1 tpos) (He K a) [e,it] e (fun i h=>(∃ old,IsEnum h e it i old)/\h.IsTupleIter it a i) where
 mem:=by simp
 obj:=fun i h st b hb=>by
  obtain⟨⟨old,st1⟩,o,e2,c,d⟩:=st;rcases List.mem_cons.mp hb with z | z
  ·subst z
   exact⟨_,st1,fun v z=>by
    have z':Data.fields _=Data.cell v:=z;cases z'⟩
  ·have z:b=it:=by simpa using z
   subst z;exact⟨o,e2,fun v z=>by rw[d]at z;cases z⟩
 keep:=fun i h h' st k=>by
  obtain⟨⟨old,st1⟩,o,e2,r⟩:=st;exact⟨⟨old,k e (by simp) _ st1⟩,o,k it (by simp) o e2,r⟩
 item:=by
  intro X hP hw hK hc i pins s σ H E I hf st hg;subst hP hw hK;obtain⟨xs,x,hq,hx⟩:=hg;obtain⟨⟨old,st1⟩,st2⟩:=st;obtain⟨its,rv,p,hz⟩:=I.tuple hq;obtain⟨u,hu,ru⟩:=rv.get hx
  have hit':a≠it:=fun z=>by
   obtain⟨o,h1,h2,_⟩:=p;obtain⟨o',h3,h4,_⟩:=st2;rw[z,h3]at h1;cases h1
   rw[h2]at h4;exact absurd h4 (by decide)
  have Wl:e≠a:=fun z=>by
   obtain⟨o,h1,h2,_⟩:=p;have Hf:s.heap.get? e=some _:=st1;rw[z,h1]at Hf;have h2':=congrArg (fun x:Option Obj=>x.map (·.cls)) Hf
   simp only[Option.map_some,h2,Option.some.injEq]at h2';exact absurd h2' (by decide)
  have hlt:i < its.toArray.size:=by
   have:=(List.getElem?_eq_some_iff.mp hu).1;simpa using this
  refine wpAny_pyNext_enum_itemD (Ds (A:=X.A.in1) (I.ok.hd hc) it a hit' its.toArray) st1 ⟨st2,p⟩ hlt hne (by simp[hne,Wl]) fun u' h' tk Ol so si tu sz kp => ?_
  have Om:u'=u:=by
   have e1:its.toArray[i]?=some u':=Ol;have e2:its[i]?=some u':=by simpa using e1
   rw[hu]at e2;cases e2;rfl
  subst Om;refine⟨_,rfl,wpAny_letOwnedTupleGo_enum (s:={ s with heap:=h',toks:=tk + 1 }) so fun h2 se sb => ?_⟩
  have yY:∀ b o,b∉[e,it]->s.heap.get? b=some o->h2.get? b=some o:=fun b o hb q=>by
   have h1:b≠e:=fun z=>hb (by simp[z])
   have h3:b≠it:=fun z=>hb (by simp[z])
   exact sb.extBut b o h1 (kp b o h1 h3 q)
  have hel:e < s.heap.objs.size:=Heap.lt_size st1;have G_:h2.get? s.heap.objs.size=some { cls:=.type "tuple",data:=.seq #[.int i tk,u'] }:=sb.extBut _ _ (Nat.ne_of_gt hel) tu;have se':∃ old,IsEnum h2 e it ((i + 1:Nat):Int) old:=⟨u',by rw[show((i + 1:Nat):Int)=(i:Int) + 1 by omega];exact se⟩
  refine⟨.ref s.heap.objs.size,upd H s.heap.objs.size (.tup [.int i,x]),?_,rfl,⟨_,rfl,I.hok.fresh (Nat.le_refl _),fun ys hy=>⟨x,by rw[I.lT hy hq];exact hx,rfl⟩⟩,⟨se',?_⟩,fun b hb => ?_⟩
  ·have tup:IsTup h2 s.heap.objs.size [Value.int i tk,u'].toArray:=⟨_,G_,rfl,_,rfl⟩
   have new:bJ X.prog X.w (upd H s.heap.objs.size (.tup [.int i,x])) h2 s.heap.objs.size (.tup [.int i,x]):=⟨by rw[sizeLine_eq];simp,[.int i tk,u'],.cons ⟨_,rfl⟩ (.cons ru .nil),tup⟩
   have:=gv (s:=s) (h':=h2) (t':=tk + 1) I hf yY (Nat.le_refl _) new;exact this
  ·exact si.1.extBut sb.extBut (Ne.symm hne)
  ·have hlt:b < s.heap.objs.size:=by
    rcases List.mem_cons.mp hb with z | z
    ·subst z;exact hel
    ·have z:b=it:=by simpa using z
     subst z;obtain⟨o,q,_⟩:=st2;exact Heap.lt_size q
   rw[aF (Nat.ne_of_lt hlt)];exact(hf b hb).1
 done:=by
  intro X hP hw hK hc i pins s σ H E I hf st hg;subst hP hw hK;obtain⟨xs,hq,hx⟩:=hg;obtain⟨⟨old,st1⟩,st2⟩:=st;obtain⟨its,rv,p,hz⟩:=I.tuple hq;obtain⟨f0,f1,f2,f3,f4,f5⟩:=hf it (by simp)
  have hl:=rv.length;exact uy (I.ok.hd hc) st1 st2 p (by simp;omega) fun h' eb=>⟨rfl,I.turned (t':=s.toks) (fun b o hb e=>eb b o hb e) f0 f1 f3 f4 f5⟩
 self:=fun _ _ _ _ _ st h=>by
  obtain⟨⟨old,st1⟩,_⟩:=st;exact wpAny_pyIter_enum st1 h
def Hg(K:PySem.W.Frag)(ta:TA):TI:=fun σ H R=>ta σ H fun vs H1=>∃ a,vs=[.ref a]/\(((∃ xs,jO K H1 a xs)/\R (Ti K a) H1)\/((∃ xs,f_ K H1 a xs)/\R (He K a) H1))
theorem wD{X:Cx}{es:List Expr}{x1:Nat}{tpos p pos:Pos}{a:Expr}{ta:TA}(hg:Gl X "enumerate")(hm:X.mg "enumerate"=none)(ha:PA X [a] ta)(hs:starEach [a] X.env=[(false,eval a X.env)]) :
  PI X (.Tuple es x1 tpos) (.Call (.Name "enumerate" p) [a] [] pos) (Hg X.K ta):=by
 intro pins s σ H R I h;refine Call_ (ke I hg hm boot_enumerate (PyProof.Rows.callWith_type1 (cu (ha pos pins s σ H _ I h) fun us s1 ⟨vs,H1,I1,r1,q1⟩ => ?_) hs rfl))
 obtain⟨l,rfl,hq⟩:=q1;cases r1 with
 | cons r rr=>
  cases rr;cases r
  have fp:∀ b∈[s1.heap.objs.size + 1,s1.heap.objs.size],s1.heap.objs.size<=b:=fun b hb=>by
   rcases List.mem_cons.mp hb with z | z
   ·rw[z];exact Nat.le_succ _
   ·have z:b=s1.heap.objs.size:=by simpa using z
    rw[z];exact Nat.le_refl _
  rcases hq with ⟨⟨xs,hq⟩,q⟩ | ⟨⟨xs,hq⟩,q⟩
  ·obtain⟨its,rv,pl,hz⟩:=I1.list hq
   refine call_enumerate_list pl.isList fun h' en li sz kp=>wpAny_pyIter_enum (s:={ s1 with heap:=h' }) en ?_
   have I2:L2.Inv X pins σ H1 { s1 with heap:=h' }:=I1.kept (t':=s1.toks) kp;exact⟨s1.heap.objs.size + 1,[s1.heap.objs.size + 1,s1.heap.objs.size],_,_,H1,rfl,I2,uw l _ _ (Nat.succ_ne_self _),⟨⟨_,en⟩,li⟩,fun b hb=>I1.t8 (fp b hb) (I1.hok.fresh (fp b hb)),q⟩
  ·obtain⟨its,rv,pl,hz⟩:=I1.tuple hq
   refine qO (items:=its.toArray) pl fun h' en li sz kp=>wpAny_pyIter_enum (s:={ s1 with heap:=h' }) en ?_
   have I2:L2.Inv X pins σ H1 { s1 with heap:=h' }:=I1.kept (t':=s1.toks) kp;exact⟨s1.heap.objs.size + 1,[s1.heap.objs.size + 1,s1.heap.objs.size],_,_,H1,rfl,I2,qP l _ _ (Nat.succ_ne_self _),⟨⟨_,en⟩,li⟩,fun b hb=>I1.t8 (fp b hb) (I1.hok.fresh (fp b hb)),q⟩
end Mir
namespace L2
open PySem PySem.Spec PyProof.Rows PySem.W
def Hh(X:Cx)(f:Addr)(vs:List V)(σ:St)(H:Hp)(Q:VK):Prop:=∀ (pins:List (Addr×Obj)) (s:Shared) (us:List Value),Inv X pins σ H s->Vals vs us->wpAny (model X.prog X.w) X.A (call (.ref f) us) (EP X pins σ Q) X.xe s
noncomputable def Cx.fz(X:Cx)(xs:List Str):Cx:={ X with fn:=fun y=>X.fn y && !(xs.contains y) }
section
variable{X:Cx}{pins:List (Addr×Obj)}{σ:St}{H:Hp}{s:Shared}
end
end L2
namespace L2
open PySem PySem.Spec PyProof.Rows
theorem qQ{prog:Program}{w:World}{es:Array DictEntry}(d:Addr)(hd:(d == sysModules)=false) :
  MeetsIn prog w (Builtin.«dict.__len__» ⟨[.ref d],[]⟩) (fun _ R s=>∃ o ep,s.heap.get? d=some o/\o.data=.dict es ep/\R (.ok (.ret (.int es.size s.toks))) { s with toks:=s.toks + 1 }):=
 .of_wp fun A R s ⟨o,ep,ho,hdat,h⟩=>by
  show wpAny _ _ (dictSize d >>= _) _ _ s
  unfold dictSize;refine wpAny_bind (wpAny_bind (wpAny_dictEntries ho hdat (wpAny_pure ?_)))
  show wpAny _ _ (Builtin.Dict.pendingCount d >>= _) _ _ s
  refine wpAny_bind (wpAny_pendingCount_other hd ?_);refine wpAny_ret_mkInt ?_;rw[Nat.add_zero];exact h
theorem KT.length{H:Hp}{l:List (List Key×V)}{m:List (List Key×Addr×Value)}(q:KT H l m):m.length=l.length:=by
 induction q with
 | nil=>rfl
 | cons _ _ ih=>rw[List.length_cons,List.length_cons,ih]
theorem uA{X:Cx}:di X (.builtin "len") (fun xs H Q=>∃ a kvs,xs=[V.ref a]/\H a=some (.dT kvs)/\Q (.int kvs.length) H):=by
 intro pins s σ H xs us Q I r h;obtain⟨a,kvs,rfl,ha,q⟩:=h;obtain⟨u,rfl,ru⟩:=vals1 r;cases ru;obtain⟨z,hd,xs,rel,dd⟩:=BH I.hok ha;have ty:=dd.typeIs;obtain⟨o,es,ep,h1,h2,h3,h4,h5,h6⟩:=dd;have hl:es.size=kvs.length:=by rw[size_of_entries h4,rel.length]
 refine Calls.call_function_entry kind_len plain_len entry_len (args_len1 _) ?_;unfold Builtin.«len»;refine wpAny_bind (m:=oneArg "len" _) (wpAny_pure ?_)
 refine wpAny_bind (m:=callSpecial? (.ref a) (Str.ofString "__len__")) (wpAny_callSpecial?_slot (name:=Str.ofString "__len__") ty F.slot_dict_len
  (call_meetsIn F.slot_dict_len ty F.entry_dict_len (F.args_dict_len_1 _) (qQ (es:=es) a hd) ⟨o,ep,h1,h3,?_⟩))
 show wpAny _ _ _ _ _ { s with toks:=s.toks + 1 }
 refine wpAny_bind (wpAny_holding (wpAny_pure ?_));refine wpAny_bind (wpAny_letGo ?_);rw[sizeLine_eq]at z
 show wpAny _ _ (if ((es.size:Nat):Int) < 0 then _ else _) _ _ _
 rw[if_neg (by omega)]
 show wpAny _ _ (if ((es.size:Nat):Int)≥2 ^ 63 then _ else _) _ _ _
 rw[if_neg (by omega)]
 refine wpAny_bind (wpAny_mkInt (wpAny_pure ⟨_,rfl,.int kvs.length,H,(I.tok _).tok _,⟨_,by rw[hl]⟩,q⟩))
end L2
namespace HT
open PySem PyProof.Rows
section
variable{prog:Program}{w:World}{A:Around}{E:Value->Shared->Prop}{s:Shared}
theorem hW{t sl:Addr}{items:Array Value}{vl vu:Value}{lo hi:Option Int}{Q:Value->Shared->Prop}(ht:IsTup s.heap t items)(hs:s.heap.IsSliceOf sl vl vu .none)(pl:IsPart vl lo)(pu:IsPart vu hi)
  (h1:cv items.size 0 lo=0) (h2:cv items.size items.size hi=items.size) (h:Q (.ref t) s):wpAny (model prog w) A (getItem (.ref t) (.ref sl)) Q E s:=by
 obtain⟨os,hos,hcs,hds⟩:=id hs;have hTs:s.TypeIs (.ref sl) "slice":=⟨os,hos,hcs⟩;unfold getItem
 try with_reducible refine wpAny_holding ?_
 first | refine wpAny_bind (wpAny_pure ?_) | skip
 refine wpAny_bind (wpAny_sequenceKey ht.typeIs (by decide) ?_)
 refine wpAny_bind (wpAny_callSpecial?_slot (name:=Str.ofString "__getitem__") ht.typeIs PyProof.Rows.slot_tuple_getitem
  (wpAny_call_entry PyProof.Rows.slot_tuple_getitem ht.typeIs entry_tuple_getitem ?_ (args_tuple_getitem _ _)))
 show wpAny _ _ (Builtin.Tuple.tupleItemsOf (.ref t) >>= _) _ _ s
 refine wpAny_bind (tupleItemsOf_ ht ?_);refine wpAny_bind (wpAny_typeOf hTs ?_);rw[if_pos (by decide)]
 refine wpAny_bind (fu hs pl pu ?_)
 have Oo:(((cv items.size 0 lo:Nat):Int) == 0 && (1:Int) == 1 && (cv items.size items.size hi - cv items.size 0 lo) == items.size)=true:=by
  rw[h1,h2];simp
 show wpAny _ _ (if (((cv items.size 0 lo:Nat):Int) == 0 && (1:Int) == 1 && (cv items.size items.size hi - cv items.size 0 lo) == items.size)=true then _ else _) _ _ s
 rw[if_pos Oo];unfold Builtin.Tuple.tupleIsExact;refine wpAny_bind (wpAny_bind (wpAny_typeOf ht.typeIs (wpAny_pure ?_)));rw[if_pos (by decide)]
 exact wpAny_bind (wpAny_rule (wpAny_pure ⟨_,rfl,wpAny_pure h⟩))
theorem wF{t b:Addr}{ws:List Value}{Q:Value->Shared->Prop}(ht:IsTup s.heap t #[])(hb:IsTup s.heap b ws.toArray)(h:Q (.ref b) s):wpAny (model prog w) A (binaryOp .Add (.ref t) (.ref b)) Q E s:=by
 obtain⟨⟨cls,dd,data,sl⟩,ho,hc,n,hd⟩:=id ht;obtain⟨⟨cls2,dd2,data2,sl2⟩,ho2,hc2,n2,hd2⟩:=id hb;simp only at hc hd hc2 hd2;subst hc hd hc2 hd2
 exact concat_meets ⟨_,ho,rfl⟩ ⟨_,ho2,rfl⟩ noFill_tuple_add seq_tuple_add PySem.F.slot_tuple_add PySem.F.entry_tuple_add (PySem.F.args_tuple_add_2 _ _)
   (tuple_addW0 t b #[] ws.toArray n n2 dd dd2 sl sl2 rfl) ⟨ho,ho2,h⟩
end
end HT
namespace L2
open PySem PySem.Spec PyProof.Rows
section
variable{X:Cx}
def Hi(K:PySem.W.Frag):V->Option Int->Option Int->Hp->VK->Prop:=fun x lo hi H Q=>∃ a xs,x=.ref a/\f_ K H a xs/\HT.cv xs.length 0 lo=0/\HT.cv xs.length xs.length hi=xs.length/\Q (.ref a) H
theorem iM:yJ X (Hi X.K):=by
 intro pins s σ H x v vl vu lo hi sl Q I rx hs pl pu h;obtain⟨a,xs,rfl,hx,h1,h2,q⟩:=h;cases rx;obtain⟨its,r,ht,hz⟩:=I.tuple hx;have hlen:its.toArray.size=xs.length:=by rw[List.size_toArray];exact r.length.symm
 refine⟨"tuple",_,PyProof.Rows.slot_tuple_getitem.lookup,ht.typeIs,?_⟩;exact HT.hW ht hs pl pu (by rw[hlen];exact h1) (by rw[hlen];exact h2) ⟨.ref a,H,I,rfl,q⟩
noncomputable def BN(K:PySem.W.Frag):R2:=fun x y H Q=>∃ a b ys,x=.ref a/\y=.ref b/\f_ K H a []/\f_ K H b ys/\Q (.ref b) H
theorem zc:gf X (binaryOp .Add) (BN X.K):=by
 intro pins s σ H x y v u Q I rx ry h;obtain⟨a,b,ys,rfl,rfl,ha,hb,q⟩:=h;cases rx;cases ry;obtain⟨its,r1,p1,_⟩:=I.tuple ha;obtain⟨its2,r2,p2,_⟩:=I.tuple hb;cases r1;exact HT.wF p1 p2 ⟨.ref b,H,I,rfl,q⟩
end
end L2
namespace Mir
open PySem PySem.Spec PyProof.Rows L2
end Mir
namespace Mir
open PySem L2
structure Oq where
 name:Str
 qual:Str
 params:Arguments
 body:List Stmt
 scope:Scope
 ps:List Str
 cn:List Str
class aN where
 tab:Nat->Oq
 ta:Nat->Addr
inductive Cell where
 | lst (ds:List D)
 | dK (kvs:List (Key×D))
 | dT (kvs:List (List Key×D))
 | dF (kvs:List (Key×D))
 | ins (C:Str) (fs:List (Str×D))
 | fn (j:Nat) (qR:List D)
 | tb (j:Nat) (p:Pos) (b:Bool)
abbrev aG:=List Cell
inductive ay (α:Type) where
 | ok (a:α) (Ω:aG)
 | exc (x:D) (Ω:aG)
 | bad
noncomputable def ay.bind{α β:Type}:ay α->(α->aG->ay β)->ay β
 | .ok a Ω,f=>f a Ω
 | .exc x Ω,_=>.exc x Ω
 | .bad,_=>.bad
abbrev aU:=List (Option D)
inductive aJ {α β:Type} (R:α->β->Prop):List α->List β->Prop where
 | nil:aJ R [] []
 | cons {a b as bs}:R a b->aJ R as bs->aJ R (a::as) (b::bs)
namespace aJ
variable{α β:Type}{R S:α->β->Prop}
theorem length:∀ {as:List α} {bs:List β},aJ R as bs->bs.length=as.length
 | _,_,.nil=>rfl
 | _,_,.cons _ t=>by rw[List.length_cons,List.length_cons,length t]
theorem imp(h:∀ a b,R a b->S a b):∀ {as:List α} {bs:List β},aJ R as bs->aJ S as bs
 | _,_,.nil=>.nil
 | _,_,.cons r t=>.cons (h _ _ r) (imp h t)
theorem get:∀ {as:List α} {bs:List β} {i:Nat} {a:α},aJ R as bs->as[i]?=some a->∃ b,bs[i]?=some b/\R a b
 | _,_,_,_,.nil,e=>by simp at e
 | _,_,0,_,.cons r _,e=>by simp at e;subst e;exact⟨_,rfl,r⟩
 | _,_,i + 1,a,.cons _ t,e=>by
  obtain⟨u,h1,h2⟩:=get (i:=i) (a:=a) t (by simpa using e)
  exact⟨u,by simpa using h1,h2⟩
theorem Dt:∀ {as:List α} {bs:List β} {i:Nat} {b:β},aJ R as bs->bs[i]?=some b->∃ a,as[i]?=some a/\R a b
 | _,_,_,_,.nil,e=>by simp at e
 | _,_,0,_,.cons r _,e=>by simp at e;subst e;exact⟨_,rfl,r⟩
 | _,_,i + 1,a,.cons _ t,e=>by
  obtain⟨u,h1,h2⟩:=Dt (i:=i) (b:=a) t (by simpa using e)
  exact⟨u,by simpa using h1,h2⟩
theorem append:∀ {as cs:List α} {bs ds:List β},aJ R as bs->aJ R cs ds->aJ R (as++cs) (bs++ds)
 | _,_,_,_,.nil,h=>h
 | _,_,_,_,.cons r t,h=>.cons r (append t h)
theorem one{a:α}{b:β}(h:R a b):aJ R [a] [b]:=.cons h .nil
theorem take:∀ {as:List α} {bs:List β} (n:Nat),aJ R as bs->aJ R (as.take n) (bs.take n)
 | _,_,0,_=>by simp;exact .nil
 | _,_,n + 1,.nil=>by simp;exact .nil
 | _,_,n + 1,.cons r t=>.cons r (take n t)
theorem drop:∀ {as:List α} {bs:List β} (n:Nat),aJ R as bs->aJ R (as.drop n) (bs.drop n)
 | _,_,0,h=>h
 | _,_,n + 1,.nil=>by simp;exact .nil
 | _,_,n + 1,.cons r t=>drop n t
theorem reverse:∀ {as:List α} {bs:List β},aJ R as bs->aJ R as.reverse bs.reverse
 | _,_,.nil=>.nil
 | _,_,.cons r t=>by rw[List.reverse_cons,List.reverse_cons];exact(reverse t).append (one r)
theorem set{a:α}{b:β}(r:R a b):∀ {as:List α} {bs:List β} (n:Nat),aJ R as bs->aJ R (as.set n a) (bs.set n b)
 | _,_,_,.nil=>.nil
 | _,_,0,.cons _ t=>.cons r t
 | _,_,n + 1,.cons q t=>.cons q (set r n t)
theorem nil_inv{bs:List β}(h:aJ R [] bs):bs=[]:=by cases h;rfl
theorem cons_inv{a:α}{as:List α}{bs:List β}(h:aJ R (a::as) bs):∃ b r,bs=b::r/\R a b/\aJ R as r:=by
 cases h with
 | cons r t=>exact⟨_,_,rfl,r,t⟩
end aJ
mutual
noncomputable def au(α:List Addr)(Z:Addr->Prop)(H:Hp):D->V->Prop
 | .non,v=>v=.non
 | .bl b,v=>v=.bl b
 | .int i,v=>v=.int i
 | .str x,v=>v=.str x
 | .lst ds,v=>∃ a vs,v=.ref a/\Z a/\Rd H a (.lst vs)/\eg α Z H ds vs
 | .tup ds,v=>∃ a vs,v=.ref a/\Z a/\H a=some (.tup vs)/\eg α Z H ds vs
 | .dct _ _,_=>False
 | .ref n,v=>∃ a,α[n]?=some a/\v=.ref a
noncomputable def eg(α:List Addr)(Z:Addr->Prop)(H:Hp):List D->List V->Prop
 | [],vs=>vs=[]
 | d::ds,vs=>∃ v r,vs=v::r/\au α Z H d v/\eg α Z H ds r
end
theorem bp{α:List Addr}{Z:Addr->Prop}{H:Hp}:∀ {ds:List D} {vs:List V},eg α Z H ds vs↔aJ (au α Z H) ds vs
 | [],vs=>by
  simp only[eg];exact⟨fun h=>by subst h;exact .nil,fun h=>h.nil_inv⟩
 | d::ds,vs=>by
  simp only[eg];constructor
  ·rintro⟨v,r,rfl,h1,h2⟩
   exact .cons h1 (bp.mp h2)
  ·intro h
   obtain⟨v,r,rfl,h1,h2⟩:=h.cons_inv;exact⟨v,r,rfl,h1,bp.mpr h2⟩
section
variable{α α':List Addr}{Z Z':Addr->Prop}{H H':Hp}
mutual
theorem au.mono(p:∀ (n:Nat) (a:Addr),α[n]?=some a->α'[n]?=some a)(k:∀ a o,Z a->H a=some o->H' a=some o)(z:∀ a,Z a->Z' a):∀ {d:D} {v:V},au α Z H d v->au α' Z' H' d v
 | .non,_,h=>by simpa only [au] using h
 | .bl _,_,h=>by simpa only [au] using h
 | .int _,_,h=>by simpa only [au] using h
 | .str _,_,h=>by simpa only [au] using h
 | .lst ds,v,h=>by
  simp only[au]at h ⊢;obtain⟨a,vs,e,hz,hr,hs⟩:=h;exact⟨a,vs,e,z a hz,nk (fun o=>k a o hz) hr,eg.mono p k z hs⟩
 | .tup ds,v,h=>by
  simp only[au]at h ⊢;obtain⟨a,vs,e,hz,hr,hs⟩:=h;exact⟨a,vs,e,z a hz,k a _ hz hr,eg.mono p k z hs⟩
 | .dct ks ds,v,h=>by simp only[au]at h
 | .ref n,v,h=>by
  simp only[au]at h ⊢;obtain⟨a,e,h⟩:=h;exact⟨a,p n a e,h⟩
theorem eg.mono(p:∀ (n:Nat) (a:Addr),α[n]?=some a->α'[n]?=some a)(k:∀ a o,Z a->H a=some o->H' a=some o)(z:∀ a,Z a->Z' a):∀ {ds:List D} {vs:List V},eg α Z H ds vs->eg α' Z' H' ds vs
 | [],_,h=>by simpa only [eg] using h
 | d::ds,vs,h=>by
  simp only[eg]at h ⊢;obtain⟨v,r,e,h1,h2⟩:=h;exact⟨v,r,e,au.mono p k z h1,eg.mono p k z h2⟩
end
end
def gw{K:Type}(R:D->V->Prop)(kvs:List (K×D))(kvs':List (K×V)):Prop:=aJ (fun p q=>p.1=q.1/\R p.2 q.2) kvs kvs'
variable [aN]
def hX(κ:Str->Addr->Prop)(R:D->V->Prop)(H:Hp)(a:Addr):Cell->Prop
 | .lst ds=>∃ vs,H a=some (.lst vs)/\aJ R ds vs
 | .dK kvs=>∃ kvs',H a=some (.dK kvs')/\gw R kvs kvs'
 | .dT kvs=>∃ kvs',H a=some (.dT kvs')/\gw R kvs kvs'
 | .dF kvs=>∃ o kvs',H a=some (.dD o (.dK kvs'))/\gw R kvs kvs'
 | .ins C fs=>∃ Ca dx fs',κ C Ca/\H a=some (.ins Ca dx fs')/\gw R fs fs'
 | _=>False
theorem gw.imp{K:Type}{R S:D->V->Prop}(h:∀ d v,R d v->S d v){kvs:List (K×D)}{kvs':List (K×V)}(k:gw R kvs kvs'):gw S kvs kvs':=aJ.imp (fun a b q=>⟨q.1,h _ _ q.2⟩) k
theorem hX.imp{κ:Str->Addr->Prop}{R S:D->V->Prop}{H H':Hp}{a:Addr}{c:Cell}(h:∀ d v,R d v->S d v)(e:∀ o,H a=some o->H' a=some o)(z:∀ b o u,H b=some (.dD o u)->H' b=some (.dD o u))(k:hX κ R H a c):hX κ S H' a c:=by
 cases c with
 | lst ds=>obtain⟨vs,h1,h2⟩:=k;exact⟨vs,e _ h1,h2.imp h⟩
 | dK kvs=>obtain⟨vs,h1,h2⟩:=k;exact⟨vs,e _ h1,h2.imp h⟩
 | dT kvs=>obtain⟨vs,h1,h2⟩:=k;exact⟨vs,e _ h1,h2.imp h⟩
 | dF kvs=>obtain⟨o,vs,h1,h2⟩:=k;exact⟨o,vs,e _ h1,h2.imp h⟩
 | ins C fs=>obtain⟨Ca,dx,vs,h0,h1,h2⟩:=k;exact⟨Ca,dx,vs,h0,e _ h1,h2.imp h⟩
 | fn j qR=>exact k.elim
 | tb j p b=>exact k.elim
theorem hX.some{κ:Str->Addr->Prop}{R:D->V->Prop}{H:Hp}{a:Addr}{c:Cell}(k:hX κ R H a c):H a≠none:=by
 cases c with
 | lst ds=>obtain⟨vs,h1,h2⟩:=k;rw[h1];simp
 | dK kvs=>obtain⟨vs,h1,h2⟩:=k;rw[h1];simp
 | dT kvs=>obtain⟨vs,h1,h2⟩:=k;rw[h1];simp
 | dF kvs=>obtain⟨o,vs,h1,h2⟩:=k;rw[h1];simp
 | ins C fs=>obtain⟨Ca,dx,vs,h0,h1,h2⟩:=k;rw[h1];simp
 | fn j qR=>exact k.elim
 | tb j p b=>exact k.elim
structure bH(κ:Str->Addr->Prop)(α:List Addr)(Z:Addr->Prop)(Ω:aG)(H:Hp):Prop where
 sO:α.Nodup
 yi:aJ (fun c a=>hX κ (au α Z H) H a c) Ω α
 sep:∀ a∈α,¬ Z a
 dom:∀ a,Z a->H a≠none
structure cx(α:List Addr)(Z:Addr->Prop)(H:Hp)(α':List Addr)(Z':Addr->Prop)(H':Hp):Prop where
 pre:∀ (n:Nat) (a:Addr),α[n]?=some a->α'[n]?=some a
 sub:∀ a,Z a->Z' a
 new:∀ a,Z' a->Z a\/H a=none
 Du:∀ a∈α',a∈α\/H a=none
 frm:∀ a o,H a=some o->a∉α->H' a=some o
 has:∀ a∈α,H' a≠none
 dD:∀ a o u,H a=some (.dD o u)->H' a=some (.dD o u)
section
variable{κ:Str->Addr->Prop}{α α' Hj:List Addr}{Z Z' Tj:Addr->Prop}{Ω ak:aG}{H H' Tn:Hp}
theorem cx.refl(h:∀ a∈α,H a≠none):cx α Z H α Z H:=⟨fun _ _ e=>e,fun _ h=>h,fun _ h=>.inl h,fun _ h=>.inl h,fun _ _ e _=>e,h,fun _ _ _ e=>e⟩
theorem bH.has(S:bH κ α Z Ω H):∀ a∈α,H a≠none:=fun a ha=>by
 obtain⟨n,hn⟩:=List.mem_iff_getElem?.mp ha;obtain⟨c,_,h⟩:=S.yi.Dt hn;exact h.some
theorem cx.none(g:cx α Z H α' Z' H'){a:Addr}(h:H' a=none):H a=none:=by
 cases q:H a with
 | none=>rfl
 | some o=>
  by_cases ha:a∈α
  ·exact absurd h (g.has a ha)
  ·rw[g.frm a o q ha]at h;cases h
theorem cx.trans(g:cx α Z H α' Z' H')(g':cx α' Z' H' Hj Tj Tn):cx α Z H Hj Tj Tn where
 pre:=fun n a e=>g'.pre n a (g.pre n a e)
 sub:=fun a h=>g'.sub a (g.sub a h)
 new:=fun a h=>by
  rcases g'.new a h with h | h
  ·exact g.new a h
  ·exact .inr (g.none h)
 Du:=fun a h=>by
  rcases g'.Du a h with h | h
  ·exact g.Du a h
  ·exact .inr (g.none h)
 frm:=fun a o e ha=>g'.frm a o (g.frm a o e ha) fun h=>by
  rcases g.Du a h with h | h
  ·exact ha h
  ·rw[e]at h;cases h
 has:=fun a ha=>by
  obtain⟨n,hn⟩:=List.mem_iff_getElem?.mp ha;exact g'.has a (List.mem_of_getElem? (g.pre n a hn))
 dD:=fun a o u e=>g'.dD a o u (g.dD a o u e)
theorem bH.dj(S:bH κ α Z Ω H)(g:cx α Z H α' Z' H'){d:D}{v:V}(h:au α Z H d v):au α' Z' H' d v:=
 h.mono g.pre (fun a o z e=>g.frm a o e fun ha=>S.sep a ha z) g.sub
theorem bH.jB(S:bH κ α Z Ω H)(g:cx α Z H α' Z' H'){ds:List D}{vs:List V}(h:aJ (au α Z H) ds vs):aJ (au α' Z' H') ds vs:=h.imp fun _ _ q=>S.dj g q
theorem bH.cell(S:bH κ α Z Ω H){n:Nat}{c:Cell}(e:Ω[n]?=some c):∃ a,α[n]?=some a/\hX κ (au α Z H) H a c:=S.yi.get e
theorem bH.len(S:bH κ α Z Ω H):α.length=Ω.length:=S.yi.length
theorem bH.sP(S:bH κ α Z Ω H){p:Addr}{o:HO}(h:H p=none)(z:Prop)[Decidable z]:bH κ α (if z then Zp Z p else Z) Ω (upd H p o)/\cx α Z H α (if z then Zp Z p else Z) (upd H p o):=by
 have hne:∀ a∈α,a≠p:=fun a ha e=>S.has a ha (e▸h)
 have Dv:∀ a,Z a->a≠p:=fun a hz e=>S.dom a hz (e▸h)
 have sub:∀ a,Z a->(if z then Zp Z p else Z) a:=fun a ha=>by
  split
  ·exact .inl ha
  ·exact ha
 have g:cx α Z H α (if z then Zp Z p else Z) (upd H p o):=⟨fun _ _ e=>e,sub,fun a ha=>by
   split at ha
   ·rcases ha with ha | rfl
    ·exact .inl ha
    ·exact .inr h
   ·exact .inl ha,fun _ ha=>.inl ha,fun a u e _=>by rw[aF (bb e h)];exact e,fun a ha=>by rw[aF (hne a ha)];exact S.has a ha,fun a o' u e=>by rw[aF (bb e h)];exact e⟩
 refine⟨⟨S.sO,?_,fun a ha hz => ?_,fun a ha => ?_⟩,g⟩
 ·refine S.yi.imp fun c a hc => ?_
  refine hc.imp (fun d v r=>S.dj g r) (fun u e => ?_) fun b o' u' e => ?_
  ·rw[aF (bb e h)];exact e
  ·rw[aF (bb e h)];exact e
 ·split at hz
  ·rcases hz with hz | rfl
   ·exact S.sep a ha hz
   ·exact hne _ ha rfl
  ·exact S.sep a ha hz
 ·split at ha
  ·rcases ha with ha | rfl
   ·rw[aF (Dv a ha)];exact S.dom a ha
   ·rw[aS];simp
  ·rw[aF (Dv a ha)];exact S.dom a ha
theorem bH.laid(S:bH κ α Z Ω H){p:Addr}{o:HO}{c:Cell}(h:H p=none)(hc:∀ R:D->V->Prop,(∀ d v,au α Z H d v->R d v)->hX κ R (upd H p o) p c):bH κ (α++[p]) Z (Ω++[c]) (upd H p o)/\cx α Z H (α++[p]) Z (upd H p o):=by
 have hne:∀ a∈α,a≠p:=fun a ha e=>S.has a ha (e▸h)
 have Dv:∀ a,Z a->a≠p:=fun a hz e=>S.dom a hz (e▸h)
 have g:cx α Z H (α++[p]) Z (upd H p o):=⟨fun n a e=>by rw[List.getElem?_append_left (List.getElem?_eq_some_iff.mp e).1];exact e,fun _ h=>h,fun _ h=>.inl h,fun a ha=>by
   rcases List.mem_append.mp ha with ha | ha
   ·exact .inl ha
   ·rw[List.mem_singleton.mp ha];exact .inr h,fun a u e _=>by rw[aF (bb e h)];exact e,fun a ha=>by rw[aF (hne a ha)];exact S.has a ha,fun a o' u e=>by rw[aF (bb e h)];exact e⟩
 refine⟨⟨?_,?_,fun a ha hz => ?_,fun a ha=>by rw[aF (Dv a ha)];exact S.dom a ha⟩,g⟩
 ·refine List.nodup_append.mpr ⟨S.sO,by simp,fun a ha b hb => ?_⟩
  rw[List.mem_singleton.mp hb];exact hne a ha
 ·refine aJ.append (S.yi.imp fun c a hc => ?_) (.one (hc _ fun d v r=>S.dj g r))
  refine hc.imp (fun d v r=>S.dj g r) (fun u e => ?_) fun b o' u' e => ?_
  ·rw[aF (bb e h)];exact e
  ·rw[aF (bb e h)];exact e
 ·rcases List.mem_append.mp ha with ha | ha
  ·exact S.sep a ha hz
  ·rw[List.mem_singleton.mp ha]at hz;exact Dv _ hz rfl
theorem bH.put(S:bH κ α Z Ω H){n:Nat}{p:Addr}{o:HO}{c:Cell}(hn:α[n]?=some p)(hm:∀ o u,H p≠some (.dD o u))(hc:∀ R:D->V->Prop,(∀ d v,au α Z H d v->R d v)->hX κ R (upd H p o) p c):bH κ α Z (Ω.set n c) (upd H p o)/\cx α Z H α Z (upd H p o):=by
 have hpm:p∈α:=List.mem_of_getElem? hn
 have g:cx α Z H α Z (upd H p o):=⟨fun n a e=>e,fun _ h=>h,fun _ h=>.inl h,fun a ha=>.inl ha,fun a u e ha=>by rw[aF (fun (q:a=p)=>ha (by rw[q];exact hpm))];exact e,fun a ha=>by
   by_cases q:a=p
   ·subst q;rw[aS];simp
   ·rw[aF q];exact S.has a ha,fun a o' u e=>by rw[aF (fun q=>hm o' u (by rw[← q];exact e))];exact e⟩
 refine⟨⟨S.sO,?_,S.sep,fun a ha => ?_⟩,g⟩
 ·have key:∀ {cs:List Cell} {as:List Addr} {n:Nat},as.Nodup->aJ (fun c a=>hX κ (au α Z H) H a c) cs as->as[n]?=some p->aJ (fun c a=>hX κ (au α Z (upd H p o)) (upd H p o) a c) (cs.set n c) as:=by
   intro cs as n hnd hA
   induction hA generalizing n with
   | nil=>intro e;simp at e
   | @cons c' a' cs as r t ih=>
    intro e;have hnd':=List.nodup_cons.mp hnd;cases n with
    | zero=>
     simp at e;subst e;refine .cons (hc _ fun d v r=>S.dj g r) (aJ.imp (fun _ _ q=>q) ?_)
     have:∀ {cs:List Cell} {as:List Addr},a'∉as->aJ (fun c a=>hX κ (au α Z H) H a c) cs as->aJ (fun c a=>hX κ (au α Z (upd H a' o)) (upd H a' o) a c) cs as:=by
      intro cs as hna hA
      induction hA with
      | nil=>exact .nil
      | @cons c1 a1 cs as r t ih=>
       refine .cons (r.imp (fun d v q=>S.dj g q) (fun u e => ?_) fun b o' u' e => ?_) (ih fun q=>hna (List.mem_cons_of_mem _ q))
       ·rw[aF (fun q=>hna (by rw[q];simp))];exact e
       ·rw[aF (fun q=>hm o' u' (by rw[← q];exact e))];exact e
     exact this hnd'.1 t
    | succ n=>
     have e':as[n]?=some p:=by simpa using e
     refine .cons (r.imp (fun d v q=>S.dj g q) (fun u eu => ?_) fun b o' u' eb => ?_) (ih hnd'.2 e')
     ·rw[aF (fun q=>hnd'.1 (by rw[q];exact List.mem_of_getElem? e'))];exact eu
     ·rw[aF (fun q=>hm o' u' (by rw[← q];exact eb))];exact eb
  exact key S.sO S.yi hn
 ·by_cases q:a=p
  ·subst q;rw[aS];simp
  ·rw[aF q];exact S.dom a ha
end
end Mir
namespace Mir
open PySem PySem.Spec PyProof.Rows L2
variable [aN]
abbrev gR:=D->aG->List Addr->(Addr->Prop)->Hp->Prop
def bQ(κ:Str->Addr->Prop)(Φ:gR)(α:List Addr)(Z:Addr->Prop)(H:Hp)(r:ay D)(Q:VK):Prop:=match r with
 | .ok d ak=>∀ v H' α' Z',cx α Z H α' Z' H'->bH κ α' Z' ak H'->au α' Z' H' d v->Q v H'
 | .exc x ak=>∀ H' α' Z',cx α Z H α' Z' H'->bH κ α' Z' ak H'->Φ x ak α' Z' H'
 | .bad=>False
structure cP(κ:Str->Addr->Prop)(aE:List Addr)(Z0:Addr->Prop)(H0:Hp)(α:List Addr)(Z:Addr->Prop)(Ω:aG)(ρ:aU)(σ:L2.St)(H:Hp):Prop where
 st:bH κ α Z Ω H
 gr:cx aE Z0 H0 α Z H
 len:σ.length=ρ.length
 val:∀ (i:Nat) (d:D),ρ[i]?=some (some d)->∃ v,σ[i]?=some (some v)/\au α Z H d v
abbrev EM:=aU->aG->ay D
noncomputable def tO(κ:Str->Addr->Prop)(Φ:gR)(aE:List Addr)(Z0:Addr->Prop)(H0:Hp)(m:EM)(ρ:aU)(Ω:aG):TE:=fun σ H Q=>
 ∃ α Z,cP κ aE Z0 H0 α Z Ω ρ σ H/\bQ κ Φ α Z H (m ρ Ω) Q
def bu(X:Cx)(κ:Str->Addr->Prop)(Φ:gR)(e:Expr)(m:EM):Prop:=∀ aE Z0 H0 ρ Ω,PE X e (tO κ Φ aE Z0 H0 m ρ Ω)
section
variable{κ:Str->Addr->Prop}{Φ:gR}{α α' aE α1:List Addr}{Z Z' Z0 Z1:Addr->Prop}{Ω ak:aG}{H H' H0 H1:Hp}{ρ:aU}{σ:L2.St}{Q Q':VK}{r:ay D}
theorem bQ.from(g:cx α Z H α1 Z1 H1)(h:bQ κ Φ α Z H r Q):bQ κ Φ α1 Z1 H1 r Q:=by
 cases r with
 | ok d ak=>exact fun v H' α' Z' g'=>h v H' α' Z' (g.trans g')
 | exc x ak=>exact fun H' α' Z' g'=>h H' α' Z' (g.trans g')
 | bad=>exact h
theorem bQ.use{f:D->aG->ay D}(h:bQ κ Φ α Z H (r.bind f) Q)(k:∀ d ab,r=.ok d ab->∀ v H1 α1 Z1,cx α Z H α1 Z1 H1->bH κ α1 Z1 ab H1->au α1 Z1 H1 d v->bQ κ Φ α1 Z1 H1 (f d ab) Q->Q' v H1):bQ κ Φ α Z H r Q':=by
 cases r with
 | ok d ab=>exact fun v H1 α1 Z1 g s q=>k d ab rfl v H1 α1 Z1 g s q (bQ.from g h)
 | exc x ab=>exact h
 | bad=>exact h
theorem bQ.ret{d:D}{v:V}(S:bH κ α Z Ω H)(q:au α Z H d v)(h:bQ κ Φ α Z H (.ok d Ω) Q):Q v H:=h v H α Z (cx.refl S.has) S q
theorem cP.grow(S:cP κ aE Z0 H0 α Z Ω ρ σ H)(g:cx α Z H α' Z' H')(s:bH κ α' Z' ak H'):cP κ aE Z0 H0 α' Z' ak ρ σ H':=
 ⟨s,S.gr.trans g,S.len,fun i d e=>let ⟨v,h1,h2⟩:=S.val i d e;⟨v,h1,S.st.dj g h2⟩⟩
theorem aW{d:D}{v:V}(h:fy d=some v):au α Z H d v:=by
 cases d<;>simp only[fy]at h<;>first | cases h;simp only[au] | cases h
theorem sQ{d:D}(h:fb d=true):∃ v,fy d=some v:=by
 cases d<;>first | exact⟨_,rfl⟩ | cases h
theorem dJ{d:D}{v w:V}(h:fy d=some w)(r:Rep Z H d v):v=w:=by
 cases d<;>simp only[fy]at h<;>first | (cases h;simpa only [Rep] using r) | cases h
noncomputable def bB{α β:Type}(f:α->Option β):List α->Option (List β)
 | []=>some []
 | x::xs=>match f x,bB f xs with
  | some y,some ys=>some (y::ys)
  | _,_=>none
def eX(Ω:aG):Nat->D->Option D
 | _,.non=>some .non
 | _,.bl b=>some (.bl b)
 | _,.int i=>some (.int i)
 | _,.str x=>some (.str x)
 | 0,_=>none
 | n + 1,.lst ds=>(bB (eX Ω n) ds).map .lst
 | n + 1,.tup ds=>(bB (eX Ω n) ds).map .tup
 | n + 1,.ref k=>match Ω[k]? with
  | some (.lst ds)=>(bB (eX Ω n) ds).map .lst
  | _=>none
 | _ + 1,.dct _ _=>none
def sR(α:List Addr)(Z:Addr->Prop):Addr->Prop:=fun a=>Z a\/a∈α
theorem eN{f:D->Option D}{R:D->V->Prop}{S:D->V->Prop}(hf:∀ d d' v,f d=some d'->R d v->S d' v):∀ {ds es:List D} {vs:List V},bB f ds=some es->aJ R ds vs->aJ S es vs
 | [],es,vs,h,r=>by cases h;rw[r.nil_inv];exact .nil
 | d::ds,es,vs,h,r=>by
  simp only[bB]at h;split at h
  ·rename_i y ys h1 h2
   cases h;obtain⟨v,vs',rfl,r1,r2⟩:=r.cons_inv;exact .cons (hf d y v h1 r1) (eN hf h2 r2)
  ·cases h
theorem gx:∀ {ds:List D} {vs:List V},aJ (Rep Z H) ds vs->aT Z H ds vs
 | _,_,.nil=>.nil
 | _,_,.cons r t=>.cons r (gx t)
theorem jU(S:bH κ α Z Ω H):∀ (n:Nat) {d d':D} {v:V},eX Ω n d=some d'->au α Z H d v->Rep (sR α Z) H d' v:=by
 intro n
 induction n with
 | zero=>
  intro d d' v h r;cases d<;>simp only[eX]at h<;>first | (cases h;simpa only [Rep,au] using r) | cases h
 | succ n ih=>
  intro d d' v h r;cases d with
  | lst ds=>
   simp only[eX]at h;obtain⟨es,h1,rfl⟩:=Option.map_eq_some_iff.mp h;simp only[au]at r;obtain⟨a,vs,rfl,hz,hr,hs⟩:=r;simp only[Rep];exact⟨a,vs,rfl,.inl hz,hr,gx (eN (S:=Rep (sR α Z) H) (fun d d' v q r=>ih q r) h1 (bp.mp hs))⟩
  | tup ds=>
   simp only[eX]at h;obtain⟨es,h1,rfl⟩:=Option.map_eq_some_iff.mp h;simp only[au]at r;obtain⟨a,vs,rfl,hz,hr,hs⟩:=r;simp only[Rep];exact⟨a,vs,rfl,.inl hz,.inl hr,gx (eN (S:=Rep (sR α Z) H) (fun d d' v q r=>ih q r) h1 (bp.mp hs))⟩
  | ref k=>
   simp only[eX]at h;split at h
   ·rename_i ds hk
    obtain⟨es,h1,rfl⟩:=Option.map_eq_some_iff.mp h;obtain⟨a,ha,vs,hv,hs⟩:=S.cell hk;simp only[au]at r;obtain⟨a',ha',rfl⟩:=r;rw[ha]at ha';cases ha';simp only[Rep];exact⟨a,vs,rfl,.inr (List.mem_of_getElem? ha),.inl hv,gx (eN (S:=Rep (sR α Z) H) (fun d d' v q r=>ih q r) h1 hs)⟩
   ·cases h
  | dct _ _=>cases h
  | _=>simp only[eX]at h;cases h;simpa only [Rep,au] using r
theorem dM(S:bH κ α Z Ω H):∀ a,sR α Z a->H a≠none:=fun a h=>h.elim (S.dom a) (S.has a)
theorem bH.same(S:bH κ α Z Ω H)(h:iK H H'):bH κ α Z Ω H'/\cx α Z H α Z H':=by
 have g:cx α Z H α Z H':=⟨fun _ _ e=>e,fun _ z=>z,fun _ z=>.inl z,fun _ z=>.inl z,fun a o e _=>h a o e,fun a ha=>by
  cases q:H a with
  | none=>exact absurd q (S.has a ha)
  | some o=>rw[h a o q];simp,fun a o u e=>h a _ e⟩
 refine⟨⟨S.sO,S.yi.imp fun c a hc=>hc.imp (fun d v r=>S.dj g r) (fun o e=>h a o e) fun b o u e=>h b _ e,S.sep,fun a z => ?_⟩,g⟩
 cases q:H a with
 | none=>exact absurd q (S.dom a z)
 | some o=>rw[h a o q];simp
theorem bH.adopt(S:bH κ α Z Ω H)(h:iK H H'){p:Addr}(hp:H p=none){c:Cell}(hc:∀ R:D->V->Prop,(∀ d v,au α Z H' d v->R d v)->hX κ R H' p c):bH κ (α++[p]) Z (Ω++[c]) H'/\cx α Z H (α++[p]) Z H':=by
 obtain⟨S1,g1⟩:=S.same h;have hne:∀ a∈α,a≠p:=fun a ha e=>S.has a ha (e▸hp)
 have Dv:∀ a,Z a->a≠p:=fun a hz e=>S.dom a hz (e▸hp)
 have pre:∀ (n:Nat) (a:Addr),α[n]?=some a->(α++[p])[n]?=some a:=fun n a e=>by rw[List.getElem?_append_left (List.getElem?_eq_some_iff.mp e).1];exact e
 have mono:∀ d v,au α Z H' d v->au (α++[p]) Z H' d v:=fun d v r=>r.mono pre (fun _ _ _ e=>e) fun _ z=>z
 refine⟨⟨?_,?_,fun a ha hz => ?_,S1.dom⟩,⟨pre,fun _ z=>z,fun _ z=>.inl z,fun a ha => ?_,g1.frm,g1.has,g1.dD⟩⟩
 ·refine List.nodup_append.mpr ⟨S.sO,by simp,fun a ha b hb => ?_⟩
  rw[List.mem_singleton.mp hb];exact hne a ha
 ·exact aJ.append (S1.yi.imp fun c a hc=>hc.imp mono (fun _ e=>e) fun _ _ _ e=>e) (.one (hc _ mono))
 ·rcases List.mem_append.mp ha with ha | ha
  ·exact S.sep a ha hz
  ·rw[List.mem_singleton.mp ha]at hz;exact Dv _ hz rfl
 ·rcases List.mem_append.mp ha with ha | ha
  ·exact .inl ha
  ·rw[List.mem_singleton.mp ha];exact .inr hp
noncomputable def hZ(Ω:aG)(c:Cell):ay D:=.ok (.ref Ω.length) (Ω++[c])
def fP(Ω:aG):Out Rs->ay D
 | .ok (own,d)=>if fb d then .ok d Ω else match own,d with
  | true,.lst ds=>if ds.all fb then hZ Ω (.lst ds) else .bad
  | _,_=>.bad
 | _=>.bad
theorem eO(S:bH κ α Z Ω H)(p:Addr):au (α++[p]) Z H' (.ref Ω.length) (.ref p):=by
 simp only[au];exact⟨p,by rw[← S.len];simp,rfl⟩
theorem mB:∀ {ds:List D} {vs:List V},ds.all fb=true->aT Z1 H1 ds vs->aJ (au α Z H) ds vs
 | [],vs,_,r=>by rw[r.nil_inv];exact .nil
 | d::ds,vs,h,r=>by
  obtain⟨v,vs',rfl,r1,r2⟩:=r.cons_inv;simp only[List.all_cons,Bool.and_eq_true]at h;obtain⟨w,hw⟩:=sQ h.1;obtain rfl:=dJ hw r1;exact .cons (aW hw) (mB h.2 r2)
theorem iN{bw:Bool}{r:Out Rs}(S:bH κ α Z Ω H)(h:bQ κ Φ α Z H (fP Ω r) Q):∃ own d,r=.ok (own,d)/\∀ v H' Z1 Z',eJ Z1 H Z' H'->d_ bw own Z' H H' d v->Q v H':=by
 cases r with
 | ok q=>
  obtain⟨own,d⟩:=q;refine⟨own,d,rfl,fun v H' Z1 Z' g q => ?_⟩
  simp only[fP]at h;split at h
  ·rename_i hf
   obtain⟨w,hw⟩:=sQ hf
   have hv:v=w:=by
    have n:=q.nw;cases d with
    | non=>exact dJ (Z:=Z') (H:=H') hw n
    | bl _=>exact dJ (Z:=Z') (H:=H') hw n
    | int _=>exact dJ (Z:=Z') (H:=H') hw n
    | str _=>exact dJ (Z:=Z') (H:=H') hw n
    | _=>cases hf
   subst hv;obtain⟨S1,g1⟩:=S.same g.same;exact h v H' α Z g1 S1 (aW hw)
  ·split at h
   ·rename_i ds hnf
    split at h
    ·rename_i hf2
     unfold d_ at q;rw[if_pos rfl]at q;obtain⟨a,vs,ds',e1,rfl,h1,h2,h3,h4⟩:=q;cases e1;obtain⟨S1,g1⟩:=S.adopt (c:=.lst ds) g.same h1 (fun R hR=>⟨vs,h3,(mB hf2 h4).imp hR⟩)
     exact h _ H' _ Z g1 S1 (eO S a)
    ·exact h.elim
   ·exact h.elim
 | exc c fs=>exact h.elim
 | bad=>exact h.elim
end
def m1(f:D->aG->ay D)(ma:EM):EM:=fun ρ Ω=>(ma ρ Ω).bind f
def m2(f:D->D->aG->ay D)(ma mb:EM):EM:=fun ρ Ω=>(ma ρ Ω).bind fun x ab=>(mb ρ ab).bind fun y ao=>f x y ao
noncomputable def gS(a b:ay D):ay D:=match a with
 | .bad=>b
 | r=>r
def zd(f g:D->aG->ay D):D->aG->ay D:=fun x Ω=>gS (f x Ω) (g x Ω)
def fE(f g:D->D->aG->ay D):D->D->aG->ay D:=fun x y Ω=>gS (f x y Ω) (g x y Ω)
def kK(f g:EM):EM:=fun ρ Ω=>gS (f ρ Ω) (g ρ Ω)
def uB(f:D->Out Rs):D->aG->ay D:=fun x Ω=>match eX Ω 8 x with
 | some dx=>fP Ω (f dx)
 | none=>.bad
def fQ(f:D->D->Out Rs):D->D->aG->ay D:=fun x y Ω=>match eX Ω 8 x,eX Ω 8 y with
 | some dx,some dy=>fP Ω (f dx dy)
 | _,_=>.bad
def gg(Ω:aG):D->Option Bool
 | .ref k=>match Ω[k]? with
  | some (.lst ds)=>some (!ds.isEmpty)
  | some (.dK kvs)=>some (!kvs.isEmpty)
  | _=>none
 | d=>jJ d
def cQ:ay D->ay Bool
 | .ok d Ω=>match gg Ω d with
  | some b=>.ok b Ω
  | none=>.bad
 | .exc x Ω=>.exc x Ω
 | .bad=>.bad
def oi(κ:Str->Addr->Prop)(Φ:gR)(α:List Addr)(Z:Addr->Prop)(H:Hp)(r:ay Bool)(Q:Bool->Hp->Prop):Prop:=match r with
 | .ok b ak=>∀ H' α' Z',cx α Z H α' Z' H'->bH κ α' Z' ak H'->Q b H'
 | .exc x ak=>∀ H' α' Z',cx α Z H α' Z' H'->bH κ α' Z' ak H'->Φ x ak α' Z' H'
 | .bad=>False
def Ot(κ:Str->Addr->Prop)(Φ:gR)(aE:List Addr)(Z0:Addr->Prop)(H0:Hp)(m:EM)(ρ:aU)(Ω:aG):TT:=fun σ H Q=>∃ α Z,cP κ aE Z0 H0 α Z Ω ρ σ H/\oi κ Φ α Z H (cQ (m ρ Ω)) Q
def gy(X:Cx)(κ:Str->Addr->Prop)(Φ:gR)(e:Expr)(m:EM):Prop:=∀ aE Z0 H0 ρ Ω,PT X e (Ot κ Φ aE Z0 H0 m ρ Ω)
abbrev AM:=aU->aG->ay (List D)
def pj(κ:Str->Addr->Prop)(Φ:gR)(α:List Addr)(Z:Addr->Prop)(H:Hp)(r:ay (List D))(Q:List V->Hp->Prop):Prop:=match r with
 | .ok ds ak=>∀ vs H' α' Z',cx α Z H α' Z' H'->bH κ α' Z' ak H'->aJ (au α' Z' H') ds vs->Q vs H'
 | .exc x ak=>∀ H' α' Z',cx α Z H α' Z' H'->bH κ α' Z' ak H'->Φ x ak α' Z' H'
 | .bad=>False
noncomputable def Wm(κ:Str->Addr->Prop)(Φ:gR)(aE:List Addr)(Z0:Addr->Prop)(H0:Hp)(m:AM)(ρ:aU)(Ω:aG):TA:=fun σ H Q=>∃ α Z,cP κ aE Z0 H0 α Z Ω ρ σ H/\pj κ Φ α Z H (m ρ Ω) Q
def qf(X:Cx)(κ:Str->Addr->Prop)(Φ:gR)(es:List Expr)(m:AM):Prop:=∀ aE Z0 H0 ρ Ω,PA X es (Wm κ Φ aE Z0 H0 m ρ Ω)
noncomputable def af:AM:=fun _ Ω=>.ok [] Ω
def aa(a:EM)(as:AM):AM:=fun ρ Ω=>(a ρ Ω).bind fun x ab=>(as ρ ab).bind fun xs ao=>.ok (x::xs) ao
def mN(f:List D->aG->ay D)(as:AM):EM:=fun ρ Ω=>(as ρ Ω).bind f
section
variable{X:Cx}{κ:Str->Addr->Prop}{Φ:gR}{α α' aE α1:List Addr}{Z Z' Z0 Z1:Addr->Prop}{Ω ak:aG}{H H' H0 H1:Hp}{ρ:aU}{σ:L2.St}{Q Q':VK}{r:ay D}{a b e:Expr}{es:List Expr}{ma mb mc m:EM}{as:AM}{pos:Pos}
theorem pj.from{r:ay (List D)}{Q:List V->Hp->Prop}(g:cx α Z H α1 Z1 H1)(h:pj κ Φ α Z H r Q):pj κ Φ α1 Z1 H1 r Q:=by
 cases r with
 | ok d ak=>exact fun v H' α' Z' g'=>h v H' α' Z' (g.trans g')
 | exc x ak=>exact fun H' α' Z' g'=>h H' α' Z' (g.trans g')
 | bad=>exact h
theorem oi.from{r:ay Bool}{Q:Bool->Hp->Prop}(g:cx α Z H α1 Z1 H1)(h:oi κ Φ α Z H r Q):oi κ Φ α1 Z1 H1 r Q:=by
 cases r with
 | ok d ak=>exact fun H' α' Z' g'=>h H' α' Z' (g.trans g')
 | exc x ak=>exact fun H' α' Z' g'=>h H' α' Z' (g.trans g')
 | bad=>exact h
theorem pj.use{r:ay (List D)}{f:List D->aG->ay D}{Q':List V->Hp->Prop}(h:bQ κ Φ α Z H (r.bind f) Q)(k:∀ ds ab,r=.ok ds ab->∀ vs H1 α1 Z1,cx α Z H α1 Z1 H1->bH κ α1 Z1 ab H1->aJ (au α1 Z1 H1) ds vs->bQ κ Φ α1 Z1 H1 (f ds ab) Q->Q' vs H1):pj κ Φ α Z H r Q':=by
 cases r with
 | ok d ab=>exact fun v H1 α1 Z1 g s q=>k d ab rfl v H1 α1 Z1 g s q (bQ.from g h)
 | exc x ab=>exact h
 | bad=>exact h
theorem PE.or{t u:TE}(h:PE X e t)(h':PE X e u):PE X e (fun σ H Q=>t σ H Q\/u σ H Q):=fun pins s σ H Q I q=>q.elim (h pins s σ H Q I) (h' pins s σ H Q I)
theorem PT.or{t u:TT}(h:PT X e t)(h':PT X e u):PT X e (fun σ H Q=>t σ H Q\/u σ H Q):=fun pins s σ H Q I q=>q.elim (h pins s σ H Q I) (h' pins s σ H Q I)
theorem mD{a b:ay D}:gS a b=a\/(a=.bad/\gS a b=b):=by cases a<;>simp[gS]
theorem bu.alt(h:bu X κ Φ e ma)(h':bu X κ Φ e mb):bu X κ Φ e (kK ma mb):=by
 intro aE Z0 H0 ρ Ω;refine PE.imp (PE.or (h aE Z0 H0 ρ Ω) (h' aE Z0 H0 ρ Ω)) ?_;rintro σ H Q ⟨α,Z,S,g⟩;rcases mD (a:=ma ρ Ω) (b:=mb ρ Ω) with q | ⟨_,q⟩
 ·exact .inl ⟨α,Z,S,by rw[← q];exact g⟩
 ·exact .inr ⟨α,Z,S,by rw[← q];exact g⟩
theorem gy.alt(h:gy X κ Φ e ma)(h':gy X κ Φ e mb):gy X κ Φ e (kK ma mb):=by
 intro aE Z0 H0 ρ Ω;refine PT.imp (PT.or (h aE Z0 H0 ρ Ω) (h' aE Z0 H0 ρ Ω)) ?_;rintro σ H Q ⟨α,Z,S,g⟩;rcases mD (a:=ma ρ Ω) (b:=mb ρ Ω) with q | ⟨_,q⟩
 ·exact .inl ⟨α,Z,S,by rw[← q];exact g⟩
 ·exact .inr ⟨α,Z,S,by rw[← q];exact g⟩
theorem gz{f g:D->D->aG->ay D}:m2 (fE f g) ma mb=kK (m2 f ma mb) (m2 g ma mb):=by
 funext ρ Ω
 simp only[m2,kK];cases ma ρ Ω with
 | ok x ab=>
  simp only[ay.bind];cases mb ρ ab with
  | ok y ao=>rfl
  | exc x Ω=>rfl
  | bad=>rfl
 | exc x Ω=>rfl
 | bad=>rfl
theorem Dw{f g:D->aG->ay D}:m1 (zd f g) ma=kK (m1 f ma) (m1 g ma):=by
 funext ρ Ω
 simp only[m1,kK];cases ma ρ Ω with
 | ok x ab=>rfl
 | exc x Ω=>rfl
 | bad=>rfl
theorem jV{f:D->aG->ay D}{r:V->Hp->VK->Prop}(h:∀ ta,PE X a ta->PE X e fun σ H Q=>ta σ H fun x H1=>r x H1 Q)(ha:bu X κ Φ a ma)
  (hr:∀ dx x α Z Ω H Q,bH κ α Z Ω H->au α Z H dx x->bQ κ Φ α Z H (f dx Ω) Q->r x H Q):bu X κ Φ e (m1 f ma):=by
 intro aE Z0 H0 ρ Ω;refine PE.imp (h _ (ha aE Z0 H0 ρ Ω)) ?_;rintro σ H Q ⟨α,Z,S,g⟩;refine⟨α,Z,S,g.use fun d ab _ v H1 α1 Z1 g1 s1 r1 k1 => ?_⟩
 exact hr d v α1 Z1 ab H1 Q s1 r1 k1
theorem dN{f:D->D->aG->ay D}{r:R2}(h:∀ ta tb,PE X a ta->PE X b tb->PE X e (FW r ta tb))(ha:bu X κ Φ a ma)(hb:bu X κ Φ b mb)
  (hr:∀ dx dy x y α Z Ω H Q,bH κ α Z Ω H->au α Z H dx x->au α Z H dy y->bQ κ Φ α Z H (f dx dy Ω) Q->r x y H Q):bu X κ Φ e (m2 f ma mb):=by
 intro aE Z0 H0 ρ Ω;rcases q:ma ρ Ω with ⟨d,ab⟩ | ⟨x,ab⟩ | _
 ·refine PE.imp (h _ _ (ha aE Z0 H0 ρ Ω) (hb aE Z0 H0 ρ ab)) ?_
  rintro σ H Q ⟨α,Z,S,g⟩;refine⟨α,Z,S,bQ.use g fun d' Wn e1 v H1 α1 Z1 g1 s1 r1 k1 => ?_⟩
  rw[q]at e1;cases e1;refine⟨α1,Z1,S.grow g1 s1,k1.use fun d2 ao _ w H2 α2 Z2 g2 s2 r2 k2 => ?_⟩
  exact hr d d2 v w α2 Z2 ao H2 Q s2 (s1.dj g2 r1) r2 k2
 ·refine PE.imp (h _ _ (ha aE Z0 H0 ρ Ω) (hb aE Z0 H0 ρ Ω)) ?_
  rintro σ H Q ⟨α,Z,S,g⟩;refine⟨α,Z,S,?_⟩;simp only[m2,q,ay.bind]at g ⊢;exact g
 ·refine PE.imp (h _ _ (ha aE Z0 H0 ρ Ω) (hb aE Z0 H0 ρ Ω)) ?_
  rintro σ H Q ⟨α,Z,S,g⟩;simp only[m2,q,ay.bind]at g;exact g.elim
theorem pk{bw:Bool}{f:D->Out Rs}{dx:D}{x:V}(S:bH κ α Z Ω H)(hx:au α Z H dx x)(h:bQ κ Φ α Z H (uB f dx Ω) Q) :
  ∃ d own d',Now (sR α Z) H d x/\f d=.ok (own,d')/\∀ v H' Z',eJ (sR α Z) H Z' H'->d_ bw own Z' H H' d' v->Q v H':=by
 unfold uB at h;split at h
 ·rename_i d hd
  obtain⟨own,d',e,k⟩:=iN (bw:=bw) S h;exact⟨d,own,d',(jU S 8 hd hx).now,e,fun v H' Z' g q=>k v H' _ Z' g q⟩
 ·exact h.elim
theorem gC{bw:Bool}{f:D->D->Out Rs}{dx dy:D}{x y:V}(S:bH κ α Z Ω H)(hx:au α Z H dx x)(hy:au α Z H dy y)(h:bQ κ Φ α Z H (fQ f dx dy Ω) Q) :
  ∃ d e own d',Now (sR α Z) H d x/\Now (sR α Z) H e y/\f d e=.ok (own,d')/\∀ v H' Z',eJ (sR α Z) H Z' H'->d_ bw own Z' H H' d' v->Q v H':=by
 unfold fQ at h;split at h
 ·rename_i d e hd he
  obtain⟨own,d',e1,k⟩:=iN (bw:=bw) S h;exact⟨d,e,own,d',(jU S 8 hd hx).now,(jU S 8 he hy).now,e1,fun v H' Z' g q=>k v H' _ Z' g q⟩
 ·exact h.elim
theorem ze{i:Nat}{x:Str}(hN:X.N[i]?=some x)(hv:FT X.env.scope x)(hd:(x == ("__debug__":Str))=false)(hcd:(x == ("__classdict__":Str))=false):bu X κ Φ (.Name x pos) (fun ρ Ω=>match ρ[i]? with | some (some d)=>.ok d Ω | _=>.bad):=by
 intro aE Z0 H0 ρ Ω;refine PE.imp (CC hN hv hd hcd) ?_;rintro σ H Q ⟨α,Z,S,g⟩;dsimp only at g;split at g
 ·rename_i d hd
  obtain⟨v,h1,h2⟩:=S.val i d hd;exact⟨v,h1,bQ.ret S.st h2 g⟩
 ·exact g.elim
theorem iO{d:D}{v:V}(h:PE X e (tC v))(hf:fy d=some v):bu X κ Φ e (fun _ Ω=>.ok d Ω):=by
 intro aE Z0 H0 ρ Ω;refine PE.imp h ?_;rintro σ H Q ⟨α,Z,S,g⟩;exact bQ.ret S.st (aW hf) g
noncomputable def dE(Ω:aG):D->Option (List D)
 | .ref k=>match Ω[k]? with
  | some (.lst ds)=>some ds
  | _=>none
 | .lst ds=>some ds
 | _=>none
theorem bP{x:D}{v:V}{ds:List D}(S:bH κ α Z Ω H)(r:au α Z H x v)(h:dE Ω x=some ds):∃ a vs,v=.ref a/\Rd H a (.lst vs)/\aJ (au α Z H) ds vs:=by
 cases x with
 | ref k=>
  simp only[dE]at h;split at h
  ·rename_i ds' hk
   cases h;simp only[au]at r;obtain⟨a,ha,rfl⟩:=r;obtain⟨a',ha',vs,h1,h2⟩:=S.cell hk;rw[ha]at ha';cases ha';exact⟨a,vs,rfl,.inl h1,h2⟩
  ·cases h
 | lst es=>
  cases h;simp only[au]at r;obtain⟨a,vs,rfl,_,h1,h2⟩:=r;exact⟨a,vs,rfl,h1,bp.mp h2⟩
 | _=>cases h
theorem eD{x:V}{ds:List D}(r:au α Z H (.tup ds) x):∃ a vs,x=.ref a/\Z a/\H a=some (.tup vs)/\aJ (au α Z H) ds vs:=by
 simp only[au]at r;obtain⟨a,vs,e,h0,h1,h2⟩:=r;exact⟨a,vs,e,h0,h1,bp.mp h2⟩
theorem gD{ds:List D}{vs:List V}(S:bH κ α Z Ω H)(r:aJ (au α Z H) ds vs)(k:bQ κ Φ α Z H (hZ Ω (.lst ds)) Q):∀ p,H p=none->Q (.ref p) (upd H p (.lst vs)):=fun p hp=>by
 obtain⟨S1,g1⟩:=S.laid (p:=p) (o:=.lst vs) (c:=.lst ds) hp fun R hR=>⟨vs,aS,r.imp hR⟩
 exact k _ _ _ Z g1 S1 (eO S p)
theorem iP{ds:List D}{vs:List V}(S:bH κ α Z Ω H)(r:aJ (au α Z H) ds vs)(k:bQ κ Φ α Z H (.ok (.tup ds) Ω) Q):∀ p,H p=none->Q (.ref p) (upd H p (.tup vs)):=fun p hp=>by
 obtain⟨S1,g1⟩:=S.sP (p:=p) (o:=.tup vs) hp True;simp only[if_true]at S1 g1;refine k _ _ _ _ g1 S1 ?_;simp only[au];exact⟨p,vs,rfl,.inr rfl,aS,bp.mpr (S.jB g1 r)⟩
theorem zf:qf X κ Φ [] af:=by
 intro aE Z0 H0 ρ Ω;refine PA.imp mY ?_;rintro σ H Q ⟨α,Z,S,g⟩;exact g [] H α Z (cx.refl S.st.has) S.st .nil
theorem wG(ha:bu X κ Φ e ma)(hr:qf X κ Φ es as)(hs:starEach (e::es) X.env=(false,eval e X.env)::starEach es X.env):qf X κ Φ (e::es) (aa ma as):=by
 intro aE Z0 H0 ρ Ω;rcases q:ma ρ Ω with ⟨d,ab⟩ | ⟨x,ab⟩ | _
 ·refine PA.imp (e_ (ha aE Z0 H0 ρ Ω) (hr aE Z0 H0 ρ ab) hs) ?_
  rintro σ H Q ⟨α,Z,S,g⟩;refine⟨α,Z,S,?_⟩;simp only[aa,q,ay.bind]at g ⊢;intro v H1 α1 Z1 g1 s1 r1;refine⟨α1,Z1,S.grow g1 s1,?_⟩;have g:=pj.from g1 g
  rcases q2:as ρ ab with ⟨ds,ao⟩ | ⟨x,ao⟩ | _
  ·rw[q2]at g
   intro vs H2 α2 Z2 g2 s2 r2;exact g _ _ _ _ g2 s2 (.cons (s1.dj g2 r1) r2)
  ·rw[q2]at g;exact g
  ·rw[q2]at g;exact g
 ·refine PA.imp (e_ (ha aE Z0 H0 ρ Ω) (hr aE Z0 H0 ρ Ω) hs) ?_
  rintro σ H Q ⟨α,Z,S,g⟩;refine⟨α,Z,S,?_⟩;simp only[aa,q,ay.bind]at g ⊢;exact g
 ·refine PA.imp (e_ (ha aE Z0 H0 ρ Ω) (hr aE Z0 H0 ρ Ω) hs) ?_
  rintro σ H Q ⟨α,Z,S,g⟩;simp only[aa,q,ay.bind]at g;exact g.elim
def aR(ds:List D)(Ω:aG):ay D:=if small ds.length then hZ Ω (.lst ds) else .bad
def iQ(ds:List D)(Ω:aG):ay D:=if small ds.length then .ok (.tup ds) Ω else .bad
theorem zg(h:qf X κ Φ es as):bu X κ Φ (.List es pos) (mN aR as):=by
 intro aE Z0 H0 ρ Ω;refine PE.imp (C8 (h aE Z0 H0 ρ Ω)) ?_;rintro σ H Q ⟨α,Z,S,g⟩;refine⟨α,Z,S,pj.use g fun ds ab _ vs H1 α1 Z1 g1 s1 r1 k1 => ?_⟩
 unfold aR at k1;split at k1
 ·rename_i hs
  exact⟨by rw[r1.length];exact bx hs,gD s1 r1 k1⟩
 ·exact k1.elim
theorem zh{x1}(h:qf X κ Φ es as):bu X κ Φ (.Tuple es x1 pos) (mN iQ as):=by
 intro aE Z0 H0 ρ Ω;refine PE.imp (C7 (h aE Z0 H0 ρ Ω)) ?_;rintro σ H Q ⟨α,Z,S,g⟩;refine⟨α,Z,S,pj.use g fun ds ab _ vs H1 α1 Z1 g1 s1 r1 k1 => ?_⟩
 unfold iQ at k1;split at k1
 ·rename_i hs
  exact⟨by rw[r1.length];exact bx hs,iP s1 r1 k1⟩
 ·exact k1.elim
def qS(x y:D)(Ω:aG):ay D:=match dE Ω x,dE Ω y with
 | some xs,some ys=>if small (xs.length + ys.length) then hZ Ω (.lst (xs++ys)) else .bad
 | _,_=>.bad
def nA(x y:D)(Ω:aG):ay D:=match x,y with
 | .tup xs,.tup ys=>if small (xs.length + ys.length) then .ok (.tup (xs++ys)) Ω else .bad
 | _,_=>.bad
def aP(op:Operator):D->D->aG->ay D:=match op with
 | .Add=>fE qS (fE nA (fQ (fw .Add)))
 | op=>fQ (fw op)
theorem zi{op:Operator}(ha:bu X κ Φ a ma)(hb:bu X κ Φ b mb):bu X κ Φ (.BinOp a op b pos) (m2 (aP op) ma mb):=by
 have E:bu X κ Φ (.BinOp a op b pos) (m2 (fQ (fw op)) ma mb):=dN (r:=yW op) (fun ta tb pa pb=>vv (vY op) pa pb) ha hb fun dx dy x y α Z Ω H Q S rx ry g=>by
  obtain⟨d,e,own,d',n1,n2,e1,k⟩:=gC (bw:=false) S rx ry g;exact Dk (bw:=false) n1 n2 (dM S) e1 k
 have C:op=.Add->bu X κ Φ (.BinOp a op b pos) (m2 qS ma mb):=fun e=>by
  subst e;refine dN (r:=yW .Add) (fun ta tb pa pb=>vv (vY .Add) pa pb) ha hb fun dx dy x y α Z Ω H Q S rx ry g => ?_
  unfold qS at g;split at g
  ·rename_i xs ys h1 h2
   obtain⟨l,vs,rfl,p1,p2⟩:=bP S rx h1;obtain⟨n,ws,rfl,p3,p4⟩:=bP S ry h2;split at g
   ·rename_i hs
    exact .inr (.inr ⟨l,n,vs,ws,rfl,rfl,p1,p3,by rw[p2.length,p4.length];exact bx hs,gD S (p2.append p4) g⟩)
   ·exact g.elim
  ·exact g.elim
 have C2:op=.Add->bu X κ Φ (.BinOp a op b pos) (m2 nA ma mb):=fun e=>by
  subst e;refine dN (r:=fun x y H Q=>BF X.K x y H Q\/BN X.K x y H Q) (fun ta tb pa pb=>vv (yK.or zc) pa pb) ha hb fun dx dy x y α Z Ω H Q S rx ry g => ?_
  unfold nA at g;split at g
  ·rename_i xs ys
   simp only[au]at rx ry;obtain⟨a1,vs,rfl,z1,p1,q1⟩:=rx;obtain⟨b1,ws,rfl,z2,p2,q2⟩:=ry;have q1:=bp.mp q1;have q2:=bp.mp q2;split at g
   ·rename_i hs
    by_cases hx:vs=[]
    ·subst hx
     have e1:xs=[]:=by have:=q1.length;simp at this;exact List.length_eq_zero_iff.mp this.symm
     subst e1;refine .inr ⟨a1,b1,ws,rfl,rfl,f_.of p1,f_.of p2,bQ.ret S ?_ g⟩;simp only[au,List.nil_append];exact⟨b1,ws,rfl,z2,p2,bp.mpr q2⟩
    ·refine .inl ⟨a1,b1,vs,ws,rfl,rfl,f_.of p1,f_.of p2,hx,by rw[q1.length,q2.length];exact bx hs,fun hy => ?_,fun _=>iP S (q1.append q2) g⟩
     subst hy;have e1:ys=[]:=by have:=q2.length;simp at this;exact List.length_eq_zero_iff.mp this.symm
     subst e1;refine bQ.ret S ?_ g;simp only[au,List.append_nil];exact⟨a1,vs,rfl,z1,p1,bp.mpr q1⟩
   ·exact g.elim
  ·exact g.elim
 cases op with
 | Add=>show bu X κ Φ _ (m2 (fE qS (fE nA (fQ (fw .Add)))) ma mb);rw[gz,gz];exact(C rfl).alt ((C2 rfl).alt E)
 | _=>exact E
def Hk:D->aG->ay D:=uB fun x=>match x with | .int i=>.ok (false,.int (-i)) | _=>.bad
theorem zj(ha:bu X κ Φ a ma):bu X κ Φ (.UnaryOp .USub a pos) (m1 Hk ma):=
 jV (r:=rU fun i=>.int (-i)) (fun ta pa=>GA C4 pa) ha fun dx x α Z Ω H Q S rx g=>by
  obtain⟨d,own,d',n1,e1,k⟩:=pk (bw:=false) S rx g;split at e1
  ·cases bA n1
   cases e1;exact⟨_,rfl,k _ H _ (eJ.refl (dM S)) (.rep (fA rfl))⟩
  ·cases e1
end
noncomputable def cq{κ β:Type}[DecidableEq κ](kvs:List (κ×β))(k:κ):Option β:=(kvs.find? fun kv=>decide (kv.1=k)).map (·.2)
noncomputable def dR{κ β:Type}[DecidableEq κ](kvs:List (κ×β))(k:κ)(v:β):List (κ×β):=
 if (kvs.any fun kv=>decide (kv.1=k))=true then kvs.map (fun kv=>if kv.1=k then (kv.1,v) else kv) else kvs++[(k,v)]
section
variable{κ:Type}[DecidableEq κ]{R:D->V->Prop}
theorem gw.val{kvs:List (κ×D)}{kvs':List (κ×V)}(h:gw R kvs kvs')(k:κ):(∀ d,cq kvs k=some d->∃ v,iF kvs' k=some v/\R d v)/\(cq kvs k=none->iF kvs' k=none):=by
 unfold gw at h
 induction h with
 | nil=>exact⟨fun d e=>(by cases e),fun _=>rfl⟩
 | @cons p q ps qs r t ih=>
  obtain⟨r1,r2⟩:=r
  by_cases e:p.1=k
  ·have e':q.1=k:=r1▸e
   have h1:cq (p::ps) k=some p.2:=by simp[cq,List.find?_cons,e]
   rw[h1,iG e'];exact⟨fun d hd=>by cases hd;exact⟨_,rfl,r2⟩,fun hn=>by cases hn⟩
  ·have e':¬ q.1=k:=fun z=>e (r1.trans z)
   have h1:cq (p::ps) k=cq ps k:=by simp[cq,List.find?_cons,e]
   rw[h1,iH e'];exact ih
theorem gw.any{kvs:List (κ×D)}{kvs':List (κ×V)}(h:gw R kvs kvs')(k:κ):(kvs'.any fun kv=>decide (kv.1=k))=kvs.any fun kv=>decide (kv.1=k):=by
 unfold gw at h
 induction h with
 | nil=>rfl
 | @cons p q ps qs r t ih=>rw[List.any_cons,List.any_cons,ih,r.1]
theorem gw.put{kvs:List (κ×D)}{kvs':List (κ×V)}(h:gw R kvs kvs')(k:κ){d:D}{v:V}(r:R d v):gw R (dR kvs k d) (putK kvs' k v):=by
 unfold dR putK;rw[h.any];split
 ·rename_i hc
  clear hc;unfold gw at h
  induction h with
  | nil=>exact .nil
  | @cons p q ps qs r1 t ih=>
   rw[List.map_cons,List.map_cons];refine .cons ?_ ih
   by_cases e:p.1=k
   ·rw[if_pos e,if_pos (r1.1▸e)];exact⟨r1.1,r⟩
   ·rw[if_neg e,if_neg (fun z=>e (r1.1.trans z))];exact r1
 ·exact aJ.append h (.one ⟨rfl,r⟩)
theorem gw.length{kvs:List (κ×D)}{kvs':List (κ×V)}(h:gw R kvs kvs'):kvs'.length=kvs.length:=aJ.length h
end
noncomputable def nB:D->Option Key
 | .int i=>some (.inl i)
 | .str x=>some (.inr x)
 | _=>none
def wH:D->Option (List Key)
 | .tup ds=>bB nB ds
 | _=>none
section
variable{X:Cx}{κ:Str->Addr->Prop}{Φ:gR}{α α' aE α1:List Addr}{Z Z' Z0 Z1:Addr->Prop}{Ω ak:aG}{H H' H0 H1:Hp}{ρ:aU}{σ:L2.St}{Q Q':VK}{r:ay D}{a b e:Expr}{es:List Expr}{ma mb mc m:EM}{as:AM}{pos:Pos}
theorem gE{d:D}{k:Key}{v:V}(h:nB d=some k)(r:au α Z H d v):v=kV k:=by
 cases d with
 | int i=>cases h;simp only[au]at r;exact r
 | str i=>cases h;simp only[au]at r;exact r
 | _=>cases h
theorem pq:∀ {ds:List D} {ks:List Key} {vs:List V},bB nB ds=some ks->aJ (au α Z H) ds vs->vs=ks.map kV
 | [],ks,vs,h,r=>by cases h;rw[r.nil_inv];rfl
 | d::ds,ks,vs,h,r=>by
  simp only[bB]at h;split at h
  ·rename_i y ys h1 h2
   cases h;obtain⟨v,vs',rfl,r1,r2⟩:=r.cons_inv;rw[gE h1 r1,pq h2 r2];rfl
  ·cases h
theorem mE{d:D}{ks:List Key}{v:V}(h:wH d=some ks)(r:au α Z H d v):∃ b,v=.ref b/\H b=some (.tup (ks.map kV)):=by
 cases d with
 | tup ds=>
  obtain⟨b,vs,rfl,_,h1,h2⟩:=eD r;rw[pq h h2]at h1;exact⟨b,rfl,h1⟩
 | _=>cases h
def qT(Ω:aG)(x y:D):Option (Option D):=match x with
 | .ref k=>match Ω[k]? with
  | some (.dK kvs)=>(nB y).map (cq kvs)
  | some (.dT kvs)=>(wH y).map (cq kvs)
  | some (.dF kvs)=>(nB y).map (cq kvs)
  | _=>none
 | _=>none
theorem pw{x y:D}{v w:V}{o:Option D}(S:bH κ α Z Ω H)(rx:au α Z H x v)(ry:au α Z H y w)(h:qT Ω x y=some o):∃ a o',v=.ref a/\iJ H a w o'/\(∀ d,o=some d->∃ u,o'=some u/\au α Z H d u)/\(o=none->o'=none):=by
 cases x with
 | ref k=>
  simp only[qT]at h;simp only[au]at rx;obtain⟨a,ha,rfl⟩:=rx;split at h
  ·rename_i kvs hk
   obtain⟨ky,h1,rfl⟩:=Option.map_eq_some_iff.mp h;obtain⟨a',ha',kvs',h2,h3⟩:=S.cell hk;rw[ha]at ha';cases ha'
   obtain rfl:=gE h1 ry;obtain⟨q1,q2⟩:=h3.val ky;exact⟨a,_,rfl,iJ.k h2,q1,q2⟩
  ·rename_i kvs hk
   obtain⟨ky,h1,rfl⟩:=Option.map_eq_some_iff.mp h;obtain⟨a',ha',kvs',h2,h3⟩:=S.cell hk;rw[ha]at ha';cases ha'
   obtain⟨b,rfl,hb⟩:=mE h1 ry;obtain⟨q1,q2⟩:=h3.val ky;exact⟨a,_,rfl,iJ.t h2 hb,q1,q2⟩
  ·rename_i kvs hk
   obtain⟨ky,h1,rfl⟩:=Option.map_eq_some_iff.mp h;obtain⟨a',ha',of,kvs',h2,h3⟩:=S.cell hk;rw[ha]at ha';cases ha'
   obtain rfl:=gE h1 ry;obtain⟨q1,q2⟩:=h3.val ky;exact⟨a,_,rfl,.inl ⟨kvs',ky,.inr ⟨of,h2⟩,rfl,rfl⟩,q1,q2⟩
  ·cases h
 | _=>cases h
def cR(op:CmpOp):D->D->aG->ay D:=fQ fun x y=>do let r ← dI op x y;Out.ok (false,D.bl r)
def gh(neg:Bool)(y x:D)(Ω:aG):ay D:=match qT Ω x y with
 | some o=>.ok (.bl (if neg then !o.isSome else o.isSome)) Ω
 | none=>.bad
noncomputable def fk(neg:Bool)(x y:D)(Ω:aG):ay D:=match x,y with
 | .ref _,.non=>.ok (.bl neg) Ω
 | _,_=>.bad
def az(op:CmpOp):D->D->aG->ay D:=match op with
 | .In=>fE (cR .In) (gh false)
 | .NotIn=>fE (cR .NotIn) (gh true)
 | .Is=>fE (fk false) (cR .Is)
 | .IsNot=>fE (fk true) (cR .IsNot)
 | op=>cR op
theorem qU{o:Option D}{o':Option V}{R:D->V->Prop}(h1:∀ d,o=some d->∃ u,o'=some u/\R d u)(h2:o=none->o'=none):o'.isSome=o.isSome:=by
 cases o with
 | none=>rw[h2 rfl];rfl
 | some d=>obtain⟨u,e,_⟩:=h1 d rfl;rw[e];rfl
theorem iR{f:D->D->aG->ay D}{r:R2}(h:∀ ta tb,PE X a ta->PE X b tb->PT X e (vy (FW r ta tb)))(ha:bu X κ Φ a ma)(hb:bu X κ Φ b mb)(Wo:∀ x y Ω d ak,f x y Ω=.ok d ak->∃ t,d=.bl t)
  (hr:∀ dx dy x y α Z Ω H Q,bH κ α Z Ω H->au α Z H dx x->au α Z H dy y->bQ κ Φ α Z H (f dx dy Ω) Q->r x y H Q):gy X κ Φ e (m2 f ma mb):=by
 intro aE Z0 H0 ρ Ω;rcases q:ma ρ Ω with ⟨d,ab⟩ | ⟨x,ab⟩ | _
 ·refine PT.imp (h _ _ (ha aE Z0 H0 ρ Ω) (hb aE Z0 H0 ρ ab)) ?_
  rintro σ H Q ⟨α,Z,S,g⟩;refine⟨α,Z,S,?_⟩;simp only[m2,q,ay.bind]at g ⊢;intro v H1 α1 Z1 g1 s1 r1;refine⟨α1,Z1,S.grow g1 s1,?_⟩;have g:=oi.from g1 g
  rcases q2:mb ρ ab with ⟨d2,ao⟩ | ⟨x,ao⟩ | _
  ·rw[q2]at g
   intro w H2 α2 Z2 g2 s2 r2;refine hr d d2 v w α2 Z2 ao H2 _ s2 (s1.dj g2 r1) r2 ?_;have g:=oi.from g2 g
   dsimp only[ay.bind]at g;rcases q3:f d d2 ao with ⟨d3,aO⟩ | ⟨x,aO⟩ | _
   ·rw[q3]at g
    obtain⟨t,rfl⟩:=Wo _ _ _ _ _ q3;intro u H3 α3 Z3 g3 s3 r3;simp only[au]at r3;exact⟨t,r3,g H3 α3 Z3 g3 s3⟩
   ·rw[q3]at g;exact g
   ·rw[q3]at g;exact g
  ·rw[q2]at g;exact g
  ·rw[q2]at g;exact g
 ·refine PT.imp (h _ _ (ha aE Z0 H0 ρ Ω) (hb aE Z0 H0 ρ Ω)) ?_
  rintro σ H Q ⟨α,Z,S,g⟩;refine⟨α,Z,S,?_⟩;simp only[m2,q,ay.bind,cQ]at g ⊢;exact g
 ·refine PT.imp (h _ _ (ha aE Z0 H0 ρ Ω) (hb aE Z0 H0 ρ Ω)) ?_
  rintro σ H Q ⟨α,Z,S,g⟩;simp only[m2,q,ay.bind,cQ]at g;exact g.elim
noncomputable def Dx(neg:Bool):R2:=fun y x H Q=>∃ a o,x=.ref a/\iJ H a y o/\Q (.bl (if neg then !o.isSome else o.isSome)) H
theorem wI(hu:X.A.units + 1 < cLine):gf X (compareOp .In) (Dx false):=by
 intro pins s σ H x y u v Q I rx ry h;obtain⟨a,o,rfl,g,q⟩:=h;obtain rfl:v=Value.ref a:=ry;exact Ob hu I g rx fun s3 I3=>⟨.bl o.isSome,H,I3,rfl,q⟩
theorem mF(hu:X.A.units + 1 < cLine):gf X (compareOp .NotIn) (Dx true):=by
 intro pins s σ H x y u v Q I rx ry h;obtain⟨a,o,rfl,g,q⟩:=h;obtain rfl:v=Value.ref a:=ry;exact yO hu I g rx fun s3 I3=>⟨.bl (!o.isSome),H,I3,rfl,q⟩
theorem nE{op:CmpOp}{dx dy:D}{x y:V}(S:bH κ α Z Ω H)(rx:au α Z H dx x)(ry:au α Z H dy y)(g:bQ κ Φ α Z H (cR op dx dy Ω) Q):v5 op x y H Q:=by
 obtain⟨d,e,own,d',n1,n2,e1,k⟩:=gC (bw:=false) S rx ry g;exact Dm (bw:=false) n1 n2 (dM S) e1 k
theorem nF{neg:Bool}{dx dy:D}{x y:V}(S:bH κ α Z Ω H)(rx:au α Z H dx x)(ry:au α Z H dy y)(g:bQ κ Φ α Z H (gh neg dx dy Ω) Q):Dx neg x y H Q:=by
 unfold gh at g;split at g
 ·rename_i o ho
  obtain⟨a,o',rfl,h1,h2,h3⟩:=pw S ry rx ho;refine⟨a,o',rfl,h1,?_⟩;rw[qU h2 h3];exact bQ.ret S (aW rfl) g
 ·exact g.elim
theorem nG{neg:Bool}{op:CmpOp}(hop:op=if neg then .IsNot else .Is){dx dy:D}{x y:V}(S:bH κ α Z Ω H)(rx:au α Z H dx x)(ry:au α Z H dy y)(g:bQ κ Φ α Z H (fk neg dx dy Ω) Q) :
  (if neg then (y=.non/\Q (.bl (!decide (x=.non))) H) else (y=.non/\Q (.bl (decide (x=.non))) H)):=by
 unfold fk at g;split at g
 ·simp only[au]at rx ry
  obtain⟨a,_,rfl⟩:=rx;have:=bQ.ret S (aW (d:=.bl neg) rfl) g;cases neg
  ·exact⟨ry,this⟩
  ·exact⟨ry,this⟩
 ·exact g.elim
theorem nH{op:CmpOp}:∀ x y Ω d ak,cR op x y Ω=.ok d ak->∃ t,d=.bl t:=fun x y Ω d ak h=>by
 unfold cR fQ at h;split at h
 ·rename_i dx dy _ _
  dsimp only at h;cases q:dI op dx dy with
  | ok t=>
   have e:(do let r ← dI op dx dy;Out.ok (false,D.bl r))=Out.ok (false,D.bl t):=by rw[q];rfl
   rw[e]at h;simp only[fP,fb,if_true]at h;cases h;exact⟨_,rfl⟩
  | exc c fs=>
   have e:(do let r ← dI op dx dy;Out.ok (false,D.bl r))=Out.exc c fs:=by rw[q];rfl
   rw[e]at h;cases h
  | bad=>
   have e:(do let r ← dI op dx dy;Out.ok (false,D.bl r))=Out.bad:=by rw[q];rfl
   rw[e]at h;cases h
 ·cases h
theorem sS{neg:Bool}:∀ x y Ω d ak,gh neg x y Ω=.ok d ak->∃ t,d=.bl t:=fun x y Ω d ak h=>by
 unfold gh at h;split at h
 ·cases h;exact⟨_,rfl⟩
 ·cases h
theorem sT{neg:Bool}:∀ x y Ω d ak,fk neg x y Ω=.ok d ak->∃ t,d=.bl t:=fun x y Ω d ak h=>by
 unfold fk at h;split at h
 ·cases h;exact⟨_,rfl⟩
 ·cases h
theorem sU{op:CmpOp}(hu:X.A.units + 64 < cLine)(hm:behindInMarks op b=false)(ha:bu X κ Φ a ma)(hb:bu X κ Φ b mb):bu X κ Φ (.Compare a [op] [b] pos) (m2 (az op) ma mb)/\gy X κ Φ (.Compare a [op] [b] pos) (m2 (az op) ma mb):=by
 have E:bu X κ Φ (.Compare a [op] [b] pos) (m2 (cR op) ma mb):=dN (fun ta tb pa pb=>iB (jc hu op) pa pb hm) ha hb fun dx dy x y α Z Ω H Q S rx ry g=>nE S rx ry g
 have T:gy X κ Φ (.Compare a [op] [b] pos) (m2 (cR op) ma mb):=iR (fun ta tb pa pb=>iC (jc hu op) pa pb hm) ha hb nH fun dx dy x y α Z Ω H Q S rx ry g=>nE S rx ry g
 have hu1:X.A.units + 1 < cLine:=by omega
 cases op with
 | In=>
  have E2:bu X κ Φ (.Compare a [.In] [b] pos) (m2 (gh false) ma mb):=dN (fun ta tb pa pb=>iB (wI hu1) pa pb hm) ha hb fun dx dy x y α Z Ω H Q S rx ry g=>nF S rx ry g
  have T2:gy X κ Φ (.Compare a [.In] [b] pos) (m2 (gh false) ma mb):=iR (fun ta tb pa pb=>iC (wI hu1) pa pb hm) ha hb sS fun dx dy x y α Z Ω H Q S rx ry g=>nF S rx ry g
  show bu X κ Φ _ (m2 (fE (cR .In) (gh false)) ma mb)/\gy X κ Φ _ (m2 (fE (cR .In) (gh false)) ma mb)
  rw[gz];exact⟨E.alt E2,T.alt T2⟩
 | NotIn=>
  have E2:bu X κ Φ (.Compare a [.NotIn] [b] pos) (m2 (gh true) ma mb):=dN (fun ta tb pa pb=>iB (mF hu1) pa pb hm) ha hb fun dx dy x y α Z Ω H Q S rx ry g=>nF S rx ry g
  have T2:gy X κ Φ (.Compare a [.NotIn] [b] pos) (m2 (gh true) ma mb):=iR (fun ta tb pa pb=>iC (mF hu1) pa pb hm) ha hb sS fun dx dy x y α Z Ω H Q S rx ry g=>nF S rx ry g
  show bu X κ Φ _ (m2 (fE (cR .NotIn) (gh true)) ma mb)/\gy X κ Φ _ (m2 (fE (cR .NotIn) (gh true)) ma mb)
  rw[gz];exact⟨E.alt E2,T.alt T2⟩
 | Is=>
  have E2:bu X κ Φ (.Compare a [.Is] [b] pos) (m2 (fk false) ma mb):=dN (fun ta tb pa pb=>iB vx pa pb hm) ha hb fun dx dy x y α Z Ω H Q S rx ry g=>nG (neg:=false) (op:=.Is) rfl S rx ry g
  have T2:gy X κ Φ (.Compare a [.Is] [b] pos) (m2 (fk false) ma mb):=iR (fun ta tb pa pb=>iC vx pa pb hm) ha hb sT fun dx dy x y α Z Ω H Q S rx ry g=>nG (neg:=false) (op:=.Is) rfl S rx ry g
  show bu X κ Φ _ (m2 (fE (fk false) (cR .Is)) ma mb)/\gy X κ Φ _ (m2 (fE (fk false) (cR .Is)) ma mb)
  rw[gz];exact⟨E2.alt E,T2.alt T⟩
 | IsNot=>
  have E2:bu X κ Φ (.Compare a [.IsNot] [b] pos) (m2 (fk true) ma mb):=dN (fun ta tb pa pb=>iB rX pa pb hm) ha hb fun dx dy x y α Z Ω H Q S rx ry g=>nG (neg:=true) (op:=.IsNot) rfl S rx ry g
  have T2:gy X κ Φ (.Compare a [.IsNot] [b] pos) (m2 (fk true) ma mb):=iR (fun ta tb pa pb=>iC rX pa pb hm) ha hb sT fun dx dy x y α Z Ω H Q S rx ry g=>nG (neg:=true) (op:=.IsNot) rfl S rx ry g
  show bu X κ Φ _ (m2 (fE (fk true) (cR .IsNot)) ma mb)/\gy X κ Φ _ (m2 (fE (fk true) (cR .IsNot)) ma mb)
  rw[gz];exact⟨E2.alt E,T2.alt T⟩
 | Eq=>exact⟨E,T⟩
 | NotEq=>exact⟨E,T⟩
 | Lt=>exact⟨E,T⟩
 | LtE=>exact⟨E,T⟩
 | Gt=>exact⟨E,T⟩
 | GtE=>exact⟨E,T⟩
def eP(Ω:aG)(x:D):Option (List D):=match x with
 | .tup ds=>some ds
 | x=>dE Ω x
def zk(x y:D)(Ω:aG):ay D:=match eP Ω x,y with
 | some ds,.int i=>match L2.jH ds i with
  | some d=>.ok d Ω
  | none=>.bad
 | _,_=>.bad
def zl(x y:D)(Ω:aG):ay D:=match qT Ω x y with
 | some (some d)=>.ok d Ω
 | _=>.bad
def aC:D->D->aG->ay D:=fE zk (fE zl (fQ qF))
theorem kL{x:D}{v:V}{ds:List D}{K:PySem.W.Frag}(S:bH κ α Z Ω H)(r:au α Z H x v)(h:eP Ω x=some ds):∃ a vs,v=.ref a/\(jO K H a vs\/f_ K H a vs)/\aJ (au α Z H) ds vs:=by
 unfold eP at h;split at h
 ·cases h
  obtain⟨a,vs,rfl,_,h1,h2⟩:=eD r;exact⟨a,vs,rfl,.inr (uq (.inl h1)),h2⟩
 ·obtain⟨a,vs,rfl,h1,h2⟩:=bP S r h
  exact⟨a,vs,rfl,.inl (kx h1),h2⟩
theorem zm{ds:List D}{vs:List V}{R:D->V->Prop}{i:Int}{d:D}(r:aJ R ds vs)(h:L2.jH ds i=some d):∃ v,L2.jH vs i=some v/\R d v:=by
 unfold L2.jH at h ⊢;rw[r.length];cases q:L2.vI ds.length i with
 | none=>rw[q]at h;cases h
 | some n=>rw[q]at h;exact r.get h
theorem zo(hu:X.A.units + 1 < cLine)(hs:sh b)(ha:bu X κ Φ a ma)(hb:bu X κ Φ b mb):bu X κ Φ (.Subscript a b pos) (m2 aC ma mb):=by
 unfold aC;rw[gz,gz];refine bu.alt ?_ (bu.alt ?_ ?_)
 ·refine dN (r:=L4 X.K) (fun ta tb pa pb=>BG vJ pa pb hs) ha hb fun dx dy x y α Z Ω H Q S rx ry g => ?_
  unfold zk at g;split at g
  ·rename_i ds i h1
   obtain⟨p,vs,rfl,h2,h3⟩:=kL (K:=X.K) S rx h1;simp only[au]at ry;subst ry;split at g
   ·rename_i d hd
    obtain⟨v,h4,h5⟩:=zm h3 hd;rcases h2 with h2 | h2
    ·exact .inl ⟨p,vs,i,v,rfl,rfl,h2,h4,bQ.ret S h5 g⟩
    ·exact .inr (.inl ⟨p,vs,i,v,rfl,rfl,h2,h4,bQ.ret S h5 g⟩)
   ·exact g.elim
  ·exact g.elim
 ·refine dN (r:=fun x y H Q=>∃ a v,x=.ref a/\iJ H a y (some v)/\Q v H) (fun ta tb pa pb=>yQ hu pa pb hs) ha hb fun dx dy x y α Z Ω H Q S rx ry g => ?_
  unfold zl at g;split at g
  ·rename_i d hd
   obtain⟨a,o',rfl,h1,h2,_⟩:=pw S rx ry hd;obtain⟨u,rfl,h3⟩:=h2 d rfl;exact⟨a,u,rfl,h1,bQ.ret S h3 g⟩
  ·exact g.elim
 ·refine dN (r:=L4 X.K) (fun ta tb pa pb=>BG vJ pa pb hs) ha hb fun dx dy x y α Z Ω H Q S rx ry g => ?_
  obtain⟨d,e,own,d',n1,n2,e1,k⟩:=gC (bw:=false) S rx ry g;exact Dp (bw:=false) n1 n2 (dM S) e1 k
def gF(n:Bool)(m:EM):aU->aG->ay (Option Int):=fun ρ Ω=>if n=true then .ok none Ω else (m ρ Ω).bind fun d ab=>match d with
 | .int i=>.ok (some i) ab
 | _=>.bad
def jL(x:D)(lo hi:Option Int)(Ω:aG):ay D:=match x,dE Ω x with
 | _,some ds=>hZ Ω (.lst (cX ds lo hi))
 | .str z,none=>fP Ω (vV (.str z) lo hi)
 | .tup ds,none=>.ok (.tup (cX ds lo hi)) Ω
 | _,_=>.bad
def cj(ma:EM)(nl:Bool)(ml:EM)(nh:Bool)(mh:EM):EM:=fun ρ Ω=>(ma ρ Ω).bind fun x ab=>(gF nl ml ρ ab).bind fun l ao=>(gF nh mh ρ ao).bind fun h aO=>jL x l h aO
def Ma(X:Cx)(κ:Str->Addr->Prop)(Φ:gR)(o:Option Expr)(n:Bool)(m:EM):Prop:=(o=none/\n=true)\/∃ e,o=some e/\n=false/\bu X κ Φ e m
theorem eh{o:Option Expr}{n:Bool}(h:Ma X κ Φ o n m)(aE:List Addr)(Z0:Addr->Prop)(H0:Hp)(ρ:aU)(Ω:aG):∃ t,PO X o t/\∀ σ H α Z Q,cP κ aE Z0 H0 α Z Ω ρ σ H ->
  (match gF n m ρ Ω with
   | .ok l ab=>∀ H' α' Z',cx α Z H α' Z' H'->bH κ α' Z' ab H'->Q l H'
   | .exc x ab=>∀ H' α' Z',cx α Z H α' Z' H'->bH κ α' Z' ab H'->Φ x ab α' Z' H'
   | .bad=>False)->t σ H Q:=by
 rcases h with ⟨rfl,rfl⟩ | ⟨e,rfl,rfl,he⟩
 ·refine⟨sd,yH,fun σ H α Z Q S k => ?_⟩
  exact k H α Z (cx.refl S.st.has) S.st
 ·refine⟨_,yI (he aE Z0 H0 ρ Ω),fun σ H α Z Q S k=>⟨α,Z,S,?_⟩⟩
  simp only[gF,Bool.false_eq_true,if_false]at k;rcases q:m ρ Ω with ⟨d,ab⟩ | ⟨x,ab⟩ | _
  ·rw[q]at k
   intro v H1 α1 Z1 g1 s1 r1;cases d with
   | int i=>simp only[au]at r1;exact⟨i,r1,k H1 α1 Z1 g1 s1⟩
   | _=>exact k.elim
  ·rw[q]at k;exact k
  ·rw[q]at k;exact k
theorem sV{ds:List D}{vs:List V}{R:D->V->Prop}(h:aJ R ds vs)(lo hi:Option Int):aJ R (cX ds lo hi) (oH vs lo hi):=by
 unfold cX oH;rw[h.length];exact(h.drop _).take _
theorem uC{ds:List D}{n:Nat}{l h:Option Int}(hn:n=ds.length)(h1:HT.cv n 0 l=0)(h2:HT.cv n n h=n):cX ds l h=ds:=by
 subst hn;unfold cX;rw[h1,h2,List.drop_zero,Nat.sub_zero,List.take_length]
def wJ(K:PySem.W.Frag):V->Option Int->Option Int->Hp->VK->Prop:=fun x lo hi H Q=>V_ K x lo hi H Q\/(GN K x lo hi H Q\/Hi K x lo hi H Q)
theorem zp{lo hi:Option Expr}{nl nh:Bool}{ml mh:EM}{p2:Pos}(ha:bu X κ Φ a ma)(hl:Ma X κ Φ lo nl ml)(hh:Ma X κ Φ hi nh mh):bu X κ Φ (.Subscript a (.Slice lo hi none p2) pos) (cj ma nl ml nh mh):=by
 intro aE Z0 H0 ρ Ω;rcases q:ma ρ Ω with ⟨d,ab⟩ | ⟨x,ab⟩ | _
 ·obtain⟨tl,pl,kl⟩:=eh hl aE Z0 H0 ρ ab
  rcases q2:gF nl ml ρ ab with ⟨l,ao⟩ | ⟨x,ao⟩ | _
  ·obtain⟨th,ph,kh⟩:=eh hh aE Z0 H0 ρ ao
   refine PE.imp (gq (r:=wJ X.K) ((iE.or kD).or (kn.or iM)) (ha aE Z0 H0 ρ Ω) pl ph) ?_;rintro σ H Q ⟨α,Z,S,g⟩;refine⟨α,Z,S,?_⟩;simp only[cj,q,q2,ay.bind]at g ⊢;intro v H1 α1 Z1 g1 s1 r1;have g:=bQ.from g1 g
   have S1:=S.grow g1 s1;refine kl σ H1 α1 Z1 _ S1 ?_;rw[q2];intro H2 α2 Z2 g2 s2;have g:=bQ.from g2 g
   have S2:=S1.grow g2 s2;refine kh σ H2 α2 Z2 _ S2 ?_;rcases q3:gF nh mh ρ ao with ⟨h,aO⟩ | ⟨x,aO⟩ | _
   ·rw[q3]at g
    intro H3 α3 Z3 g3 s3;have g:=bQ.from g3 g
    have r3:=s2.dj g3 (s1.dj g2 r1);dsimp only[ay.bind]at g;unfold jL at g;split at g
    ·rename_i ds hd
     obtain⟨p,vs,rfl,h1,h2⟩:=bP s3 r3 hd;exact .inl (.inl ⟨p,vs,rfl,kx h1,gD s3 (sV h2 l h) g⟩)
    ·
     simp only[au]at r3;subst r3;obtain⟨own,d,e1,k⟩:=iN (bw:=false) s3 g;simp only[vV]at e1;split at e1
     ·rename_i hs
      cases e1;exact .inl (.inr ⟨_,rfl,bx hs,k _ H3 _ _ (eJ.refl s3.dom) (.rep (fA rfl))⟩)
     ·cases e1
    ·simp only[au]at r3
     obtain⟨p,vs,rfl,z1,h1,h2⟩:=r3;have h2:=bp.mp h2
     by_cases hw:HT.cv vs.length 0 l=0/\HT.cv vs.length vs.length h=vs.length
     ·refine .inr (.inr ⟨p,vs,rfl,f_.of h1,hw.1,hw.2,bQ.ret s3 ?_ g⟩)
      rw[uC h2.length hw.1 hw.2];simp only[au];exact⟨p,vs,rfl,z1,h1,bp.mpr h2⟩
     ·exact .inr (.inl ⟨p,vs,rfl,f_.of h1,hw,iP s3 (sV h2 l h) g⟩)
    ·exact g.elim
   ·rw[q3]at g;exact g
   ·rw[q3]at g;exact g
  ·obtain⟨th,ph,kh⟩:=eh hh aE Z0 H0 ρ ab
   refine PE.imp (gq (r:=wJ X.K) ((iE.or kD).or (kn.or iM)) (ha aE Z0 H0 ρ Ω) pl ph) ?_;rintro σ H Q ⟨α,Z,S,g⟩;refine⟨α,Z,S,?_⟩;simp only[cj,q,q2,ay.bind]at g ⊢;intro v H1 α1 Z1 g1 s1 r1;refine kl σ H1 α1 Z1 _ (S.grow g1 s1) ?_;rw[q2];intro H2 α2 Z2 g2 s2;exact g H2 α2 Z2 (g1.trans g2) s2
  ·obtain⟨th,ph,kh⟩:=eh hh aE Z0 H0 ρ ab
   refine PE.imp (gq (r:=wJ X.K) ((iE.or kD).or (kn.or iM)) (ha aE Z0 H0 ρ Ω) pl ph) ?_;rintro σ H Q ⟨α,Z,S,g⟩;simp only[cj,q,q2,ay.bind]at g;exact g.elim
 ·obtain⟨tl,pl,kl⟩:=eh hl aE Z0 H0 ρ Ω
  obtain⟨th,ph,kh⟩:=eh hh aE Z0 H0 ρ Ω;refine PE.imp (gq (r:=wJ X.K) ((iE.or kD).or (kn.or iM)) (ha aE Z0 H0 ρ Ω) pl ph) ?_;rintro σ H Q ⟨α,Z,S,g⟩;refine⟨α,Z,S,?_⟩;simp only[cj,q,ay.bind]at g ⊢;exact g
 ·obtain⟨tl,pl,kl⟩:=eh hl aE Z0 H0 ρ Ω
  obtain⟨th,ph,kh⟩:=eh hh aE Z0 H0 ρ Ω;refine PE.imp (gq (r:=wJ X.K) ((iE.or kD).or (kn.or iM)) (ha aE Z0 H0 ρ Ω) pl ph) ?_;rintro σ H Q ⟨α,Z,S,g⟩;simp only[cj,q,ay.bind]at g;exact g.elim
end
theorem PE.ex{X:Cx}{e:Expr}{ι:Type}{t:ι->TE}(h:∀ i,PE X e (t i)):PE X e (fun σ H Q=>∃ i,t i σ H Q):=fun pins s σ H Q I ⟨i,q⟩=>h i pins s σ H Q I q
theorem PT.ex{X:Cx}{e:Expr}{ι:Type}{t:ι->TT}(h:∀ i,PT X e (t i)):PT X e (fun σ H Q=>∃ i,t i σ H Q):=fun pins s σ H Q I ⟨i,q⟩=>h i pins s σ H Q I q
theorem PW.ex{X:Cx}{e:Expr}{ι:Type}{t:ι->TT}(h:∀ i,PW X e (t i)):PW X e (fun σ H Q=>∃ i,t i σ H Q):=fun wh pins s σ H Q I ⟨i,q⟩=>h i wh pins s σ H Q I q
theorem PA.ex{X:Cx}{es:List Expr}{ι:Type}{t:ι->TA}(h:∀ i,PA X es (t i)):PA X es (fun σ H Q=>∃ i,t i σ H Q):=fun pos pins s σ H Q I ⟨i,q⟩=>h i pos pins s σ H Q I q
def eQ(ma mb:EM):EM:=fun ρ Ω=>(ma ρ Ω).bind fun x ab=>match gg ab x with
 | some true=>mb ρ ab
 | some false=>.ok x ab
 | none=>.bad
def sW(ma mb:EM):EM:=fun ρ Ω=>(ma ρ Ω).bind fun x ab=>match gg ab x with
 | some false=>mb ρ ab
 | some true=>.ok x ab
 | none=>.bad
def eY(ma:EM):EM:=fun ρ Ω=>(cQ (ma ρ Ω)).bind fun t ab=>.ok (.bl (!t)) ab
def vb(mc ma mb:EM):EM:=fun ρ Ω=>(cQ (mc ρ Ω)).bind fun t ab=>if t=true then ma ρ ab else mb ρ ab
section
variable{X:Cx}{κ:Str->Addr->Prop}{Φ:gR}{α α' aE α1:List Addr}{Z Z' Z0 Z1:Addr->Prop}{Ω ak:aG}{H H' H0 H1:Hp}{ρ:aU}{σ:L2.St}{Q Q':VK}{r:ay D}{a b e ce:Expr}{rest:List Expr}{es:List Expr}{ma mb mc m:EM}{as:AM}{pos p:Pos}
theorem gG{d:D}{v:V}{t:Bool}{K:PySem.W.Frag}(S:bH κ α Z Ω H)(r:au α Z H d v)(h:gg Ω d=some t):oA K v H t:=by
 cases d with
 | non=>simp only[au]at r;subst r;cases h;rfl
 | bl b=>simp only[au]at r;subst r;cases h;rfl
 | int b=>simp only[au]at r;subst r;cases h;rfl
 | str b=>
  simp only[au]at r;subst r
  have n:Now Z H (.str b) (.str b):=by simp only[Now,Rep]
  exact Dn n h
 | lst ds=>
  cases h;obtain⟨a,vs,rfl,h1,h2⟩:=bP (ds:=ds) S r rfl;refine .inl ⟨vs,kx h1,?_⟩;have:=h2.length;cases ds<;>cases vs<;>simp at this ⊢
 | tup ds=>
  cases h;obtain⟨a,vs,rfl,_,h1,h2⟩:=eD r;refine .inr (.inl ⟨vs,uq (.inl h1),?_⟩);have:=h2.length;cases ds<;>cases vs<;>simp at this ⊢
 | dct _ _=>cases h
 | ref k=>
  simp only[gg]at h;split at h
  ·rename_i ds hk
   cases h;obtain⟨a,vs,rfl,h1,h2⟩:=bP (ds:=ds) S r (by simp only[dE,hk])
   refine .inl ⟨vs,kx h1,?_⟩;have:=h2.length;cases ds<;>cases vs<;>simp at this ⊢
  ·rename_i kvs hk
   cases h;simp only[au]at r;obtain⟨a,ha,rfl⟩:=r;obtain⟨a',ha',kvs',h1,h2⟩:=S.cell hk;rw[ha]at ha';cases ha'
   refine .inr (.inr ⟨kvs',h1,?_⟩);have:=h2.length;cases kvs<;>cases kvs'<;>simp at this ⊢
  ·cases h
theorem oi.use{r:ay Bool}{f:Bool->aG->ay D}{Q':Bool->Hp->Prop}(h:bQ κ Φ α Z H (r.bind f) Q)(k:∀ t ab,r=.ok t ab->∀ H1 α1 Z1,cx α Z H α1 Z1 H1->bH κ α1 Z1 ab H1->bQ κ Φ α1 Z1 H1 (f t ab) Q->Q' t H1):oi κ Φ α Z H r Q':=by
 cases r with
 | ok d ab=>exact fun H1 α1 Z1 g s=>k d ab rfl H1 α1 Z1 g s (bQ.from g h)
 | exc x ab=>exact h
 | bad=>exact h
theorem oi.To{Q:Bool->Hp->Prop}{K:PySem.W.Frag}(h:oi κ Φ α Z H (cQ r) Q):bQ κ Φ α Z H r (fun v H1=>∃ t,oA K v H1 t/\Q t H1):=by
 cases r with
 | ok d ab=>
  intro v H1 α1 Z1 g s q;simp only[cQ]at h;split at h
  ·rename_i t ht
   exact⟨t,gG s q ht,h H1 α1 Z1 g s⟩
  ·exact h.elim
 | exc x ab=>exact h
 | bad=>exact h.elim
theorem zq(h:bu X κ Φ e m)(he:∀ whole,isTrue e X.env whole=(do let v ← whole;standAt e.pos;holding [v] (truthy v))):gy X κ Φ e m:=by
 intro aE Z0 H0 ρ Ω;refine PT.imp (vB (h aE Z0 H0 ρ Ω) he) ?_;rintro σ H Q ⟨α,Z,S,g⟩;exact⟨α,Z,S,g.To⟩
theorem zr(ha:bu X κ Φ a ma)(hb:bu X κ Φ (.BoolOp .And (b::rest) pos) mb):bu X κ Φ (.BoolOp .And (a::b::rest) pos) (eQ ma mb):=by
 intro aE Z0 H0 ρ Ω;refine PE.imp (y8 (ha aE Z0 H0 ρ Ω) (PE.ex fun ab=>hb aE Z0 H0 ρ ab)) ?_
 rintro σ H Q ⟨α,Z,S,g⟩;refine⟨α,Z,S,bQ.use g fun x ab _ v H1 α1 Z1 g1 s1 r1 k1 => ?_⟩
 split at k1
 ·rename_i ht
  exact⟨true,gG s1 r1 ht,oQ ⟨ab,α1,Z1,S.grow g1 s1,k1⟩⟩
 ·rename_i ht
  exact⟨false,gG s1 r1 ht,oP (bQ.ret s1 r1 k1)⟩
 ·exact k1.elim
theorem Dy(ha:bu X κ Φ a ma)(hb:bu X κ Φ (.BoolOp .Or (b::rest) pos) mb):bu X κ Φ (.BoolOp .Or (a::b::rest) pos) (sW ma mb):=by
 intro aE Z0 H0 ρ Ω;refine PE.imp (Dr (ha aE Z0 H0 ρ Ω) (PE.ex fun ab=>hb aE Z0 H0 ρ ab)) ?_
 rintro σ H Q ⟨α,Z,S,g⟩;refine⟨α,Z,S,bQ.use g fun x ab _ v H1 α1 Z1 g1 s1 r1 k1 => ?_⟩
 split at k1
 ·rename_i ht
  exact⟨false,gG s1 r1 ht,oP ⟨ab,α1,Z1,S.grow g1 s1,k1⟩⟩
 ·rename_i ht
  exact⟨true,gG s1 r1 ht,oQ (bQ.ret s1 r1 k1)⟩
 ·exact k1.elim
theorem uD{op:BoolOp}(ha:bu X κ Φ a ma):bu X κ Φ (.BoolOp op [a] pos) ma:=fun aE Z0 H0 ρ Ω=>CI (ha aE Z0 H0 ρ Ω)
theorem zt(ha:bu X κ Φ a ma):bu X κ Φ (.UnaryOp .Not a pos) (eY ma):=by
 intro aE Z0 H0 ρ Ω;refine PE.imp (y9 (ha aE Z0 H0 ρ Ω)) ?_;rintro σ H Q ⟨α,Z,S,g⟩;refine⟨α,Z,S,?_⟩;have:=oi.use (Q':=fun t H1=>Q (.bl (!t)) H1) g fun t ab _ H1 α1 Z1 g1 s1 k1=>bQ.ret s1 (aW rfl) k1
 exact this.To
theorem zu(ha:gy X κ Φ a ma):gy X κ Φ (.UnaryOp .Not a pos) (eY ma):=by
 intro aE Z0 H0 ρ Ω;refine PT.imp (CH (ha aE Z0 H0 ρ Ω)) ?_;rintro σ H Q ⟨α,Z,S,g⟩;refine⟨α,Z,S,?_⟩;simp only[eY]at g;cases q:cQ (ma ρ Ω) with
 | ok t ab=>rw[q]at g;exact fun H' α' Z' g' s'=>g H' α' Z' g' s'
 | exc x ab=>rw[q]at g;exact g
 | bad=>rw[q]at g;exact g
def BO(X:Cx)(κ:Str->Addr->Prop)(Φ:gR)(e:Expr)(m:EM):Prop:=∀ aE Z0 H0 ρ Ω,PW X e (Ot κ Φ aE Z0 H0 m ρ Ω)
theorem BO.pt(h:BO X κ Φ e m):gy X κ Φ e m:=fun aE Z0 H0 ρ Ω=>(h aE Z0 H0 ρ Ω).pt
theorem zv{op:BoolOp}(ha:gy X κ Φ a ma):BO X κ Φ (.BoolOp op [a] pos) ma:=fun aE Z0 H0 ρ Ω=>by
 cases op with
 | And=>exact pw_and1 (ha aE Z0 H0 ρ Ω)
 | Or=>exact pw_or1 (ha aE Z0 H0 ρ Ω)
theorem zw(ha:gy X κ Φ a ma)(hb:BO X κ Φ (.BoolOp .And (b::rest) pos) mb):BO X κ Φ (.BoolOp .And (a::b::rest) pos) (eQ ma mb):=by
 intro aE Z0 H0 ρ Ω;refine PW.imp (pw_and (ha aE Z0 H0 ρ Ω) (PW.ex fun ab=>hb aE Z0 H0 ρ ab)) ?_
 rintro σ H Q ⟨α,Z,S,g⟩;refine⟨α,Z,S,?_⟩;simp only[eQ]at g;cases q:ma ρ Ω with
 | ok x ab=>
  rw[q]at g;dsimp only[ay.bind]at g;simp only[cQ];split at g
  ·rename_i ht
   rw[ht];exact fun H1 α1 Z1 g1 s1=>oQ ⟨ab,α1,Z1,S.grow g1 s1,oi.from g1 g⟩
  ·rename_i ht
   rw[ht];simp only[cQ,ht]at g;exact fun H1 α1 Z1 g1 s1=>oP (g H1 α1 Z1 g1 s1)
  ·exact g.elim
 | exc x ab=>rw[q]at g;exact g
 | bad=>rw[q]at g;exact g.elim
theorem Dz(ha:gy X κ Φ a ma)(hb:BO X κ Φ (.BoolOp .Or (b::rest) pos) mb):BO X κ Φ (.BoolOp .Or (a::b::rest) pos) (sW ma mb):=by
 intro aE Z0 H0 ρ Ω;refine PW.imp (pw_or (ha aE Z0 H0 ρ Ω) (PW.ex fun ab=>hb aE Z0 H0 ρ ab)) ?_
 rintro σ H Q ⟨α,Z,S,g⟩;refine⟨α,Z,S,?_⟩;simp only[sW]at g;cases q:ma ρ Ω with
 | ok x ab=>
  rw[q]at g;dsimp only[ay.bind]at g;simp only[cQ];split at g
  ·rename_i ht
   rw[ht];exact fun H1 α1 Z1 g1 s1=>oP ⟨ab,α1,Z1,S.grow g1 s1,oi.from g1 g⟩
  ·rename_i ht
   rw[ht];simp only[cQ,ht]at g;exact fun H1 α1 Z1 g1 s1=>oQ (g H1 α1 Z1 g1 s1)
  ·exact g.elim
 | exc x ab=>rw[q]at g;exact g
 | bad=>rw[q]at g;exact g.elim
theorem zx(hc:gy X κ Φ ce mc)(ha:bu X κ Φ a ma)(hb:bu X κ Φ b mb):bu X κ Φ (.IfExp ce a b pos) (vb mc ma mb):=by
 intro aE Z0 H0 ρ Ω;refine PE.imp (vi (hc aE Z0 H0 ρ Ω) (PE.ex fun ab=>ha aE Z0 H0 ρ ab) (PE.ex fun ab=>hb aE Z0 H0 ρ ab)) ?_
 rintro σ H Q ⟨α,Z,S,g⟩;refine⟨α,Z,S,oi.use g fun t ab _ H1 α1 Z1 g1 s1 k1 => ?_⟩
 cases t with
 | true=>rw[if_pos rfl]at k1;exact oQ ⟨ab,α1,Z1,S.grow g1 s1,k1⟩
 | false=>rw[if_neg Bool.false_ne_true]at k1;exact oP ⟨ab,α1,Z1,S.grow g1 s1,k1⟩
theorem zy(hc:gy X κ Φ ce mc)(ha:gy X κ Φ a ma)(hb:gy X κ Φ b mb):gy X κ Φ (.IfExp ce a b pos) (vb mc ma mb):=by
 intro aE Z0 H0 ρ Ω pins s σ H Q I;rintro⟨α,Z,S,g⟩;simp only[vb]at g
 have key:Ot κ Φ aE Z0 H0 mc ρ Ω σ H (fun t H1=>∃ ab α1 Z1,cP κ aE Z0 H0 α1 Z1 ab ρ σ H1/\oi κ Φ α1 Z1 H1 (cQ (if t=true then ma ρ ab else mb ρ ab)) Q):=by
  refine⟨α,Z,S,?_⟩;cases q:cQ (mc ρ Ω) with
  | ok t ab=>
   rw[q]at g;exact fun H1 α1 Z1 g1 s1=>⟨ab,α1,Z1,S.grow g1 s1,oi.from g1 g⟩
  | exc x ab=>rw[q]at g;exact g
  | bad=>rw[q]at g;exact g.elim
 refine isTrue_IfExp (cu (hc aE Z0 H0 ρ Ω pins s σ H _ I key) fun v s1 ⟨H1,I1,ab,α1,Z1,S1,k1⟩ => ?_)
 cases v with
 | true=>rw[if_pos rfl]at k1;exact ha aE Z0 H0 ρ ab pins s1 σ H1 Q I1 ⟨α1,Z1,S1,k1⟩
 | false=>rw[if_neg Bool.false_ne_true]at k1;exact hb aE Z0 H0 ρ ab pins s1 σ H1 Q I1 ⟨α1,Z1,S1,k1⟩
def jM(op op':CmpOp)(ma mb mc:EM):EM:=fun ρ Ω=>(ma ρ Ω).bind fun x ab=>(mb ρ ab).bind fun y ao=>(cQ (cR op x y ao)).bind fun t aO=>if t=true then (mc ρ aO).bind fun z bR=>cR op' y z bR else .ok (.bl false) aO
theorem wK{op op':CmpOp}(S:cP κ aE Z0 H0 α Z Ω ρ σ H)(g:bQ κ Φ α Z H (jM op op' ma mb mc ρ Ω) Q) :
  qo (v5 op) (v5 op') (tO κ Φ aE Z0 H0 ma ρ Ω) (fun σ H Q=>∃ ab,tO κ Φ aE Z0 H0 mb ρ ab σ H Q) (fun σ H Q=>∃ ab,tO κ Φ aE Z0 H0 mc ρ ab σ H Q) σ H Q:=by
 refine⟨α,Z,S,bQ.use g fun x ab _ v H1 α1 Z1 g1 s1 r1 k1 => ?_⟩
 refine⟨ab,α1,Z1,S.grow g1 s1,bQ.use k1 fun y ao _ w H2 α2 Z2 g2 s2 r2 k2 => ?_⟩
 have S2:=(S.grow g1 s1).grow g2 s2;refine nE (op:=op) (κ:=κ) (Φ:=Φ) s2 (s1.dj g2 r1) r2 ?_;cases q:cR op x y ao with
 | ok d aO=>
  obtain⟨t,rfl⟩:=nH _ _ _ _ _ q;intro u H3 α3 Z3 g3 s3 r3;simp only[au]at r3;refine⟨t,r3,?_⟩;rw[q]at k2;have k3:bQ κ Φ α2 Z2 H2 (if t=true then (mc ρ aO).bind fun z bR=>cR op' y z bR else .ok (.bl false) aO) Q:=k2
  have k3:=bQ.from g3 k3
  cases t with
  | true=>
   rw[if_pos rfl]at k3 ⊢;refine⟨aO,α3,Z3,S2.grow g3 s3,bQ.use k3 fun z bR _ w' H4 Y5 Z4 g4 s4 r4 k4 => ?_⟩
   exact nE s4 (s3.dj g4 (s2.dj g3 r2)) r4 k4
  | false=>
   rw[if_neg Bool.false_ne_true]at k3 ⊢;exact bQ.ret s3 (aW rfl) k3
 | exc x aO=>rw[q]at k2;exact k2
 | bad=>rw[q]at k2;exact k2
theorem zz{op op':CmpOp}(hu:X.A.units + 64 < cLine)(hm:lastMarks [op,op'] [b,ce]=false)(ha:bu X κ Φ a ma)(hb:bu X κ Φ b mb)(hc:bu X κ Φ ce mc):bu X κ Φ (.Compare a [op,op'] [b,ce] pos) (jM op op' ma mb mc):=by
 intro aE Z0 H0 ρ Ω;refine PE.imp (vz (jc hu op) (jc hu op') (ha aE Z0 H0 ρ Ω) (PE.ex fun ab=>hb aE Z0 H0 ρ ab) (PE.ex fun ab=>hc aE Z0 H0 ρ ab) hm) ?_
 rintro σ H Q ⟨α,Z,S,g⟩;exact wK S g
theorem DA{op op':CmpOp}{d:D}{ak:aG}(h:jM op op' ma mb mc ρ Ω=.ok d ak):∃ t,d=.bl t:=by
 simp only[jM]at h;cases q1:ma ρ Ω with
 | ok x ab=>
  rw[q1]at h;dsimp only[ay.bind]at h
  cases q2:mb ρ ab with
  | ok y ao=>
   rw[q2]at h;dsimp only[ay.bind]at h
   cases q3:cQ (cR op x y ao) with
   | ok t aO=>
    rw[q3]at h;dsimp only[ay.bind]at h
    split at h
    ·cases q4:mc ρ aO with
     | ok z bR=>rw[q4]at h;exact nH _ _ _ _ _ h
     | exc _ _=>rw[q4]at h;cases h
     | bad=>rw[q4]at h;cases h
    ·cases h;exact⟨_,rfl⟩
   | exc _ _=>rw[q3]at h;cases h
   | bad=>rw[q3]at h;cases h
  | exc _ _=>rw[q2]at h;cases h
  | bad=>rw[q2]at h;cases h
 | exc _ _=>rw[q1]at h;cases h
 | bad=>rw[q1]at h;cases h
theorem zA{op op':CmpOp}(hu:X.A.units + 64 < cLine)(hm:lastMarks [op,op'] [b,ce]=false)(ha:bu X κ Φ a ma)(hb:bu X κ Φ b mb)(hc:bu X κ Φ ce mc):gy X κ Φ (.Compare a [op,op'] [b,ce] pos) (jM op op' ma mb mc):=by
 intro aE Z0 H0 ρ Ω;refine PT.imp (vA (jc hu op) (jc hu op') (ha aE Z0 H0 ρ Ω) (PE.ex fun ab=>hb aE Z0 H0 ρ ab) (PE.ex fun ab=>hc aE Z0 H0 ρ ab) hm) ?_
 rintro σ H Q ⟨α,Z,S,g⟩;refine wK S ?_;cases q:jM op op' ma mb mc ρ Ω with
 | ok d ab=>
  obtain⟨t,rfl⟩:=DA q;rw[q]at g;intro v H1 α1 Z1 g1 s1 r1;simp only[au]at r1;exact⟨t,r1,g H1 α1 Z1 g1 s1⟩
 | exc x ab=>rw[q]at g;exact g
 | bad=>rw[q]at g;exact g.elim
def bY(f:List D->Out Rs):List D->aG->ay D:=fun xs Ω=>match bB (eX Ω 8) xs with
 | some ds=>fP Ω (f ds)
 | none=>.bad
theorem iS{bw:Bool}{f:List D->Out Rs}{xs:List D}{vs:List V}(S:bH κ α Z Ω H)(hx:aJ (au α Z H) xs vs)(h:bQ κ Φ α Z H (bY f xs Ω) Q) :
  ∃ ds own d',aT (sR α Z) H ds vs/\f ds=.ok (own,d')/\∀ v H' Z',eJ (sR α Z) H Z' H'->d_ bw own Z' H H' d' v->Q v H':=by
 unfold bY at h;split at h
 ·rename_i ds hd
  obtain⟨own,d',e,k⟩:=iN (bw:=bw) S h;exact⟨ds,own,d',gx (eN (S:=Rep (sR α Z) H) (fun d d' v q r=>jU S 8 q r) hd hx),e,fun v H' Z' g q=>k v H' _ Z' g q⟩
 ·exact h.elim
theorem uE{k:Nat}{x:Str}{F:List D->Out Rs}(F0:G7 X k x F)(hr:cD k X.A)(hg:Gl X x)(hdb:(x == ("__debug__":Str))=false)
  (he:starEach (e::es) X.env=(false,eval e X.env)::starEach es X.env) (hpl:(backTo pos (starEach es X.env)).any (·.1)=false) (ha:qf X κ Φ (e::es) as) :
  bu X κ Φ (.Call (.Name x p) (e::es) [] pos) (mN (bY F) as):=by
 obtain⟨f,fd,ps,hm,hk,hb,F1⟩:=F0.ex;intro aE Z0 H0 ρ Ω;refine PE.imp (rY F1 hr hg hm hk hb .nil kq (ha aE Z0 H0 ρ Ω) hdb he hpl) ?_;rintro σ H Q ⟨α,Z,S,g⟩;refine⟨α,Z,S,pj.use g fun xs ab _ vs H1 α1 Z1 g1 s1 r1 k1 => ?_⟩
 show kE F (vs++[]) H1 Q E0
 rw[List.append_nil];obtain⟨ds,own,d',h1,h2,h3⟩:=iS (bw:=false) s1 r1 k1;exact⟨sR α1 Z1,ds,own,d',dM s1,h1,h2,h3⟩
end
end Mir
namespace L2
open PySem PySem.Spec PyProof.Rows PySem.W
section
variable{P:Program}{w:World}{K:PySem.W.Frag}{mg:Str->Option Value}{base:Heap}
end
end L2
namespace L2
open PySem PySem.Spec PyProof.Rows
def Hl(a:Addr)(o:Obj):It:=
 ⟨fun i H=>∃ kvs,H a=some (.dD o (.dK kvs))/\i < kvs.length,fun i H x H'=>H'=H/\∀ kvs,H a=some (.dD o (.dK kvs))->∃ kv,kvs[i]?=some kv/\x=kV kv.1,fun i H=>∃ kvs,H a=some (.dD o (.dK kvs))/\kvs.length<=i⟩
theorem fR{α β:Type}{F:α->β->Prop}:∀ {xs:List α} {us:List β} {i:Nat} {x:α},Paired F xs us->xs[i]?=some x->∃ u,us[i]?=some u/\F x u
 | _,_,_,_,.nil,e=>by simp at e
 | _,_,0,_,.cons r _,e=>by simp at e;subst e;exact⟨_,rfl,r⟩
 | _,_,i + 1,x,.cons _ t,e=>by
  obtain⟨u,h1,h2⟩:=fR (i:=i) (x:=x) t (by simpa using e)
  exact⟨u,by simpa using h1,h2⟩
theorem nI{k:Key}{u:Value}{P:Program}{w:World}(h:(bz P w).is k u=true):RelV (kV k) u:=by
 rcases bT (show kc k u=true from h) with ⟨i,t,rfl,rfl⟩ | ⟨x,t,rfl,rfl⟩
 ·exact⟨t,rfl⟩
 ·exact⟨t,rfl⟩
theorem jg{P:Program}{w:World}{H:Hp}{h:Heap}{a:Addr}{o:Obj}{kvs:List (Key×V)}{es:Array DictEntry}{ep:Nat}(ok:ic P w H h)(e:H a=some (.dD o (.dK kvs)))(hd:o.data=.dict es ep) :
  ∃ vs,KV kvs vs/\h.DictAt (bz P w) a vs ep/\es.size=vs.length/\(a == sysModules)=false:=by
 obtain⟨ho,_,lo,vs,r,o',es',ep',ho',x1,x2,x3,x4,x5⟩:=ok a _ e;rw[ho]at ho';cases ho'
 rw[hd]at x2;cases x2
 refine⟨vs,r,⟨o,es,ho,x1,hd,x3,x4,x5⟩,?_,lo⟩;rw[← x4.length];simp
theorem uF{P:Program}{w:World}{K:PySem.W.Frag}{tg:Expr}(a it:Addr){o:Obj}{es:Array DictEntry}{ep:Nat}(hd:o.data=.dict es ep):Turn P w K tg (Hl a o) [it] it (fun i h=>h.IsKeyIter it a i es.size ep) where
 mem:=by simp
 obj:=fun i h st b hb=>by
  have e:b=it:=by simpa using hb
  subst e;obtain⟨o,e,c,d⟩:=st;exact⟨o,e,fun v z=>by rw[d]at z;cases z⟩
 keep:=fun i h h' st k=>by
  obtain⟨o,e,c,d⟩:=st;exact⟨o,k it (by simp) o e,c,d⟩
 item:=by
  intro X hP hw hK hc i pins s σ H E I hf st hg;subst hP hw hK;obtain⟨kvs,hq,hx⟩:=hg;obtain⟨vs,r,da,hz,_⟩:=jg I.hok hq hd;have hx0:kvs[i]?=some kvs[i]:=List.getElem?_eq_getElem hx;obtain⟨q,hv,rq⟩:=fR r hx0;obtain⟨f0,f1,f2,f3,f4,f5⟩:=hf it (by simp)
  rw[hz]at st;refine wpAny_pyNext_dict_item st da (k:=q.1) (v:=q.2) hv fun key h' hk st' sb => ?_
  have I1:Inv X pins σ H { s with heap:=h' }:=I.turned (t':=s.toks) (fun b o hb e=>(sb.2 b hb).trans e) f0 f1 f3 f4 f5
  obtain⟨o1,e1,c1,d1⟩:=id st';refine⟨key,rfl,ow (s:={ s with heap:=h' }) e1 c1 d1 (by decide) ⟨kV q.1,H,I1,nI hk,⟨rfl,fun kvs' hq' => ?_⟩,by rw[hz];exact st',fun b hb=>(hf b hb).1⟩⟩
  rw[hq]at hq';cases hq'
  exact⟨kvs[i],hx0,by rw[rq.1]⟩
 done:=by
  intro X hP hw hK hc i pins s σ H E I hf st hg;subst hP hw hK;obtain⟨kvs,hq,hx⟩:=hg;obtain⟨vs,r,da,hz,_⟩:=jg I.hok hq hd;obtain⟨f0,f1,f2,f3,f4,f5⟩:=hf it (by simp)
  have hl:=r.length;rw[hz]at st;exact wpAny_pyNext_dict_end (I.ok.hd hc) st da (List.getElem?_eq_none (by omega)) fun h' eb=>⟨rfl,I.turned (t':=s.toks) (fun b o hb e=>eb b o hb e) f0 f1 f3 f4 f5⟩
 self:=fun _ _ _ _ _ st h=>wpAny_pyIter_keyiter st h
section
variable{X:Cx}{pins:List (Addr×Obj)}{σ:St}{H:Hp}{s:Shared}
theorem Inv.sX{a:Addr}{kvs:List (Key×V)}(I:Inv X pins σ H s)(e:H a=some (.dK kvs)):∃ o es ep,s.heap.get? a=some o/\o.data=.dict es ep/\Inv X pins σ (upd H a (.dD o (.dK kvs))) s:=by
 obtain⟨z,lo,vs,r,o,es,ep,ho,x1,x2,x3,x4,x5⟩:=I.hok a _ e;refine⟨o,es,ep,ho,x2,?_⟩;have:=ng (t':=s.toks) (h':=s.heap) (ob:=.dD o (.dK kvs)) I (by rw[e];exact True.intro) ⟨rfl,fun _ _=>rfl⟩ ⟨o,ho⟩ ⟨ho,z,lo,vs,r,o,es,ep,ho,x1,x2,x3,x4,x5⟩
 exact this
def Hm(R:It->Hp->Prop)(x:V)(H1:Hp):Prop:=∃ a kvs,x=.ref a/\((H1 a=some (.dK kvs)/\∀ o,R (Hl a o) (upd H1 a (.dD o (.dK kvs))))\/∃ o,H1 a=some (.dD o (.dK kvs))/\R (Hl a o) H1)
theorem zB{tg:Expr}{x:V}{u:Value}{R:It->Hp->Prop}(I1:Inv X pins σ H s)(r1:RelV x u)(q:Hm R x H):wpAny (model X.prog X.w) X.A (pyIter u) (PIE X pins σ tg R) X.xe s:=by
 obtain⟨a,kvs,rfl,q⟩:=q;cases (show u=Value.ref a from r1)
 have main:∀ (o:Obj) (es:Array DictEntry) (ep:Nat) (H2:Hp),Inv X pins σ H2 s->H2 a=some (.dD o (.dK kvs))->o.data=.dict es ep->R (Hl a o) H2->wpAny (model X.prog X.w) X.A (pyIter (.ref a)) (PIE X pins σ tg R) X.xe s:=by
  intro o es ep H2 I2 e2 hd hR;obtain⟨vs,r,da,hz,lo⟩:=jg I2.hok e2 hd;refine wpAny_pyIter_dict lo da ?_;have I3:Inv X pins σ H2 { s with heap:=s.heap.push { cls:=.type "dict_keyiterator",data:=.fields #[.ref a,.int 0 0,.int vs.length 0,.int ep 0] } }:=I2.kept (t':=s.toks) fun b o q=>Heap.get?_push_of_some _ q
  refine⟨s.heap.objs.size,[s.heap.objs.size],_,_,H2,rfl,I3,uF a _ hd,?_,fun b hb => ?_,hR⟩
  ·rw[hz]
   exact⟨{ cls:=.type "dict_keyiterator",data:=.fields #[.ref a,.int 0 0,.int vs.length 0,.int ep 0] },Heap.get?_push_size _ rfl,rfl,rfl⟩
  ·have z:b=s.heap.objs.size:=by simpa using hb
   rw[z];have:=I2.t8 (b:=s.heap.objs.size) (Nat.le_refl _) (I2.hok.fresh (Nat.le_refl _));exact this
 rcases q with ⟨e1,hR⟩ | ⟨o,e1,hR⟩
 ·obtain⟨o,es,ep,ho,hd,I2⟩:=I1.sX e1
  exact main o es ep _ I2 aS hd (hR o)
 ·obtain⟨ho,_,lo,vs,r,o',es,ep,ho',x1,x2,x3⟩:=I1.hok a _ e1
  rw[ho]at ho';cases ho'
  exact main o es ep _ I1 e1 x2 hR
end
section
variable{prog:Program}{w:World}{A:Around}{E:Value->Shared->Prop}{s:Shared}
theorem uG{a:Addr}{Q:Bool->Shared->Prop}(hT:s.TypeIs (.ref a) "dict")(h:Q false s):wpAny (model prog w) A (Builtin.List.listLengthHint (.ref a)) Q E s:=by
 unfold Builtin.List.listLengthHint;refine wpAny_bind (wpAny_specialOf hT F.slot_dict_len.lookup ?_);generalize hid:("dict.__len__":String)=id0
 wp_delta
 rw[show splitId id0=some ("dict","__len__") from by subst hid;decide +kernel]
 subst hid;refine wpAny_bind (wpAny_isInstance (T:="dict") (b:=true) hT isSubtype_dict_dict ?_);refine wpAny_ite_split (fun hab=>absurd hab (by decide)) (fun _ => ?_)
 refine wpAny_ite_split (fun _ => ?_) (fun hab=>absurd (by decide +kernel) hab)
 refine wpAny_bind (wpAny_typeOf hT ?_);exact wpAny_pure h
theorem nJ{a:Addr}{o:Obj}{xs:Array Value}{k:Nat}{Q:Option Value->Shared->Prop}(hx:s.heap.get? a=some o)(hc:o.cls=.type "list")(hdat:o.data=.seq xs k)(hd:o.dict=none)(hA:A.handled=none)
  (h:∀ h' tk,(∀ b o,s.heap.get? b=some o->h'.get? b=some o)->Q none { s with heap:=h',toks:=tk }):wpAny (model prog w) A (getAttr? (.ref a) "keys") Q E s:=by
 obtain⟨c,dct,dat,sl⟩:=o;simp only at hc hdat hd;subst hc hdat hd;obtain⟨hp,g,d,tk,os⟩:=s;have hT:∀ tk',(⟨hp,g,d,tk',os⟩:Shared).TypeIs (.ref a) "list":=fun _=>⟨_,hx,rfl⟩
 have f1:=sub_AttributeError;have f3:=F.slot_list_getattribute.lookup;have f4:=F.slot_list_getattribute.bind (.ref a);have f5:=am_list_getattr_none;have hmiss:typeLookup (.type "list") "keys"=pure none:=am_miss_of_fast (by kernel_rfl)
 unfold getAttr? getAttrBy? getAttrBy
 repeat (any_goals (first | assumption | exact hT _ | ((with_reducible show wpAny _ _ (call (Value.builtin "list.__getattribute__") _ _) _ _ _);refine call_meets F.slot_list_getattribute (hT _) am_entry_list_getattribute (F.args_list_getattribute_2 _ _) (meets_getattribute_miss_list a xs k sl "keys" _ hmiss (by decide) (by decide)) ⟨hx,hA,fun h' tk' e hx' => ?_⟩) | wp_step))
 obtain⟨t',u',he⟩:=hx'.there
 show wpAny _ _ (getattributeRaised _ _ _ _ _ _ _) _ _ _
 unfold getattributeRaised
 repeat (any_goals (first | assumption | wp_step))
 exact h _ _ fun b o e=>hx'.keeps b o e
theorem cS:plainId "dict.update.loop"=true:=by decide +kernel
theorem fc:entryFor table "dict.update.loop"=some Builtin.«dict.update.loop» := entryFor_of_fast (by kernel_rfl)
variable{K:Type}[DecidableEq K]{knd:KeyKind prog w K}
theorem kM{α β:Type}{F G:α->β->Prop}(h:∀ a b,F a b->G a b):∀ {xs:List α} {us:List β},Paired F xs us->Paired G xs us
 | _,_,.nil=>.nil
 | _,_,.cons r t=>.cons (h _ _ r) (kM h t)
def kN(knd:KeyKind prog w K)(h:Heap)(p:K×Value)(u:Value):Prop:=∃ b o key n,u=.ref b/\h.get? b=some o/\o.cls=.type "tuple"/\o.data=.seq #[key,p.2] n/\knd.is p.1 key=true
theorem pz{R:Result->Shared->Prop}{l it d:Addr}{items:List Value}{h₀:Heap}(hh:A.handled=none)(hdi:d≠it)(Tp:l≠d)(hli:l≠it)(hl:h₀.IsList l items.toArray)(res:Value)(hcd:∀ o,h₀.get? d=some o->o.cls≠.type "tuple")(Wq:∀ o,h₀.get? it=some o->o.cls≠.type "tuple") :
  ∀ (ps:List (K×Value)) (i:Nat) (t:Tok) (s:Shared) (acc:List (K×Value)),Paired (kN knd h₀) ps (items.drop i)->acc.length + ps.length<=sizeLine->(∀ b o,b≠d->b≠it->h₀.get? b=some o->s.heap.get? b=some o)->s.heap.IsListIter it l i->s.heap.DictOf knd d acc ->
  (∀ h' tk,(∀ b o,b≠d->b≠it->s.heap.get? b=some o->h'.get? b=some o)->h'.DictOf knd d (ps.foldl (fun a p=>stored a p.1 p.2) acc)->R (.ok (.ret res)) { s with heap:=h',toks:=tk }) ->
  codeAny (model prog w) A (.builtin "dict.update.loop" ⟨[.ref d,.ref it,.int i t,res],[]⟩) R s:=by
 intro ps
 induction ps with
 | nil=>
  intro i t s acc hp hn hk hit hd hR;refine codeAny_builtin fc ?_;rw[Around.under_plainId cS _];have hx:items.drop i=[]:=by generalize items.drop i=q at hp;cases hp;rfl
  have hl':s.heap.IsList l items.toArray:=let ⟨o,ho,r⟩:=hl;⟨o,hk l o Tp hli ho,r⟩
  show wpAny _ A.in1 (pyNext (.ref it) >>= _) _ _ s
  refine wpAny_bind (wpAny_pyNext_list_end hh hit hl' (by simpa using List.drop_eq_nil_iff.mp hx) fun h' eb => ?_)
  show wpAny _ _ (Builtin.Dict.addKeywords d [] >>= _) _ _ _
  exact wpAny_bind (wpAny_pure (wpAny_pure (hR h' s.toks (fun b o _ h2 e=>eb b o h2 e) (hd.extBut eb hdi))))
 | cons p ps ih=>
  intro i t s acc hp hn hk hit hd hR
  have hx:∃ u r,items.drop i=u::r/\kN knd h₀ p u/\Paired (kN knd h₀) ps r:=by
   generalize items.drop i=q at hp;cases hp with | cons a b=>exact⟨_,_,rfl,a,b⟩
  obtain⟨u,r,hx,⟨b,o,key,n,rfl,ho,hc,hdat,hkey⟩,hp'⟩:=hx
  have hi:items[i]?=some (.ref b):=by
   have:=congrArg (·[0]?) hx;simpa using this
  have hr:items.drop (i + 1)=r:=by rw[← List.drop_drop,hx];rfl
  have hl':s.heap.IsList l items.toArray:=let ⟨o,ho,r⟩:=hl;⟨o,hk l o Tp hli ho,r⟩
  have hbd:b≠d:=fun e=>hcd o (e▸ho) hc
  have hbi:b≠it:=fun e=>Wq o (e▸ho) hc
  refine codeAny_builtin fc ?_;rw[Around.under_plainId cS _]
  show wpAny _ A.in1 (pyNext (.ref it) >>= _) _ _ s
  refine wpAny_bind (wpAny_pyNext_list_item hit hl' (x:=.ref b) (by simpa using hi) fun h1 hit1 Ou => ?_)
  have ho1:h1.get? b=some o:=(Ou.2 b hbi).trans (hk b o hbd hbi ho);have hd1:h1.DictOf knd d acc:=hd.extBut Ou.extBut hdi;refine wpAny_bind (wpAny_holding (wpAny_bind (wpAny_tryCatch ?_)));unfold Builtin.Dict.pairItems;refine wpAny_bind (wpAny_typeOf (T:="tuple") ⟨o,ho1,hc⟩ ?_);rw[if_pos (by decide)]
  unfold seqItems?;refine wpAny_bind (wpAny_bind (wpAny_load ho1 ?_));rw[hdat];refine wpAny_pure (wpAny_pure ?_)
  show wpAny _ _ (holding [key,p.2] (dictSet d key p.2)) _ _ _
  refine wpAny_holding (wpAny_dictSet_pairs hkey hd1 (fun h2 hd2 Tq => ?_) (by simp at hn;omega))
  refine wpAny_pure ⟨plainId_quiet cS _,?_⟩;have keep:∀ b' o',b'≠d->b'≠it->s.heap.get? b'=some o'->h2.get? b'=some o':=fun b' o' h3 h4 e=>(Tq.2 b' h3).trans ((Ou.2 b' h4).trans e)
  show codeAny _ _ (.builtin "dict.update.loop" ⟨[.ref d,.ref it,rawInt ((i:Int) + 1),res],[]⟩) _ _
  have:=ih (i + 1) 0 { s with heap:=h2,toks:=s.toks + 1 } (stored acc p.1 p.2) (by rw[hr];exact hp') (by have:=stored_length_le acc p.1 p.2;simp at hn;omega) (fun b' o' h3 h4 e=>keep b' o' h3 h4 (hk b' o' h3 h4 e)) (hit1.at fun o e=>(Tq.2 it (Ne.symm hdi)).trans e) hd2 (fun h' tk hk' hd'=>hR h' tk (fun b' o' h3 h4 e=>hk' b' o' h3 h4 (keep b' o' h3 h4 e)) hd')
  exact this
theorem kO{l:Addr}{o:Obj}{items:List Value}{n:Nat}{ps:List (K×Value)}{Q:Value->Shared->Prop}(hh:A.handled=none)(ho:s.heap.get? l=some o)(hc:o.cls=.type "list")(hdat:o.data=.seq items.toArray n)(hd:o.dict=none)(hp:Paired (kN knd s.heap) ps items)(hsz:ps.length<=sizeLine)
  (h:∀ h' tk,(∀ b o,s.heap.get? b=some o->h'.get? b=some o)->h'.DictOf knd s.heap.objs.size (ps.foldl (fun a p=>stored a p.1 p.2) [])->Q (.ref s.heap.objs.size) { s with heap:=h',toks:=tk }) :
  wpAny (model prog w) A (call (.type "dict") [.ref l]) Q E s:=by
 refine callType_codes (Q₁:=fun obj s₁=>obj=.ref s.heap.objs.size/\s₁={ s with heap:=s.heap.push { cls:=.type "dict",data:=.dict #[] } }) F.kt_called_dict (F.kt_typeCall_dict_1 _) F.entry_dict_init (kt_code_dict_new _ ⟨rfl,rfl⟩) ?_
 rintro obj s₁ ⟨rfl,rfl⟩;have hnew:(s.heap.push { cls:=.type "dict",data:=.dict #[] }).DictOf knd s.heap.objs.size []:=Heap.DictOf.new s.heap;have ho':=Heap.get?_push_of_some { cls:=.type "dict",data:=.dict #[] } ho;refine⟨hnew.typeIs,F.args_dict_init_2 _ _,?_⟩;unfold Builtin.«dict.__init__»;refine wpAny_bind ?_;unfold Builtin.Dict.selfAndRest;refine wpAny_bind (wpAny_notOrdered_dict hnew.typeIs ?_)
 show wpAny _ _ (pure (s.heap.objs.size,[Value.ref l])) _ _ _
 refine wpAny_pure ?_
 show wpAny _ _ (Builtin.Dict.updateFrom "dict.__init__" s.heap.objs.size (.ref l) [] .none) _ _ _
 unfold Builtin.Dict.updateFrom;refine wpAny_bind (wpAny_typeOf (T:="list") ⟨o,ho',hc⟩ ?_);rw[if_pos (by decide)]
 refine wpAny_bind (nJ (A:=A.in1.in1) ho' hc hdat hd hh fun h1 tk k1 => ?_)
 rw[if_pos (by decide)]
 refine wpAny_bind (wpAny_rule ?_);have hl1:h1.IsList l items.toArray:=⟨o,k1 l o ho',hc,n,hdat⟩;refine wpAny_bind (wpAny_pyIter_list (s:={ s with heap:=h1,toks:=tk }) hl1 ?_);refine wpAny_pure ⟨plainId_quiet cS _,?_⟩;have kp:∀ b o,s.heap.get? b=some o->h1.get? b=some o:=fun b o e=>k1 b o (Heap.get?_push_of_some _ e)
 have hd1:h1.DictOf knd s.heap.objs.size []:=let ⟨o,es,ep,e,r⟩:=hnew;⟨o,es,ep,k1 _ o e,r⟩
 have hlt:s.heap.objs.size < h1.objs.size:=let ⟨o,_,_,e,_⟩:=hd1;Heap.lt_size e
 have hll:l < s.heap.objs.size:=Heap.lt_size ho;generalize hq:h1.push { cls:=Value.type "list_iterator",data:=.fields #[.ref l,.int 0 0] }=h2;have k2:∀ b o,h1.get? b=some o->h2.get? b=some o:=fun b o e=>by rw[← hq];exact Heap.get?_push_of_some _ e
 have hit:h2.IsListIter h1.objs.size l 0:=by rw[← hq];exact⟨_,Heap.get?_push_size _ rfl,rfl,rfl⟩
 have hd2:h2.DictOf knd s.heap.objs.size []:=let ⟨o,es,ep,e,r⟩:=hd1;⟨o,es,ep,k2 _ o e,r⟩
 have key:=pz (A:=A.in1) (R:=wants (fun r s₂=>r=Value.none/\Q (Value.ref s.heap.objs.size) s₂) E) (knd:=knd) (h₀:=h2) (l:=l) (it:=h1.objs.size) (d:=s.heap.objs.size) (items:=items) hh (Nat.ne_of_lt hlt) (Nat.ne_of_lt hll) (Nat.ne_of_lt (Nat.lt_trans hll hlt))
  (let ⟨o,e,r⟩:=hl1;⟨o,k2 _ o e,r⟩) .none (fun o e=>by
   obtain⟨o',es,ep,e',hc',_⟩:=hd2;rw[e]at e';cases e'
   rw[hc'.1];decide) (fun o e=>by
   obtain⟨o',e',hc',_⟩:=hit;rw[e]at e';cases e'
   rw[hc'];decide) ps 0 0 { s with heap:=h2,toks:=tk } [] (by
   rw[List.drop_zero]
   exact kM (fun p u Ol=>by
    obtain⟨b,o,key,n,e1,e2,r⟩:=Ol;exact⟨b,o,key,n,e1,k2 _ _ (kp _ _ e2),r⟩) hp) (by simpa using hsz) (fun b o _ _ e=>e) hit hd2 (fun h' tk' hk' hd' => ?_)
 ·exact key
 ·refine⟨rfl,h h' tk' (fun b o e=>hk' b o ?_ ?_ (k2 _ _ (kp _ _ e))) hd'⟩
  ·exact Nat.ne_of_lt (Heap.lt_size e)
  ·exact Nat.ne_of_lt (Nat.lt_trans (Heap.lt_size e) hlt)
theorem kP{a:Addr}{kvs:List (K×Value)}{ep:Nat}{Q:Value->Shared->Prop}(hh:A.handled=none)(lo:(a == sysModules)=false)(da:s.heap.DictAt knd a kvs ep)(hn:kvs.length<=sizeLine)
  (hQ:∀ h' tk acc' c',(∀ b o,s.heap.get? b=some o->h'.get? b=some o)->h'.get? s.heap.objs.size=some { cls:=.type "list",dict:=none,data:=.seq acc' c',slots := #[] }->ItemsOf (fun i v=>∃ k x,kvs[i]?=some (k,x)/\knd.is k v=true) acc' kvs.length->Q (.ref s.heap.objs.size) { s with heap:=h',toks:=tk }) :
  wpAny (model prog w) A (call (.type "list") [.ref a]) Q E s:=by
 refine callType_codes (Q₁:=fun obj s₁=>obj=.ref s.heap.objs.size/\s₁={ s with heap:=s.heap.push { cls:=.type "list",data:=.seq #[] } }) F.called_list (F.typeCall_list_1 _) F.entry_list_init
  (code_list_new _ ⟨rfl,rfl⟩) fun obj s₁ h₁ => ?_
 obtain⟨rfl,rfl⟩:=h₁;generalize hS0:s.heap.objs.size=S;have hS:(s.heap.push { cls:=.type "list",data:=.seq #[] }).get? S=some { cls:=.type "list",data:=.seq #[] }:=by rw[← hS0];exact Heap.get?_push_size _ rfl
 refine⟨⟨_,hS,rfl⟩,F.args_list_init_2 _ _,?_⟩
 show wpAny _ A.in1.in1 (do let old ← Builtin.List.listItems (.ref S);Builtin.List.listUpdate (.ref S) (fun _ => #[]);letGo old.toList.reverse;Builtin.List.listExtendWith (.ref S) (.ref a) .none) _ _ _
 refine wpAny_bind ?_;unfold Builtin.List.listItems;refine wpAny_bind (wpAny_seqItems hS rfl (wpAny_pure ?_))
 show wpAny _ _ (updateSeq S (fun _ => #[]) >>= fun _=>letGo (#[]:Array Value).toList.reverse >>= fun _=>Builtin.List.listExtendWith (.ref S) (.ref a) .none) _ _ _
 refine wpAny_bind (wpAny_updateSeq hS rfl ?_);have hS₂:=Heap.get?_update_self (Obj.mapSeq (fun _=>(#[]:Array Value))) hS rfl
 have Ov:S≠a:=fun e=>by
  obtain⟨o,es,ho,_⟩:=da;exact Nat.lt_irrefl _ ((e▸hS0)▸Heap.lt_size ho)
 refine wpAny_bind (wpAny_letGo ?_);generalize hh1:(s.heap.push { cls:=.type "list",data:=.seq #[] }).update S (Obj.mapSeq (fun _=>(#[]:Array Value)))=h1 at hS₂
 have k1:∀ b o,s.heap.get? b=some o->h1.get? b=some o:=fun b o e=>by
  rw[← hh1];exact(Heap.get?_update_other _ _ (fun z=>Nat.lt_irrefl _ ((z▸hS0)▸Heap.lt_size e))).trans (Heap.get?_push_of_some _ e)
 have FZ:h1.DictAt knd a kvs ep:=da.at' fun o e=>k1 a o e
 have hT1:({ s with heap:=h1 }:Shared).TypeIs (.ref a) "dict":=let ⟨o,_,ho,hc,_⟩:=FZ;⟨o,ho,hc.1⟩
 show wpAny _ _ (Builtin.List.listExtendWith (.ref S) (.ref a) .none) _ _ { s with heap:=h1 }
 unfold Builtin.List.listExtendWith;refine wpAny_bind (wpAny_typeOf hT1 ?_);have h1':Builtin.List.listSameRef (.ref S) (.ref a)=false:=by simp[Builtin.List.listSameRef,Ov]
 have h2':(Value.type "dict" == Value.type "list")=false:=by decide
 have h3':(Value.type "dict" == Value.type "tuple")=false:=by decide
 simp only[h1',h2',h3',Bool.or_false,Bool.false_eq_true,if_false];refine wpAny_bind (wpAny_pyIter_dict lo FZ ?_);generalize Ts:h1.push { cls:=.type "dict_keyiterator",data:=.fields #[.ref a,.int 0 0,.int kvs.length 0,.int ep 0] }=h2;have k2:∀ b o,h1.get? b=some o->h2.get? b=some o:=fun b o e=>by rw[← Ts];exact Heap.get?_push_of_some _ e
 have hit:h2.IsKeyIter h1.objs.size a 0 kvs.length ep:=by rw[← Ts];exact⟨_,Heap.get?_push_size _ rfl,rfl,rfl⟩
 have Tt:h2.DictAt knd a kvs ep:=FZ.at' fun o e=>k2 a o e
 have hT2:({ s with heap:=h2 }:Shared).TypeIs (.ref a) "dict":=let ⟨o,_,ho,hc,_⟩:=Tt;⟨o,ho,hc.1⟩
 refine wpAny_bind (wpAny_holding (uG (s:={ s with heap:=h2 }) hT2 ?_));refine wpAny_ite_split (fun _ => ?_) (fun hab=>absurd (by decide) hab)
 refine wpAny_bind (wpAny_rule ?_);refine wpAny_bind ?_
 show wpAny _ _ (updateSeq S (·.push .none) >>= fun _=>updateSeq S (·.pop)) _ _ _
 refine wpAny_bind (wpAny_updateSeq (k2 _ _ hS₂) rfl ?_);have hS₃:=Heap.get?_update_self (Obj.mapSeq (·.push Value.none)) (k2 _ _ hS₂) rfl;refine wpAny_updateSeq (hz:=by seq_fits) hS₃ rfl ?_
 have hS₄:=Heap.get?_update_self (Obj.mapSeq (·.pop)) hS₃ rfl;refine wpAny_pure ⟨plainId_quiet F.plain_extend_loop _,?_⟩;generalize hh3:(h2.update S (Obj.mapSeq (·.push Value.none))).update S (Obj.mapSeq (·.pop))=h3 at hS₄
 have k3:∀ b o,b≠S->h2.get? b=some o->h3.get? b=some o:=fun b o hb e=>by
  rw[← hh3];exact(Heap.get?_update_other _ _ (Ne.symm hb)).trans ((Heap.get?_update_other _ _ (Ne.symm hb)).trans e)
 have hla:a < h1.objs.size:=let ⟨o,_,ho,_⟩:=FZ;Heap.lt_size ho
 have hlS:S < h1.objs.size:=Heap.lt_size hS₂;have W:=(Walks.dictKeys (prog:=prog) (w:=w) (A:=A.in1.in1) (knd:=knd) hh h1.objs.size a (Nat.ne_of_lt hla) kvs ep).toS;refine codeAny_extend_loopS W hn S (fun hm => ?_) .none kvs.length 0 _ #[] _ rfl (Nat.zero_le _) ⟨hit.at fun o e=>k3 _ o (Ne.symm (Nat.ne_of_lt hlS)) e,Tt.at' fun o e=>k3 _ o (Ne.symm Ov) e⟩ hS₄ (ItemsOf.nil _) fun s' acc' c' hm hS' hacc => ?_
 ·rcases List.mem_cons.mp hm with e | e
  ·exact Nat.ne_of_lt hlS e
  ·exact Ov (by simpa using e)
 ·rw[Moved.eq_with hm]at hS' ⊢
  refine⟨rfl,?_⟩;have:=hQ s'.heap s'.toks acc' c' (fun b o e=>hm.heap b o (fun hmem => ?_) (k3 _ _ (fun z=>Nat.lt_irrefl _ ((z▸hS0)▸Heap.lt_size e)) (k2 _ _ (k1 _ _ e)))) (by rw[hS0];exact hS') hacc
  ·rw[hS0]at this;exact this
  ·have hb:=Heap.lt_size e
   rcases List.mem_cons.mp hmem with e' | e'
   ·rw[e',← hS0]at hb;exact Nat.lt_irrefl _ hb
   ·have e':b=h1.objs.size:=by simpa using e'
    rw[e',hS0]at hb;exact Nat.lt_irrefl _ (Nat.lt_trans hb hlS)
end
section
variable{X:Cx}
theorem zC{vs:List V}{acc:Array Value}{P:Nat->Value->Prop}(h:ItemsOf P acc vs.length)(hP:∀ (i:Nat) (u:Value) (v:V),P i u->vs[i]?=some v->RelV v u):Vals vs acc.toList:=by
 have key:∀ (l:List Value) (vs:List V),l.length=vs.length->(∀ (i:Nat) (u:Value) (v:V),l[i]?=some u->vs[i]?=some v->RelV v u)->Vals vs l:=by
  intro l
  induction l with
  | nil=>intro vs h _;cases vs with | nil=>exact .nil | cons a b=>simp at h
  | cons u l ih=>
   intro vs h hr;cases vs with
   | nil=>simp at h
   | cons v vs=>exact .cons (hr 0 u v rfl rfl) (ih vs (by simpa using h) fun i u' v' h1 h2=>hr (i + 1) u' v' (by simpa using h1) (by simpa using h2))
 exact key _ _ (by rw[Array.length_toList,h.1]) fun i u v h1 h2=>hP i u v (h.2 i u (by simpa using h1)) h2
theorem qV(hc:X.calm=true):di X (.type "list") (fun xs H Q=>∃ a kvs,xs=[V.ref a]/\Rd H a (.dK kvs)/\∀ l,H l=none->Q (.ref l) (upd H l (.lst (kvs.map fun kv=>kV kv.1)))):=by
 intro pins s σ H xs us Q I r h;obtain⟨a,kvs,rfl,ha,q⟩:=h;obtain⟨u,rfl,ru⟩:=vals1 r;cases ru;obtain⟨z,lo,vs,rel,dd⟩:=iI I.hok ha;obtain⟨o,es,ep,d1,d2,d3,d4⟩:=dd;have hl:=rel.length;refine kP (knd:=bz X.prog X.w) (kvs:=vs) (ep:=ep) (I.ok.hd hc) lo ⟨o,es,d1,d2,d3,d4⟩ (by omega) fun h' tk acc' c' kp e it => ?_
 have rv:Vals (kvs.map fun kv=>kV kv.1) acc'.toList:=zC (P:=fun i v=>∃ k x,vs[i]?=some (k,x)/\(bz X.prog X.w).is k v=true) (by rw[List.length_map,← hl]at *;exact it) fun i u v hp hv=>by
  obtain⟨k,x,h1,h2⟩:=hp
  have hi:∃ kv,kvs[i]?=some kv/\v=kV kv.1:=by
   rw[List.getElem?_map]at hv;cases hk:kvs[i]? with
   | none=>rw[hk]at hv;cases hv
   | some kv=>rw[hk]at hv;cases hv;exact⟨kv,rfl,rfl⟩
  obtain⟨kv,h3,rfl⟩:=hi;obtain⟨q',h4,h5⟩:=fR rel h3;rw[h1]at h4;cases h4
  rw[h5.1];exact nI h2
 exact⟨.ref s.heap.objs.size,_,I.laid kp (Nat.le_refl _) (show bJ X.prog X.w _ h' _ (.lst _) from⟨by simpa using z,acc'.toList,c',rv,by simpa using e⟩),rfl,q _ (I.hok.fresh (Nat.le_refl _))⟩
theorem qW:di X (.type "dict") (fun xs H Q=>∃ a kvs,xs=[V.ref a]/\Rd H a (.dK kvs)/\∀ l,H l=none->Q (.ref l) (upd H l (.dK kvs))):=by
 intro pins s σ H xs us Q I r h;obtain⟨a,kvs,rfl,ha,q⟩:=h;obtain⟨u,rfl,ru⟩:=vals1 r;cases ru;obtain⟨z,lo,vs,rel,dd⟩:=iI I.hok ha;have hl:=rel.length;refine kt_call_dict (knd:=bz X.prog X.w) lo dd (by omega) fun h' FY sb => ?_
 have hne:∀ b o,s.heap.get? b=some o->h'.get? b=some o:=fun b o e=>(sb.2 b (Nat.ne_of_lt (Heap.lt_size e))).trans (Heap.get?_push_of_some _ e)
 have big:(s.heap.objs.size == sysModules)=false:=beq_eq_false_iff_ne.mpr (Ne.symm (Nat.ne_of_lt I.big));exact⟨.ref s.heap.objs.size,_,I.laid (t':=s.toks) hne (Nat.le_refl _) (qE z big rel FY),rfl,q _ (I.hok.fresh (Nat.le_refl _))⟩
theorem qX(hc:X.calm=true):di X (.type "dict") (fun xs H Q=>∃ a ys ps,xs=[V.ref a]/\Rd H a (.lst ys)/\Paired (fun (p:Key×V) (y:V)=>∃ b,y=.ref b/\Rd H b (.tup [kV p.1,p.2])) ps ys/\∀ l,H l=none->Q (.ref l) (upd H l (.dK (ps.foldl (fun a p=>putK a p.1 p.2) [])))):=by
 intro pins s σ H xs us Q I r h;obtain⟨a,ys,ps,rfl,ha,hp,q⟩:=h;obtain⟨u,rfl,ru⟩:=vals1 r;cases ru;obtain⟨its,rv,⟨o,n,ho,hcl,hdi,hdat⟩,hz⟩:=I.list (.inl ha)
 have key:∀ {ps:List (Key×V)} {ys:List V} {its:List Value},Paired (fun (p:Key×V) (y:V)=>∃ b,y=.ref b/\Rd H b (.tup [kV p.1,p.2])) ps ys->Vals ys its->∃ vs,KV ps vs/\Paired (kN (bz X.prog X.w) s.heap) vs its:=by
  intro ps ys its hp rv
  induction hp generalizing its with
  | nil=>cases rv;exact⟨[],.nil,.nil⟩
  | @cons p y ps ys hq _ ih=>
   cases rv with
   | @cons _ u _ us ru rv=>
    obtain⟨vs,h1,h2⟩:=ih rv;obtain⟨b,rfl,hb⟩:=hq;cases (show u=Value.ref b from ru)
    obtain⟨_,its',r',o',e1,e2,n',e3⟩:=(show bJ X.prog X.w H s.heap b (.tup [kV p.1,p.2]) from vO I.hok hb)
    cases r' with
    | @cons _ k' _ r1 rk r'=>
     cases r' with
     | @cons _ v' _ r2 p_ r'=>
      cases r' with
      | nil=>exact⟨(p.1,v')::vs,.cons ⟨rfl,p_⟩ h1,.cons ⟨b,o',k',n',rfl,e1,e2,e3,lZ rk⟩ h2⟩
 obtain⟨vs,h1,h2⟩:=key hp rv;have hl:=h1.length;have hl2:=Paired.length hp;refine kO (knd:=bz X.prog X.w) (I.ok.hd hc) ho hcl hdat hdi h2 (by omega) fun h' tk kp dd => ?_
 have hf:∀ {ps:List (Key×V)} {vs:List (Key×Value)} (acc:List (Key×V)) (acc':List (Key×Value)),KV acc acc'->KV ps vs->KV (ps.foldl (fun a p=>putK a p.1 p.2) acc) (vs.foldl (fun a p=>stored a p.1 p.2) acc'):=by
  intro ps vs acc acc' ra r
  induction r generalizing acc acc' with
  | nil=>exact ra
  | @cons p q ps vs hq _ ih=>
   simp only[List.foldl_cons];refine ih _ _ ?_;rw[← hq.1];exact ra.put p.1 hq.2
 have hlen:∀ (ps:List (Key×V)) (acc:List (Key×V)),(ps.foldl (fun a p=>putK a p.1 p.2) acc).length<=acc.length + ps.length:=by
  intro ps
  induction ps with
  | nil=>intro acc;simp
  | cons p ps ih=>
   intro acc;have h1:=ih (putK acc p.1 p.2);have h2:=gu acc p.1 p.2;simp only[List.foldl_cons,List.length_cons]at h1 ⊢;omega
 have hz2:(ps.foldl (fun a p=>putK a p.1 p.2) []).length<=sizeLine:=by
  have:=hlen ps [];simp at this;omega
 exact⟨.ref s.heap.objs.size,_,I.laid kp (Nat.le_refl _) (qE hz2 (beq_eq_false_iff_ne.mpr (Ne.symm (Nat.ne_of_lt I.big))) (hf _ _ .nil h1) dd),rfl,q _ (I.hok.fresh (Nat.le_refl _))⟩
end
end L2
namespace Mir
open PySem PySem.Spec PyProof.Rows L2
section
variable{X:Cx}{tg e:Expr}
def Hn(K:PySem.W.Frag)(tl:TE):TI:=fun σ H R=>tl σ H fun x H1=>(∃ a xs,x=.ref a/\Rd H1 a (.lst xs)/\R (N1 K a) H1)\/(∃ a xs,x=.ref a/\Rd H1 a (.tup xs)/\R (N2 K a) H1)\/(∃ y,x=.str y/\R (Tf y) H1)\/Hm R x H1
theorem zD{tl:TE}(hl:PE X e tl):PI X tg e (Hn X.K tl):=by
 intro pins s σ H R I h;refine cu (hl pins s σ H _ I h) fun v s1 ⟨x,H1,I1,r1,q1⟩ => ?_
 have fp:∀ b∈[s1.heap.objs.size],lH X pins H1 b:=fun b hb=>by
  obtain rfl:b=s1.heap.objs.size:=by simpa using hb
  exact I1.t8 (Nat.le_refl _) (I1.hok.fresh (Nat.le_refl _))
 rcases q1 with ⟨a,xs,rfl,hq,q⟩ | ⟨a,xs,rfl,hq,q⟩ | ⟨y,rfl,q⟩ | q
 ·cases r1
  obtain⟨its,rv,pl,hz⟩:=I1.list (kx (K:=X.K) hq);refine wpAny_pyIter_list pl.isList ?_;exact⟨s1.heap.objs.size,[s1.heap.objs.size],_,_,H1,rfl,I1.kept (t':=s1.toks) fun b o e=>Heap.get?_push_of_some _ e,t9 a _,⟨_,Heap.get?_push_size _ rfl,rfl,rfl⟩,fp,q⟩
 ·cases r1
  obtain⟨its,rv,pl,hz⟩:=I1.tuple (uq (K:=X.K) hq);refine wpAny_pyIter_tuple (show s1.heap.IsTuple a its.toArray from pl) ?_
  exact⟨s1.heap.objs.size,[s1.heap.objs.size],_,_,H1,rfl,I1.kept (t':=s1.toks) fun b o e=>Heap.get?_push_of_some _ e,qk a _,⟨_,Heap.get?_push_size _ rfl,rfl,rfl⟩,fp,q⟩
 ·obtain⟨t,rfl⟩:=r1
  refine wpAny_pyIter_strU ?_;exact⟨s1.heap.objs.size,[s1.heap.objs.size],_,_,H1,rfl,I1.kept (t':=s1.toks) fun b o e=>Heap.get?_push_of_some _ e,wm _ y t (strIterType y) (by unfold strIterType;split<;>simp),⟨_,Heap.get?_push_size _ rfl,rfl,rfl⟩,fp,q⟩
 ·exact zB I1 r1 q
end
def Ho(a:Addr)(o:Obj):It:=
 ⟨fun i H=>∃ kvs,H a=some (.dD o (.dK kvs))/\i < kvs.length,fun i H x H'=>∃ p,x=.ref p/\H p=none/\∀ kvs,H a=some (.dD o (.dK kvs))->∃ kv,kvs[i]?=some kv/\H'=upd H p (.tup [kV kv.1,kv.2]),fun i H=>∃ kvs,H a=some (.dD o (.dK kvs))/\kvs.length<=i⟩
theorem uH:entryFor table "dict_itemiterator.__iter__"=some Builtin.«dict_keyiterator.__iter__» :=
 entryFor_alias (id':="dict_keyiterator.__iter__") (by kernel_rfl) (by decide +kernel) (by decide +kernel) (by kernel_rfl)
theorem qY{prog:Program}{w:World}{A:Around}{E:Value->Shared->Prop}{s:Shared}{it d:Addr}{i n ep:Nat}{ok ov:Value}{Q:Value->Shared->Prop}(hit:IsItemIter s.heap it d i n ep ok ov)(h:Q (.ref it) s):wpAny (model prog w) A (pyIter (.ref it)) Q E s:=by
 have hT:s.TypeIs (.ref it) "dict_itemiterator":=⟨_,hit,rfl⟩;refine wpAny_pyIter_slot hT F.slot_dict_itemiterator_iter (wpAny_call_entry F.slot_dict_itemiterator_iter hT uH ?_ (F.args_dict_itemiterator_iter_1 _))
 show wpAny _ _ (ret (.ref it)) _ _ s
 exact wpAny_pure ⟨_,rfl,"dict_itemiterator",_,hT,F.slot_dict_itemiterator_next.lookup,h⟩
theorem qZ{P:Program}{w:World}{K:PySem.W.Frag}{elts:List Expr}{x1:Nat}{tpos:Pos}(a it:Addr){o:Obj}{es:Array DictEntry}{ep:Nat}(hd:o.data=.dict es ep) :
  Turn P w K (.Tuple elts x1 tpos) (Ho a o) [it] it (fun i h=>∃ ok ov,IsItemIter h it a i es.size ep ok ov) where
 mem:=by simp
 obj:=fun i h st b hb=>by
  have e:b=it:=by simpa using hb
  subst e;obtain⟨ok,ov,st⟩:=st
  exact⟨_,st,fun v z=>by
   have z':Data.fields _=Data.cell v:=z;cases z'⟩
 keep:=fun i h h' st k=>by
  obtain⟨ok,ov,st⟩:=st;exact⟨ok,ov,k it (by simp) _ st⟩
 item:=by
  intro X hP hw hK hc i pins s σ H E I hf st hg;subst hP hw hK;obtain⟨kvs,hq,hx⟩:=hg;obtain⟨ok,ov,st⟩:=st;obtain⟨vs,r,da,hz,_⟩:=jg I.hok hq hd;have hx0:kvs[i]?=some kvs[i]:=List.getElem?_eq_getElem hx;obtain⟨q,hv,rq⟩:=fR r hx0;have hel:it < s.heap.objs.size:=Heap.lt_size st;rw[hz]at st;refine wpAny_pyNext_items_item st da (k:=q.1) (v:=q.2) hv fun key h' hk so tu sz kp => ?_
  refine⟨_,rfl,wpAny_letOwnedTupleGo_items (s:={ s with heap:=h' }) so fun h2 se sb => ?_⟩
  have yY:∀ b o,b∉[it]->s.heap.get? b=some o->h2.get? b=some o:=fun b o hb q=>by
   have h1:b≠it:=fun z=>hb (by simp[z])
   exact sb.extBut b o h1 (kp b o h1 q)
  have G_:h2.get? s.heap.objs.size=some { cls:=.type "tuple",data:=.seq #[key,q.2] }:=sb.extBut _ _ (Nat.ne_of_gt hel) tu;refine⟨.ref s.heap.objs.size,upd H s.heap.objs.size (.tup [kV kvs[i].1,kvs[i].2]),?_,rfl,⟨_,rfl,I.hok.fresh (Nat.le_refl _),fun kvs' hq' => ?_⟩,⟨_,_,by rw[hz];exact se⟩,fun b hb => ?_⟩
  ·have tup:IsTup h2 s.heap.objs.size [key,q.2].toArray:=⟨_,G_,rfl,_,rfl⟩
   have new:bJ X.prog X.w (upd H s.heap.objs.size (.tup [kV kvs[i].1,kvs[i].2])) h2 s.heap.objs.size (.tup [kV kvs[i].1,kvs[i].2]):=⟨by rw[sizeLine_eq];simp,[key,q.2],.cons (by rw[rq.1];exact nI hk) (.cons rq.2 .nil),tup⟩
   have:=gv (s:=s) (h':=h2) (t':=s.toks) I hf yY (Nat.le_refl _) new;exact this
  ·rw[hq]at hq';cases hq'
   exact⟨kvs[i],hx0,rfl⟩
  ·have e:b=it:=by simpa using hb
   subst e;rw[aF (Nat.ne_of_lt hel)];exact(hf b hb).1
 done:=by
  intro X hP hw hK hc i pins s σ H E I hf st hg;subst hP hw hK;obtain⟨kvs,hq,hx⟩:=hg;obtain⟨ok,ov,st⟩:=st;obtain⟨vs,r,da,hz,_⟩:=jg I.hok hq hd;obtain⟨f0,f1,f2,f3,f4,f5⟩:=hf it (by simp)
  have hl:=r.length;rw[hz]at st;exact wpAny_pyNext_items_end (I.ok.hd hc) st da (List.getElem?_eq_none (by omega)) fun h' eb=>⟨rfl,I.turned (t':=s.toks) (fun b o hb e=>eb b o hb e) f0 f1 f3 f4 f5⟩
 self:=fun _ _ _ _ _ st h=>by
  obtain⟨ok,ov,st⟩:=st;exact qY st h
def Ow(R:It->Hp->Prop)(x:V)(H1:Hp):Prop:=∃ a kvs,x=.ref a/\((H1 a=some (.dK kvs)/\∀ o,R (Ho a o) (upd H1 a (.dD o (.dK kvs))))\/∃ o,H1 a=some (.dD o (.dK kvs))/\R (Ho a o) H1)
theorem wL{X:Cx}{o:Expr}{to:TE}{elts:List Expr}{x1:Nat}{tpos apos cpos:Pos}(hbase:attributeBase o "items" X.env (eval o X.env)=eval o X.env)(hline:(apos.endLine == cpos.line)=true)(ho:PE X o to) :
  PI X (.Tuple elts x1 tpos) (.Call (.Attribute o "items" apos) [] [] cpos) (fun σ H R=>to σ H (Ow R)):=by
 intro pins s σ H R I h;refine wpAny_Call_method0_late hbase hline (cu (ho pins s σ H _ I h) fun v s1 ⟨x,H1,I1,r1,q1⟩ => ?_)
 obtain⟨a,kvs,rfl,q⟩:=q1;cases (show v=Value.ref a from r1)
 have main:∀ (ob:Obj) (es:Array DictEntry) (ep:Nat) (H2:Hp),Inv X pins σ H2 s1->H2 a=some (.dD ob (.dK kvs))->ob.data=.dict es ep->R (Ho a ob) H2->wpAny (model X.prog X.w) X.A (call (.builtin "dict.items") [.ref a]) (fun v s2=>wpAny (model X.prog X.w) X.A (pyIter v) (PIE X pins σ (.Tuple elts x1 tpos) R) X.xe s2) X.xe s1:=by
  intro ob es ep H2 I2 e2 hd hR;obtain⟨vs,r,da,hz,lo⟩:=jg I2.hok e2 hd;have dd:s1.heap.DictOf (bz X.prog X.w) a vs:=let ⟨o,es,ho,r⟩:=da;⟨o,es,ep,ho,r⟩
  refine call_meetsIn F.slot_dict_items dd.typeIs F.entry_dict_items (F.args_dict_items_1 _) (meets_dict_items (bz X.prog X.w) a lo) ⟨⟨vs,dd⟩,?_⟩;generalize hh1:s1.heap.push { cls:=.type "dict_items",data:=.fields #[.ref a] }=h1;have k1:∀ b o,s1.heap.get? b=some o->h1.get? b=some o:=fun b o e=>by rw[← hh1];exact Heap.get?_push_of_some _ e
  have hv:h1.IsItemsView s1.heap.objs.size a:=by rw[← hh1];exact⟨_,Heap.get?_push_size _ rfl,rfl,rfl⟩
  have FZ:h1.DictAt (bz X.prog X.w) a vs ep:=da.at' fun o e=>k1 a o e
  have I3:Inv X pins σ H2 { s1 with heap:=h1 }:=I2.kept (t':=s1.toks) k1;refine wpAny_pyIter_items (s:={ s1 with heap:=h1 }) hv FZ ?_;have I4:Inv X pins σ H2 { s1 with heap:=h1.push { cls:=.type "dict_itemiterator",data:=.fields #[.none,.bool false,.ref a,.int 0 0,.int vs.length 0,.int ep 0,.none,.none] } }:=I3.kept (t':=s1.toks) fun b o q=>Heap.get?_push_of_some _ q
  refine⟨h1.objs.size,[h1.objs.size],_,_,H2,rfl,I4,qZ a _ hd,?_,fun b hb => ?_,hR⟩
  ·rw[hz]
   exact⟨_,_,Heap.get?_push_size _ rfl⟩
  ·have z:b=h1.objs.size:=by simpa using hb
   rw[z];exact I3.t8 (b:=h1.objs.size) (Nat.le_refl _) (I3.hok.fresh (Nat.le_refl _))
 rcases q with ⟨e1,hR⟩ | ⟨ob,e1,hR⟩
 ·obtain⟨t1,t2,t3⟩:=vT I1 (.inl ⟨kvs,.inl e1⟩)
  obtain⟨ob,es,ep,ho,hd,I2⟩:=I1.sX e1;exact⟨"dict","dict.items",F.plainAttrs_dict,F.slot_dict_items,F.type_dict_items,t1,t2,Calls.callWith_builtin rfl (PySem.evalArgs_none (main ob es ep _ I2 aS hd (hR ob)))⟩
 ·obtain⟨t1,t2,t3⟩:=vT I1 (.inl ⟨kvs,.inr ⟨ob,e1⟩⟩)
  obtain⟨ho,_,lo,vs,r,o',es,ep,ho',x1,x2,x3⟩:=I1.hok a _ e1;rw[ho]at ho';cases ho'
  exact⟨"dict","dict.items",F.plainAttrs_dict,F.slot_dict_items,F.type_dict_items,t1,t2,Calls.callWith_builtin rfl (PySem.evalArgs_none (main ob es ep _ I1 e1 x2 hR))⟩
variable [aN]
def lM(f g:List D->aG->ay D):List D->aG->ay D:=fun xs Ω=>gS (f xs Ω) (g xs Ω)
def nK(xs:List D)(Ω:aG):ay D:=match xs with
 | [x]=>match eP Ω x with
  | some ds=>.ok (.int ds.length) Ω
  | none=>.bad
 | _=>.bad
noncomputable def q_(xs:List D)(Ω:aG):ay D:=match xs with
 | [.ref k]=>match Ω[k]? with
  | some (.dK kvs)=>.ok (.int kvs.length) Ω
  | some (.dT kvs)=>.ok (.int kvs.length) Ω
  | some (.dF kvs)=>.ok (.int kvs.length) Ω
  | _=>.bad
 | _=>.bad
def iT(xs:List D)(Ω:aG):ay D:=match xs with
 | [x]=>match eP Ω x with
  | some ds=>hZ Ω (.lst ds)
  | none=>.bad
 | _=>.bad
noncomputable def jh:Key->D
 | .inl i=>.int i
 | .inr x=>.str x
noncomputable def uI(Ω:aG)(x:D):Option (List (Key×D)):=match x with
 | .ref k=>(match Ω[k]? with
  | some (.dK kvs)=>some kvs
  | some (.dF kvs)=>some kvs
  | _=>none)
 | _=>none
def jC(xs:List D)(Ω:aG):ay D:=match xs with
 | [x]=>match uI Ω x with
  | some kvs=>hZ Ω (.lst (kvs.map fun kv=>jh kv.1))
  | none=>.bad
 | _=>.bad
def kQ(xs:List D)(Ω:aG):ay D:=match xs with
 | [x]=>match uI Ω x with
  | some kvs=>hZ Ω (.dK kvs)
  | none=>.bad
 | _=>.bad
def kR:D->Option (Key×D)
 | .tup [k,v]=>(nB k).map fun k=>(k,v)
 | _=>none
def gH(xs:List D)(Ω:aG):ay D:=match xs with
 | [x]=>match dE Ω x with
  | some ds=>match bB kR ds with
   | some ps=>hZ Ω (.dK (ps.foldl (fun a p=>dR a p.1 p.2) []))
   | none=>.bad
  | none=>.bad
 | _=>.bad
def ff:List D->aG->ay D:=lM gH kQ
def rb(xs:List D)(Ω:aG):ay D:=match xs with
 | [.tup ds]=>.ok (.tup ds) Ω
 | [x]=>match dE Ω x with
  | some ds=>.ok (.tup ds) Ω
  | none=>.bad
 | _=>.bad
def DB:List D->Out Rs
 | [.str z]=>if small z.length then .ok (false,.int z.length) else .bad
 | _=>.bad
def DC:List D->Out Rs
 | [.lst xs]=>match fx xs with | some bs=>.ok (false,.bl (bs.all id)) | none=>.bad
 | _=>.bad
def DD:List D->Out Rs
 | [.lst xs]=>match fx xs with | some bs=>.ok (false,.bl (bs.any id)) | none=>.bad
 | _=>.bad
def wM:jT->List D->Out Rs
 | .len=>DB
 | .all=>DC
 | .any=>DD
 | _=>fun _=>.bad
def lN(f:jT):List D->aG->ay D:=bY (wM f)
def aQ(f:jT):List D->aG->ay D:=match f with
 | .len=>lM nK (lM q_ (lN .len))
 | .list=>lM iT jC
 | .tuple=>rb
 | f=>lN f
section
variable{X:Cx}{κ:Str->Addr->Prop}{Φ:gR}{α α' aE α1:List Addr}{Z Z' Z0 Z1:Addr->Prop}{Ω ak:aG}{H H' H0 H1:Hp}{ρ:aU}{σ:L2.St}{Q Q':VK}{r:ay D}{a b e ce o:Expr}{rest:List Expr}{es:List Expr}{ma mb mc m mo:EM}{as:AM}{pos p apos cpos:Pos}
theorem nL{f g:List D->aG->ay D}:mN (lM f g) as=kK (mN f as) (mN g as):=by
 funext ρ Ω
 simp only[mN,kK];cases as ρ Ω with
 | ok x ab=>rfl
 | exc x Ω=>rfl
 | bad=>rfl
theorem gI{f:List D->aG->ay D}{id:String}{x:Str}{r:List V->Hp->VK->Prop}(hc:di X (.builtin id) r)(hg:Gl X x)(hm:X.mg x=none)(hv:bootBuiltins x=some (.builtin id))(hn:x≠"__name__")(hdb:(x == ("__debug__":Str))=false)
  (he:starEach (e::es) X.env=(false,eval e X.env)::starEach es X.env) (hpl:(backTo pos (starEach es X.env)).any (·.1)=false) (ha:qf X κ Φ (e::es) as)
  (hr:∀ xs vs α Z Ω H Q,bH κ α Z Ω H->aJ (au α Z H) xs vs->bQ κ Φ α Z H (f xs Ω) Q->r vs H Q):bu X κ Φ (.Call (.Name x p) (e::es) [] pos) (mN f as):=by
 intro aE Z0 H0 ρ Ω;refine PE.imp (kj hc hg hm hv (ha aE Z0 H0 ρ Ω) hn hdb he hpl) ?_;rintro σ H Q ⟨α,Z,S,g⟩;exact⟨α,Z,S,pj.use g fun xs ab _ vs H1 α1 Z1 g1 s1 r1 k1=>hr xs vs α1 Z1 ab H1 Q s1 r1 k1⟩
theorem gJ{f:List D->aG->ay D}{id:String}{x:Str}{r:List V->Hp->VK->Prop}(hc:di X (.type id) r)(hg:Gl X x)(hm:X.mg x=none)(hv:bootBuiltins x=some (.type id))(hn:x≠"__name__")(hdb:(x == ("__debug__":Str))=false)
  (he:starEach (e::es) X.env=(false,eval e X.env)::starEach es X.env) (hpl:(backTo pos (starEach es X.env)).any (·.1)=false) (ha:qf X κ Φ (e::es) as)
  (hr:∀ xs vs α Z Ω H Q,bH κ α Z Ω H->aJ (au α Z H) xs vs->bQ κ Φ α Z H (f xs Ω) Q->r vs H Q):bu X κ Φ (.Call (.Name x p) (e::es) [] pos) (mN f as):=by
 intro aE Z0 H0 ρ Ω;refine PE.imp (ug hc hg hm hv (ha aE Z0 H0 ρ Ω) hn hdb he hpl) ?_;rintro σ H Q ⟨α,Z,S,g⟩;exact⟨α,Z,S,pj.use g fun xs ab _ vs H1 α1 Z1 g1 s1 r1 k1=>hr xs vs α1 Z1 ab H1 Q s1 r1 k1⟩
theorem gT:∀ {ds:List D} {vs:List V},aT Z H ds vs->v7 Z H ds vs
 | [],vs,h=>h.nil_inv
 | d::ds,vs,h=>by
  obtain⟨v,r,rfl,h1,h2⟩:=h.cons_inv;exact⟨v,r,rfl,h1.now,gT h2⟩
theorem pA{x:D}{v:V}{kvs:List (Key×D)}(S:bH κ α Z Ω H)(r:au α Z H x v)(h:uI Ω x=some kvs):∃ a kvs',v=.ref a/\Rd H a (.dK kvs')/\gw (au α Z H) kvs kvs':=by
 unfold uI at h;split at h
 ·rename_i k
  simp only[au]at r;obtain⟨a,ha,rfl⟩:=r;split at h
  ·rename_i DE hk
   cases h;obtain⟨a',ha',kvs',h1,h2⟩:=S.cell hk;rw[ha]at ha';cases ha'
   exact⟨a,kvs',rfl,.inl h1,h2⟩
  ·rename_i DE hk
   cases h;obtain⟨a',ha',of,kvs',h1,h2⟩:=S.cell hk;rw[ha]at ha';cases ha'
   exact⟨a,kvs',rfl,.inr ⟨of,h1⟩,h2⟩
  ·cases h
 ·cases h
theorem zE{xs:List D}{vs:List V}(S:bH κ α Z Ω H)(rx:aJ (au α Z H) xs vs)(g:bQ κ Φ α Z H (jC xs Ω) Q):∃ a kvs,vs=[V.ref a]/\Rd H a (.dK kvs)/\∀ l,H l=none->Q (.ref l) (upd H l (.lst (kvs.map fun kv=>kV kv.1))):=by
 unfold jC at g;split at g
 ·split at g
  ·rename_i kvs hk
   obtain⟨v,r,rfl,r1,r2⟩:=rx.cons_inv;rw[r2.nil_inv];obtain⟨a,kvs',rfl,h1,h2⟩:=pA S r1 hk;refine⟨a,kvs',rfl,h1,gD S ?_ g⟩
   have:∀ {kvs:List (Key×D)} {kvs':List (Key×V)},gw (au α Z H) kvs kvs'->aJ (au α Z H) (kvs.map fun kv=>jh kv.1) (kvs'.map fun kv=>kV kv.1):=fun {kvs kvs'} q=>by
    unfold gw at q
    induction q with
    | nil=>exact .nil
    | @cons p q _ _ hq _ ih=>
     refine .cons ?_ ih
     show au α Z H (jh p.1) (kV q.1)
     rw[hq.1];cases q.1<;>simp only[jh,kV,au]
   exact this h2
  ·exact g.elim
 ·exact g.elim
theorem wN{kvs:List (Key×D)}{kvs':List (Key×V)}(S:bH κ α Z Ω H)(r:gw (au α Z H) kvs kvs')(k:bQ κ Φ α Z H (hZ Ω (.dK kvs)) Q):∀ p,H p=none->Q (.ref p) (upd H p (.dK kvs')):=fun p hp=>by
 obtain⟨S1,g1⟩:=S.laid (p:=p) (o:=.dK kvs') (c:=.dK kvs) hp fun R hR=>⟨kvs',aS,r.imp hR⟩
 exact k _ _ _ _ g1 S1 (eO S p)
theorem zF{xs:List D}{vs:List V}(S:bH κ α Z Ω H)(rx:aJ (au α Z H) xs vs)(g:bQ κ Φ α Z H (kQ xs Ω) Q):∃ a kvs,vs=[V.ref a]/\Rd H a (.dK kvs)/\∀ l,H l=none->Q (.ref l) (upd H l (.dK kvs)):=by
 unfold kQ at g;split at g
 ·split at g
  ·rename_i kvs hk
   obtain⟨v,r,rfl,r1,r2⟩:=rx.cons_inv;rw[r2.nil_inv];obtain⟨a,kvs',rfl,h1,h2⟩:=pA S r1 hk;exact⟨a,kvs',rfl,h1,wN S h2 g⟩
  ·exact g.elim
 ·exact g.elim
theorem mG:∀ {ds:List D} {vs:List V} {ps:List (Key×D)},aJ (au α Z H) ds vs->bB kR ds=some ps->∃ ps',gw (au α Z H) ps ps'/\Paired (fun (p:Key×V) (y:V)=>∃ b,y=.ref b/\Rd H b (.tup [kV p.1,p.2])) ps' vs
 | [],vs,ps,r,h=>by cases h;rw[r.nil_inv];exact⟨[],.nil,.nil⟩
 | d::ds,vs,ps,r,h=>by
  simp only[bB]at h;split at h
  ·rename_i y ys h1 h2
   cases h;obtain⟨v,vs',rfl,r1,r2⟩:=r.cons_inv;obtain⟨ps',q1,q2⟩:=mG r2 h2;unfold kR at h1;split at h1
   ·rename_i k w
    obtain⟨ky,hk,rfl⟩:=Option.map_eq_some_iff.mp h1;obtain⟨a,ws,rfl,_,e2,e3⟩:=eD r1;obtain⟨u1,w2,rfl,t1,e3⟩:=e3.cons_inv;obtain⟨u2,w3,rfl,t2,e3⟩:=e3.cons_inv;obtain rfl:=e3.nil_inv;obtain rfl:=gE hk t1;exact⟨(ky,u2)::ps',.cons ⟨rfl,t2⟩ q1,.cons ⟨a,rfl,.inl e2⟩ q2⟩
   ·cases h1
  ·cases h
theorem zG{xs:List D}{vs:List V}(S:bH κ α Z Ω H)(rx:aJ (au α Z H) xs vs)(g:bQ κ Φ α Z H (gH xs Ω) Q):∃ a ys ps,vs=[V.ref a]/\Rd H a (.lst ys)/\Paired (fun (p:Key×V) (y:V)=>∃ b,y=.ref b/\Rd H b (.tup [kV p.1,p.2])) ps ys/\∀ l,H l=none->Q (.ref l) (upd H l (.dK (ps.foldl (fun a p=>putK a p.1 p.2) []))):=by
 unfold gH at g;split at g
 ·split at g
  ·rename_i ds hk
   split at g
   ·rename_i ps hp
    obtain⟨v,r,rfl,r1,r2⟩:=rx.cons_inv;rw[r2.nil_inv];obtain⟨a,ys,rfl,h1,h2⟩:=bP S r1 hk;obtain⟨ps',q1,q2⟩:=mG h2 hp;refine⟨a,ys,ps',rfl,h1,q2,wN S ?_ g⟩
    have:∀ {ps:List (Key×D)} {ps':List (Key×V)} {acc:List (Key×D)} {acc':List (Key×V)},gw (au α Z H) acc acc'->gw (au α Z H) ps ps'->gw (au α Z H) (ps.foldl (fun a p=>dR a p.1 p.2) acc) (ps'.foldl (fun a p=>putK a p.1 p.2) acc'):=fun {ps ps' acc acc'} ra q=>by
     unfold gw at q
     induction q generalizing acc acc' with
     | nil=>exact ra
     | @cons p q _ _ hq _ ih=>
      simp only[List.foldl_cons];refine ih ?_;rw[hq.1];exact ra.put q.1 hq.2
    exact this .nil q1
   ·exact g.elim
  ·exact g.elim
 ·exact g.elim
theorem wO(hcalm:X.calm=true)(hg:Gl X "dict")(hm:X.mg "dict"=none)(he:starEach (e::es) X.env=(false,eval e X.env)::starEach es X.env)(hpl:(backTo pos (starEach es X.env)).any (·.1)=false)(ha:qf X κ Φ (e::es) as):bu X κ Φ (.Call (.Name "dict" p) (e::es) [] pos) (mN ff as):=by
 show bu X κ Φ _ (mN (lM gH kQ) as)
 rw[nL];exact bu.alt (gJ (qX hcalm) hg hm boot_dict (by decide) (by decide) he hpl ha fun xs vs α Z Ω H Q S rx g=>zG S rx g) (gJ qW hg hm boot_dict (by decide) (by decide) he hpl ha fun xs vs α Z Ω H Q S rx g=>zF S rx g)
theorem zH{f:jT}(hcalm:X.calm=true)(hf:f∈[jT.len,jT.all,jT.any,jT.list,jT.tuple])(hg:Gl X f.nm)(hm:X.mg f.nm=none)
  (he:starEach (e::es) X.env=(false,eval e X.env)::starEach es X.env) (hpl:(backTo pos (starEach es X.env)).any (·.1)=false) (ha:qf X κ Φ (e::es) as) :
  bu X κ Φ (.Call (.Name f.nm p) (e::es) [] pos) (mN (aQ f) as):=by
 cases f with
 | len=>
  show bu X κ Φ _ (mN (lM nK (lM q_ (lN .len))) as)
  rw[nL,nL];refine bu.alt ?_ (bu.alt ?_ ?_)
  ·refine gI m8 hg hm boot_len (by decide) (by decide) he hpl ha ?_
   intro xs vs α Z Ω H Q S rx g;unfold nK at g;split at g
   ·split at g
    ·rename_i ds hd
     obtain⟨v,r,rfl,r1,r2⟩:=rx.cons_inv;rw[r2.nil_inv];obtain⟨l,ws,rfl,q1,q2⟩:=kL (K:=X.K) S r1 hd;exact⟨l,ws,rfl,q1,by rw[q2.length];exact bQ.ret S (aW rfl) g⟩
    ·exact g.elim
   ·exact g.elim
  ·refine gI (uo.or uA) hg hm boot_len (by decide) (by decide) he hpl ha ?_
   intro xs vs α Z Ω H Q S rx g;unfold q_ at g;split at g
   ·split at g
    ·rename_i kvs hk
     obtain⟨v,r,rfl,r1,r2⟩:=rx.cons_inv;rw[r2.nil_inv];simp only[au]at r1;obtain⟨a,ha,rfl⟩:=r1;obtain⟨a',ha',kvs',h1,h2⟩:=S.cell hk;rw[ha]at ha';cases ha'
     exact .inl ⟨a,kvs',rfl,.inl h1,by rw[h2.length];exact bQ.ret S (aW rfl) g⟩
    ·rename_i kvs hk
     obtain⟨v,r,rfl,r1,r2⟩:=rx.cons_inv;rw[r2.nil_inv];simp only[au]at r1;obtain⟨a,ha,rfl⟩:=r1;obtain⟨a',ha',kvs',h1,h2⟩:=S.cell hk;rw[ha]at ha';cases ha'
     exact .inr ⟨a,kvs',rfl,h1,by rw[h2.length];exact bQ.ret S (aW rfl) g⟩
    ·rename_i kvs hk
     obtain⟨v,r,rfl,r1,r2⟩:=rx.cons_inv;rw[r2.nil_inv];simp only[au]at r1;obtain⟨a,ha,rfl⟩:=r1;obtain⟨a',ha',of,kvs',h1,h2⟩:=S.cell hk;rw[ha]at ha';cases ha'
     exact .inl ⟨a,kvs',rfl,.inr ⟨of,h1⟩,by rw[h2.length];exact bQ.ret S (aW rfl) g⟩
    ·exact g.elim
   ·exact g.elim
  ·refine gI m9 hg hm boot_len (by decide) (by decide) he hpl ha ?_
   intro xs0 F4 α Z Ω H Q S rx g;obtain⟨ds,own,d,nw,ee,k⟩:=iS (bw:=false) S rx g;have nw:=gT nw;have dom:=dM S;replace ee:DB ds=_:=ee;unfold DB at ee;split at ee
   ·obtain⟨x,rfl,n⟩:=nw.one
    cases c9 n;split at ee
    ·rename_i hs
     cases ee;exact⟨_,rfl,bx hs,jd dom k rfl⟩
    ·cases ee
   ·cases ee
 | all=>
  refine gI (wg hcalm) hg hm boot_all (by decide) (by decide) he hpl ha ?_
  intro xs0 F4 α Z Ω H Q S rx g;obtain⟨ds,own,d,nw,ee,k⟩:=iS (bw:=false) S rx g;have nw:=gT nw;have dom:=dM S;replace ee:DC ds=_:=ee;unfold DC at ee;split at ee
  ·obtain⟨x,rfl,n⟩:=nw.one
   split at ee
   ·rename_i bs hb
    cases ee;exact⟨_,_,bs,x,rfl,n,hb,jd dom k rfl⟩
   ·cases ee
  ·cases ee
 | any=>
  refine gI (wj hcalm) hg hm boot_any (by decide) (by decide) he hpl ha ?_
  intro xs0 F4 α Z Ω H Q S rx g;obtain⟨ds,own,d,nw,ee,k⟩:=iS (bw:=false) S rx g;have nw:=gT nw;have dom:=dM S;replace ee:DD ds=_:=ee;unfold DD at ee;split at ee
  ·obtain⟨x,rfl,n⟩:=nw.one
   split at ee
   ·rename_i bs hb
    cases ee;exact⟨_,_,bs,x,rfl,n,hb,jd dom k rfl⟩
   ·cases ee
  ·cases ee
 | int=>simp at hf
 | min=>simp at hf
 | max=>simp at hf
 | list=>
  show bu X κ Φ _ (mN (lM iT jC) as)
  rw[nL];refine bu.alt ?_ (gJ (qV hcalm) hg hm boot_list (by decide) (by decide) he hpl ha fun xs vs α Z Ω H Q S rx g=>zE S rx g)
  refine gJ m_ hg hm boot_list (by decide) (by decide) he hpl ha ?_
  intro xs vs α Z Ω H Q S rx g;have g:bQ κ Φ α Z H (iT xs Ω) Q:=g;unfold iT at g;split at g
  ·split at g
   ·rename_i ds hd
    obtain⟨v,r,rfl,r1,r2⟩:=rx.cons_inv;rw[r2.nil_inv];obtain⟨l,ws,rfl,q1,q2⟩:=kL (K:=X.K) S r1 hd;exact⟨l,ws,rfl,q1,gD S q2 g⟩
   ·exact g.elim
  ·exact g.elim
 | tuple=>
  refine gJ lJ hg hm boot_tuple (by decide) (by decide) he hpl ha ?_
  intro xs vs α Z Ω H Q S rx g;have g:bQ κ Φ α Z H (rb xs Ω) Q:=g;unfold rb at g;split at g
  ·obtain⟨v,r,rfl,r1,r2⟩:=rx.cons_inv
   rw[r2.nil_inv];have r1':=r1;obtain⟨l,ws,rfl,_,q1,q2⟩:=eD r1;exact⟨l,ws,rfl,.inr ⟨uq (.inl q1),bQ.ret S r1' g⟩⟩
  ·split at g
   ·rename_i ds hd
    obtain⟨v,r,rfl,r1,r2⟩:=rx.cons_inv;rw[r2.nil_inv];obtain⟨l,ws,rfl,q1,q2⟩:=bP S r1 hd;exact⟨l,ws,rfl,.inl ⟨kx q1,iP S q2 g⟩⟩
   ·exact g.elim
  ·exact g.elim
 | sorted=>simp at hf
 | bool=>simp at hf
def Ox(t:Ty):D->aG->ay D:=uB fun d=>match vX d t with | some b=>.ok (false,.bl b) | none=>.bad
noncomputable def DF(t:Ty)(x:D)(Ω:aG):ay D:=match x with
 | .ref k=>match Ω[k]? with
  | some (.lst _)=>.ok (.bl (t == .list)) Ω
  | some (.dK _)=>.ok (.bl (t == .dict)) Ω
  | _=>.bad
 | .lst _=>.ok (.bl (t == .list)) Ω
 | .tup _=>.ok (.bl (t == .tuple)) Ω
 | _=>.bad
def fm(t:Ty):D->aG->ay D:=zd (DF t) (Ox t)
def BP(K:PySem.W.Frag):List V->Hp->VK->Prop:=fun xs H Q=>∃ a vs t,xs=[.ref a,.ty (Ty.id t)]/\((Rd H a (.lst vs)/\Q (.bl (t == .list)) H)\/(Rd H a (.tup vs)/\Q (.bl (t == .tuple)) H)\/(∃ kvs,H a=some (.dK kvs)/\Q (.bl (t == .dict)) H))
theorem uJ:di X (.builtin "isinstance") (BP X.K):=by
 intro pins s σ H xs us Q I r h;obtain⟨a,vs,t,rfl,h⟩:=h;obtain⟨u,w',rfl,rx,rt⟩:=vals2 r;cases (show w'=Value.type (Ty.id t) from rt)
 obtain⟨t1,t2,t3,t4,t5,t6,t7⟩:=sD X.K t;rcases h with ⟨h1,q⟩ | ⟨h1,q⟩ | ⟨kvs,h1,q⟩
 ·have fin:∀ tk,EP X pins σ Q (.bool (t == .list)) { s with toks:=tk }:=fun tk=>⟨.bl _,H,I.tok tk,rfl,q⟩
  rcases h1 with h1 | ⟨o,h1⟩
  ·exact cO I rx (.lst h1) t5 fin
  ·exact cO I rx (.dD h1) t5 fin
 ·have fin:∀ tk,EP X pins σ Q (.bool (t == .tuple)) { s with toks:=tk }:=fun tk=>⟨.bl _,H,I.tok tk,rfl,q⟩
  cases rx;exact PySem.W.kia_one PySem.W.kitx_tuple I.iy (jx (K:=X.K) I h1) t6 (fun z=>nomatch z) fin
 ·have fin:∀ tk,EP X pins σ Q (.bool (t == .dict)) { s with toks:=tk }:=fun tk=>⟨.bl _,H,I.tok tk,rfl,q⟩
  exact cO I rx (.dK h1) t7 fin
theorem zI{t:Ty}{pt:Pos}(hg:Gl X "isinstance")(hm:X.mg "isinstance"=none)(hgt:Gl X t.nm)(hmt:X.mg t.nm=none)
  (he:starEach [a,Expr.Name t.nm pt] X.env=(false,eval a X.env)::starEach [Expr.Name t.nm pt] X.env) (hpl:(backTo pos (starEach [Expr.Name t.nm pt] X.env)).any (·.1)=false) (ha:bu X κ Φ a ma) :
  bu X κ Φ (.Call (.Name "isinstance" p) [a,.Name t.nm pt] [] pos) (m1 (fm t) ma):=by
 have Tu:PE X (.Name t.nm pt) (tC (.ty t.id)):=yr hgt hmt (yZ t) rfl (by cases t<;>decide) (by cases t<;>decide)
 unfold fm;rw[Dw];refine bu.alt ?_ ?_
 ·refine jV (r:=fun x H Q=>BP X.K [x,.ty t.id] H Q) (fun ta pa=>kj uJ hg hm boot_isinstance (e_ pa (e_ Tu mY rfl) he) (by decide) (by decide) he hpl) ha ?_
  intro dx x α Z Ω H Q S rx g;unfold DF at g;split at g
  ·split at g
   ·rename_i k ds hk
    obtain⟨a,vs,rfl,h1,h2⟩:=bP (ds:=ds) S rx (by simp only[dE,hk])
    exact⟨a,vs,t,rfl,.inl ⟨h1,bQ.ret S (aW rfl) g⟩⟩
   ·rename_i k kvs hk
    simp only[au]at rx;obtain⟨a,ha,rfl⟩:=rx;obtain⟨a',ha',kvs',h1,_⟩:=S.cell hk;rw[ha]at ha';cases ha'
    exact⟨a,[],t,rfl,.inr (.inr ⟨kvs',h1,bQ.ret S (aW rfl) g⟩)⟩
   ·exact g.elim
  ·rename_i ds
   obtain⟨a,vs,rfl,h1,h2⟩:=bP (ds:=ds) S rx rfl;exact⟨a,vs,t,rfl,.inl ⟨h1,bQ.ret S (aW rfl) g⟩⟩
  ·obtain⟨a,vs,rfl,_,h1,h2⟩:=eD rx
   exact⟨a,vs,t,rfl,.inr (.inl ⟨.inl h1,bQ.ret S (aW rfl) g⟩)⟩
  ·exact g.elim
 ·refine jV (r:=fun x H Q=>G8 X.K [x,.ty t.id] H Q) (fun ta pa=>kj wk hg hm boot_isinstance (e_ pa (e_ Tu mY rfl) he) (by decide) (by decide) he hpl) ha ?_
  intro dx x α Z Ω H Q S rx g;obtain⟨d,own,d',n1,e1,k⟩:=pk (bw:=false) S rx g;cases q:vX d t with
  | none=>rw[q]at e1;cases e1
  | some b=>
   rw[q]at e1;cases e1;exact⟨_,d,x,t,b,rfl,n1,q,jd (dM S) k rfl⟩
def cV(yj:aG->D->Bool)(f:D->List D->aG->ay D)(mo:EM)(as:AM):EM:=fun ρ Ω=>(mo ρ Ω).bind fun x ab=>if yj ab x=true then (as ρ ab).bind fun xs ao=>f x xs ao else .bad
def ik(Ω:aG)(x:D):Bool:=(dE Ω x).isSome
noncomputable def zJ(_:aG)(x:D):Bool:=match x with
 | .str _=>true
 | _=>false
theorem kS{x:D}{v:V}{K:PySem.W.Frag}(S:bH κ α Z Ω H)(r:au α Z H x v)(h:ik Ω x=true):Df K "list" v H:=by
 unfold ik at h;cases q:dE Ω x with
 | none=>rw[q]at h;cases h
 | some ds=>
  obtain⟨a,vs,rfl,h1,h2⟩:=bP S r q;exact .inl ⟨rfl,vs,kx h1⟩
theorem zK{x:D}{v:V}{K:PySem.W.Frag}(S:bH κ α Z Ω H)(r:au α Z H x v)(h:zJ Ω x=true):Df K "str" v H:=by
 cases x with
 | str z=>simp only[au]at r;subst r;rfl
 | _=>cases h
section
variable{T id:String}{name:Str}{r:V->List V->Hp->VK->Prop}{yj:aG->D->Bool}{f:D->List D->aG->ay D}
theorem zL(pa:PlainAttrs T)(slot:PySem.Slot T name id)(hty:typeOf (.builtin id)=pure (.type "method_descriptor"))(hm:FX X id r)
  (hT:∀ x v α Z Ω H,bH κ α Z Ω H->au α Z H x v->yj Ω x=true->Df X.K T v H)
  (hr:∀ x v xs vs α Z Ω H Q,bH κ α Z Ω H->au α Z H x v->aJ (au α Z H) xs vs->bQ κ Φ α Z H (f x xs Ω) Q->r v vs H Q)
  (hbase:attributeBase o name X.env (eval o X.env)=eval o X.env) (hline:(apos.endLine == cpos.line)=true) (ho:bu X κ Φ o mo):bu X κ Φ (.Call (.Attribute o name apos) [] [] cpos) (cV yj f mo af):=by
 intro aE Z0 H0 ρ Ω;refine PE.imp (L2.Dg pa slot hty hm (ho aE Z0 H0 ρ Ω) hbase hline) ?_;rintro σ H Q ⟨α,Z,S,g⟩;refine⟨α,Z,S,bQ.use g fun x ab _ v H1 α1 Z1 g1 s1 r1 k1 => ?_⟩
 split at k1
 ·rename_i hi
  exact⟨hT x v α1 Z1 ab H1 s1 r1 hi,hr x v [] [] α1 Z1 ab H1 Q s1 r1 .nil k1⟩
 ·exact k1.elim
theorem rf{env:Env}:∀ {es:List Expr},(∀ e∈es,isStar e=false)->((backTo cpos (starEach es env)).all (fun x => !x.1))=true
 | [],_=>rfl
 | e::es,h=>by
  rw[cw (h e (by simp))]
  show(!false && (backTo cpos (starEach es env)).all (fun x => !x.1))=true
  rw[rf fun z hz=>h z (by simp[hz])];rfl
theorem kT(pa:PlainAttrs T)(slot:PySem.Slot T name id)(hty:typeOf (.builtin id)=pure (.type "method_descriptor"))(hm:FX X id r)
  (hT:∀ x v α Z Ω H,bH κ α Z Ω H->au α Z H x v->yj Ω x=true->Df X.K T v H)
  (hr:∀ x v xs vs α Z Ω H Q,bH κ α Z Ω H->au α Z H x v->aJ (au α Z H) xs vs->bQ κ Φ α Z H (f x xs Ω) Q->r v vs H Q)
  (hbase:attributeBase o name X.env (eval o X.env)=eval o X.env) (hline:(apos.endLine == cpos.line)=true) (ho:bu X κ Φ o mo) (ha:qf X κ Φ (e::es) as) (hst:∀ z∈e::es,isStar z=false) (hlen:(e::es).length < 20):bu X κ Φ (.Call (.Attribute o name apos) (e::es) [] cpos) (cV yj f mo as):=by
 intro aE Z0 H0 ρ Ω
 have hfew:((backTo cpos (starEach (e::es) X.env)).all (fun x => !x.1) && (backToKw cpos (keywordEach [] X.env)).all (fun x=>x.1.isSome)
   && decide ((e::es).length + ([]:List Keyword).length + (if ([]:List Keyword).isEmpty then 0 else 1) < 30))=true:=by
  rw[rf hst,decide_eq_true (by show(e::es).length + 0 + 0 < 30;omega)];rfl
 refine PE.imp (L2.GU pa slot hty hm (ho aE Z0 H0 ρ Ω) (PA.ex fun ab=>ha aE Z0 H0 ρ ab) hbase hfew hline (cw (hst e (by simp))) (cE fun z hz=>hst z (by simp[hz]))) ?_
 rintro σ H Q ⟨α,Z,S,g⟩;refine⟨α,Z,S,bQ.use g fun x ab _ v H1 α1 Z1 g1 s1 r1 k1 => ?_⟩
 split at k1
 ·rename_i hi
  exact⟨hT x v α1 Z1 ab H1 s1 r1 hi,ab,α1,Z1,S.grow g1 s1,pj.use k1 fun xs ao _ vs H2 α2 Z2 g2 s2 r2 k2=>hr x v xs vs α2 Z2 ao H2 Q s2 (s1.dj g2 r1) r2 k2⟩
 ·exact k1.elim
end
noncomputable def nM(Ω:aG):D->Option (Nat×List D)
 | .ref k=>match Ω[k]? with
  | some (.lst ds)=>some (k,ds)
  | _=>none
 | _=>none
theorem gK{x:D}{v:V}{k:Nat}{ds:List D}(S:bH κ α Z Ω H)(r:au α Z H x v)(h:nM Ω x=some (k,ds)):∃ a vs,v=.ref a/\α[k]?=some a/\H a=some (.lst vs)/\aJ (au α Z H) ds vs:=by
 cases x with
 | ref n=>
  simp only[nM]at h;split at h
  ·rename_i ds' hk
   cases h;simp only[au]at r;obtain⟨a,ha,rfl⟩:=r;obtain⟨a',ha',vs,h1,h2⟩:=S.cell hk;rw[ha]at ha';cases ha';exact⟨a,vs,rfl,ha,h1,h2⟩
  ·cases h
 | _=>cases h
theorem iU{k:Nat}{p:Addr}{ds:List D}{vs:List V}{d:D}{u:V}(S:bH κ α Z Ω H)(hk:α[k]?=some p){ws:List V}(hm:H p=some (.lst ws))(r:aJ (au α Z H) ds vs)(ru:au α Z H d u)(g:bQ κ Φ α Z H (.ok d (Ω.set k (.lst ds))) Q):Q u (upd H p (.lst vs)):=by
 obtain⟨S1,g1⟩:=S.put (o:=.lst vs) (c:=.lst ds) hk (fun o u z=>by rw[hm]at z;cases z) fun R hR=>⟨vs,aS,r.imp hR⟩
 exact g _ _ _ _ g1 S1 (S.dj g1 ru)
def bq(x:D)(xs:List D)(Ω:aG):ay D:=match nM Ω x,xs with
 | some (k,ds),[y]=>if small (ds.length + 1) then .ok .non (Ω.set k (.lst (ds++[y]))) else .bad
 | _,_=>.bad
def ei(x:D)(xs:List D)(Ω:aG):ay D:=match nM Ω x,xs with
 | some (k,ds),[]=>.ok .non (Ω.set k (.lst ds.reverse))
 | _,_=>.bad
def fS(x:D)(xs:List D)(Ω:aG):ay D:=match nM Ω x,xs with
 | some (k,ds),[.int i,y]=>if small (ds.length + 1) && lK i then .ok .non (Ω.set k (.lst (nj ds i y))) else .bad
 | _,_=>.bad
def fT(x:D)(xs:List D)(Ω:aG):ay D:=match nM Ω x,xs with
 | some (k,ds),[y]=>match nM Ω y with
  | some (_,es)=>if small (ds.length + es.length) then .ok .non (Ω.set k (.lst (ds++es))) else .bad
  | none=>.bad
 | _,_=>.bad
def nN(x:D)(xs:List D)(Ω:aG):ay D:=match xs with
 | [y]=>fQ (fun a b=>match a with | .lst ds=>vW .index (.lst ds) (.tup [b]) | _=>.bad) x y Ω
 | _=>.bad
def mH(x:D)(xs:List D)(Ω:aG):ay D:=match xs with
 | [y]=>fQ (fun a b=>vW .join a (.tup [b])) x y Ω
 | _=>.bad
theorem gU{R:D->V->Prop}{y:D}{vs:List V}(h:aJ R [y] vs):∃ v,vs=[v]/\R y v:=by
 obtain⟨v,r,rfl,h1,h2⟩:=h.cons_inv;rw[h2.nil_inv];exact⟨v,rfl,h1⟩
theorem zM{R:D->V->Prop}{y z:D}{vs:List V}(h:aJ R [y,z] vs):∃ v w,vs=[v,w]/\R y v/\R z w:=by
 obtain⟨v,r,rfl,h1,h2⟩:=h.cons_inv;obtain⟨w,rfl,h3⟩:=gU h2;exact⟨v,w,rfl,h1,h3⟩
theorem uK{x:D}{v:V}{xs:List D}{vs:List V}(S:bH κ α Z Ω H)(r:au α Z H x v)(rs:aJ (au α Z H) xs vs)(g:bQ κ Φ α Z H (bq x xs Ω) Q):sj v vs H Q:=by
 unfold bq at g;split at g
 ·rename_i k ds y hk
  obtain⟨a,ws,rfl,h1,h2,h3⟩:=gK S r hk;obtain⟨u,rfl,h4⟩:=gU rs;split at g
  ·rename_i hs
   have:=bx hs;exact⟨a,ws,u,rfl,rfl,h2,by rw[h3.length];omega,iU S h1 h2 (h3.append (.one h4)) (aW rfl) g⟩
  ·exact g.elim
 ·exact g.elim
theorem rg{x:D}{v:V}{xs:List D}{vs:List V}(S:bH κ α Z Ω H)(r:au α Z H x v)(rs:aJ (au α Z H) xs vs)(g:bQ κ Φ α Z H (ei x xs Ω) Q):oJ v vs H Q:=by
 unfold ei at g;split at g
 ·rename_i k ds hk
  obtain⟨a,ws,rfl,h1,h2,h3⟩:=gK S r hk;rw[rs.nil_inv];exact⟨a,ws,rfl,rfl,h2,iU S h1 h2 h3.reverse (aW rfl) g⟩
 ·exact g.elim
theorem uL{x:D}{v:V}{xs:List D}{vs:List V}(S:bH κ α Z Ω H)(r:au α Z H x v)(rs:aJ (au α Z H) xs vs)(g:bQ κ Φ α Z H (fS x xs Ω) Q):sF v vs H Q:=by
 unfold fS at g;split at g
 ·rename_i k ds i y hk
  obtain⟨a,ws,rfl,h1,h2,h3⟩:=gK S r hk;obtain⟨u,w,rfl,h4,h5⟩:=zM rs;simp only[au]at h4;subst h4;split at g
  ·rename_i hs
   simp only[Bool.and_eq_true]at hs;have:=bx hs.1;have hi:=oU hs.2;refine⟨a,ws,i,w,rfl,rfl,h2,by omega,by omega,by rw[h3.length];omega,iU S h1 h2 ?_ (aW rfl) g⟩
   unfold nj;rw[h3.length];exact(h3.take _).append (.cons h5 (h3.drop _))
  ·exact g.elim
 ·exact g.elim
theorem uM{x:D}{v:V}{xs:List D}{vs:List V}(S:bH κ α Z Ω H)(r:au α Z H x v)(rs:aJ (au α Z H) xs vs)(g:bQ κ Φ α Z H (fT x xs Ω) Q):sk v vs H Q:=by
 unfold fT at g;split at g
 ·rename_i k ds y hk
  obtain⟨a,ws,rfl,h1,h2,h3⟩:=gK S r hk;obtain⟨u,rfl,h4⟩:=gU rs;split at g
  ·rename_i n es hn
   obtain⟨b,zs,rfl,q1,q2,q3⟩:=gK S h4 hn;split at g
   ·rename_i hs
    exact⟨a,b,ws,zs,rfl,rfl,h2,q2,by rw[h3.length,q3.length];exact bx hs,iU S h1 h2 (h3.append q3) (aW rfl) g⟩
   ·exact g.elim
  ·exact g.elim
 ·exact g.elim
theorem wQ{x:D}{v:V}{xs:List D}{vs:List V}(S:bH κ α Z Ω H)(r:au α Z H x v)(rs:aJ (au α Z H) xs vs)(g:bQ κ Φ α Z H (nN x xs Ω) Q):wo v vs H Q:=by
 unfold nN at g;split at g
 ·obtain⟨u,rfl,h4⟩:=gU rs
  obtain⟨d,e,own,d',n1,n2,e1,k⟩:=gC (bw:=false) S r h4 g;cases d with
  | lst ds=>
   (unfold vW at e1;dsimp only at e1)
   split at e1
   ·rename_i hc
    simp only[Bool.and_eq_true]at hc;split at e1
    ·rename_i j hj
     cases e1;exact⟨_,ds,e,u,j,rfl,n1,n2,hc.1,hc.2,hj,jd (dM S) k rfl⟩
    ·cases e1
   ·cases e1
  | _=>cases e1
 ·exact g.elim
theorem zN{x:D}{v:V}{xs:List D}{vs:List V}(S:bH κ α Z Ω H)(r:au α Z H x v)(rs:aJ (au α Z H) xs vs)(g:bQ κ Φ α Z H (mH x xs Ω) Q):rJoin v vs H Q:=by
 unfold mH at g;split at g
 ·obtain⟨u,rfl,h4⟩:=gU rs
  obtain⟨d,e,own,d',n1,n2,e1,k⟩:=gC (bw:=false) S r h4 g;cases d with
  | str z=>
   cases c9 n1;cases e with
   | lst ds=>
    (unfold vW at e1;dsimp only at e1)
    split at e1
    ·rename_i ys hs
     split at e1
     ·rename_i hc
      cases e1;simp only[Bool.and_eq_true,decide_eq_true_eq]at hc;exact⟨z,_,ds,ys,u,rfl,rfl,n2,hs,hc.1,hc.2,jd (dM S) k rfl⟩
     ·cases e1
    ·cases e1
   | _=>cases e1
  | _=>cases e<;>cases e1
 ·exact g.elim
end
inductive Src where
 | seq (x:D) | ints (lo:Int) (n:Nat) | chars (z:Str) | Mb (x:D) | keys (k:Nat) | items (k:Nat)
def eR:Src->aG->Option (List D)
 | .seq x,Ω=>eP Ω x
 | .ints lo n,_=>some (intsFrom lo n)
 | .chars z,_=>some (z.cps.toList.map fun c=>.str (bE c))
 | .Mb x,Ω=>(eP Ω x).map (c8 0)
 | .keys k,Ω=>match Ω[k]? with
  | some (.dF kvs)=>some (kvs.map fun kv=>jh kv.1)
  | _=>none
 | .items k,Ω=>match Ω[k]? with
  | some (.dF kvs)=>some (kvs.map fun kv=>.tup [jh kv.1,kv.2])
  | _=>none
abbrev IM:=aU->aG->ay Src
def uN(κ:Str->Addr->Prop)(s:Src)(J:It)(α:List Addr)(Z:Addr->Prop)(H:Hp):Prop:=∀ α1 Z1 ab H1 ds,cx α Z H α1 Z1 H1->bH κ α1 Z1 ab H1->eR s ab=some ds ->
 (∀ (i:Nat) (d:D),ds[i]?=some d->J.go i H1/\∀ x H2,J.LZ i H1 x H2->∃ Z2,cx α1 Z1 H1 α1 Z2 H2/\bH κ α1 Z2 ab H2/\au α1 Z2 H2 d x)/\∀ i,ds.length<=i->J.stop i H1
def qh(κ:Str->Addr->Prop)(Φ:gR)(α:List Addr)(Z:Addr->Prop)(H:Hp)(r:ay Src)(R:It->Hp->Prop):Prop:=match r with
 | .ok s ak=>∀ J H' α' Z',cx α Z H α' Z' H'->bH κ α' Z' ak H'->uN κ s J α' Z' H'->R J H'
 | .exc x ak=>∀ H' α' Z',cx α Z H α' Z' H'->bH κ α' Z' ak H'->Φ x ak α' Z' H'
 | .bad=>False
noncomputable def Wr(κ:Str->Addr->Prop)(Φ:gR)(aE:List Addr)(Z0:Addr->Prop)(H0:Hp)(m:IM)(ρ:aU)(Ω:aG):TI:=fun σ H R=>∃ α Z,cP κ aE Z0 H0 α Z Ω ρ σ H/\qh κ Φ α Z H (m ρ Ω) R
def vc(X:Cx)(κ:Str->Addr->Prop)(Φ:gR)(tg e:Expr)(m:IM):Prop:=∀ aE Z0 H0 ρ Ω,PI X tg e (Wr κ Φ aE Z0 H0 m ρ Ω)
def srcOf(Ω:aG)(x:D):ay Src:=match eP Ω x,x with
 | some _,x=>.ok (.seq x) Ω
 | none,.str z=>.ok (.chars z) Ω
 | none,.ref k=>(match Ω[k]? with
  | some (.dK kvs)=>.ok (.keys k) (Ω.set k (.dF kvs))
  | some (.dF _)=>.ok (.keys k) Ω
  | _=>.bad)
 | none,_=>.bad
def aM(m:EM):IM:=fun ρ Ω=>(m ρ Ω).bind fun x ab=>srcOf ab x
noncomputable def sY(Ω:aG)(x:D):ay Src:=match x with
 | .ref k=>(match Ω[k]? with
  | some (.dK kvs)=>.ok (.items k) (Ω.set k (.dF kvs))
  | some (.dF _)=>.ok (.items k) Ω
  | _=>.bad)
 | _=>.bad
def kU(m:EM):IM:=fun ρ Ω=>(m ρ Ω).bind fun x ab=>sY ab x
def lO(m:EM):IM:=fun ρ Ω=>(m ρ Ω).bind fun x ab=>match eP ab x with
 | some _=>.ok (.Mb x) ab
 | none=>.bad
def sZ(xs:List D)(Ω:aG):ay Src:=match xs with
 | [.int j]=>if lK j then .ok (.ints 0 j.toNat) Ω else .bad
 | _=>.bad
def cK(as:AM):IM:=fun ρ Ω=>(as ρ Ω).bind sZ
section
variable{X:Cx}{κ:Str->Addr->Prop}{Φ:gR}{α α' aE α1:List Addr}{Z Z' Z0 Z1:Addr->Prop}{Ω ak:aG}{H H' H0 H1:Hp}{ρ:aU}{σ:L2.St}{Q Q':VK}{r:ay D}{a b e ce o tg:Expr}{rest:List Expr}{es:List Expr}{ma mb mc m mo:EM}{as:AM}{pos p apos cpos tpos:Pos}
theorem qh.from{r:ay Src}{R:It->Hp->Prop}(g:cx α Z H α1 Z1 H1)(h:qh κ Φ α Z H r R):qh κ Φ α1 Z1 H1 r R:=by
 cases r with
 | ok d ak=>exact fun v H' α' Z' g'=>h v H' α' Z' (g.trans g')
 | exc x ak=>exact fun H' α' Z' g'=>h H' α' Z' (g.trans g')
 | bad=>exact h
theorem qh.use{r:ay D}{f:D->aG->ay Src}{R:It->Hp->Prop}(h:qh κ Φ α Z H (r.bind f) R)(k:∀ d ab,r=.ok d ab->∀ v H1 α1 Z1,cx α Z H α1 Z1 H1->bH κ α1 Z1 ab H1->au α1 Z1 H1 d v->qh κ Φ α1 Z1 H1 (f d ab) R->Q' v H1):bQ κ Φ α Z H r Q':=by
 cases r with
 | ok d ab=>exact fun v H1 α1 Z1 g s q=>k d ab rfl v H1 α1 Z1 g s q (qh.from g h)
 | exc x ab=>exact h
 | bad=>exact h
theorem pB{K:PySem.W.Frag}{x:D}{a:Addr}(hx:au α Z H x (.ref a))(S:bH κ α Z Ω H)(hl:(dE Ω x).isSome=true):uN κ (.seq x) (N1 K a) α Z H:=by
 intro α1 Z1 ab H1 ds g s hs;have hx1:=S.dj g hx;have hnt:∀ es,x≠.tup es:=fun es e=>by subst e;cases hl
 have hs':dE ab x=some ds:=by
  cases x with
  | tup es=>exact absurd rfl (hnt _)
  | _=>exact hs
 obtain⟨a',vs,e,h1,h2⟩:=bP s hx1 hs';cases e;refine⟨fun i d hd => ?_,fun i hi=>⟨vs,kx h1,by rw[h2.length];exact hi⟩⟩
 obtain⟨v,hv,rv⟩:=h2.get hd;refine⟨⟨vs,v,kx h1,hv⟩,fun y H2 hy => ?_⟩
 obtain⟨rfl,hy⟩:=hy;have:=hy vs (kx h1);rw[hv]at this;cases this;exact⟨Z1,cx.refl s.has,s,rv⟩
theorem zO{K:PySem.W.Frag}{es:List D}{a:Addr}(hx:au α Z H (.tup es) (.ref a))(S:bH κ α Z Ω H):uN κ (.seq (.tup es)) (N2 K a) α Z H:=by
 intro α1 Z1 ab H1 ds g s hs;have hx1:=S.dj g hx;cases hs;obtain⟨a',vs,e,_,h1,h2⟩:=eD hx1;cases e;refine⟨fun i d hd => ?_,fun i hi=>⟨vs,uq (.inl h1),by rw[h2.length];exact hi⟩⟩
 obtain⟨v,hv,rv⟩:=h2.get hd;refine⟨⟨vs,v,uq (.inl h1),hv⟩,fun y H2 hy => ?_⟩
 obtain⟨rfl,hy⟩:=hy;have:=hy vs (uq (.inl h1));rw[hv]at this;cases this;exact⟨Z1,cx.refl s.has,s,rv⟩
theorem pC{k:Nat}{a:Addr}{o:Obj}{kvs:List (Key×V)}(ha:α[k]?=some a)(hf:H a=some (.dD o (.dK kvs))):uN κ (.keys k) (Hl a o) α Z H:=by
 intro α1 Z1 ab H1 ds g s hs;have ha1:=g.pre k a ha;have hf1:=g.dD a _ _ hf;simp only[eR]at hs;split at hs
 ·rename_i DE hk
  cases hs;obtain⟨a',ha',of,kvs',h1,h2⟩:=s.cell hk;rw[ha1]at ha';cases ha'
  rw[hf1]at h1;cases h1
  have hl:=h2.length;refine⟨fun i d hd => ?_,fun i hi=>⟨kvs,hf1,by rw[List.length_map]at hi;omega⟩⟩
  rw[List.getElem?_map]at hd;obtain⟨p,hp,rfl⟩:=Option.map_eq_some_iff.mp hd;obtain⟨q,hq,e1,_⟩:=aJ.get h2 hp;refine⟨⟨kvs,hf1,(List.getElem?_eq_some_iff.mp hq).1⟩,fun x H2 hy => ?_⟩
  obtain⟨rfl,hy⟩:=hy;obtain⟨kv,hkv,rfl⟩:=hy kvs hf1;rw[hq]at hkv;cases hkv
  refine⟨Z1,cx.refl s.has,s,?_⟩;rw[e1];cases q.1<;>simp only[jh,kV,au]
 ·cases hs
theorem mI{k:Nat}{a:Addr}{o:Obj}{kvs:List (Key×V)}(ha:α[k]?=some a)(hf:H a=some (.dD o (.dK kvs))):uN κ (.items k) (Ho a o) α Z H:=by
 intro α1 Z1 ab H1 ds g s hs;have ha1:=g.pre k a ha;have hf1:=g.dD a _ _ hf;simp only[eR]at hs;split at hs
 ·rename_i DE hk
  cases hs;obtain⟨a',ha',of,kvs',h1,h2⟩:=s.cell hk;rw[ha1]at ha';cases ha'
  rw[hf1]at h1;cases h1
  have hl:=h2.length;refine⟨fun i d hd => ?_,fun i hi=>⟨kvs,hf1,by rw[List.length_map]at hi;omega⟩⟩
  rw[List.getElem?_map]at hd;obtain⟨p,hp,rfl⟩:=Option.map_eq_some_iff.mp hd;obtain⟨q,hq,e1,e2⟩:=aJ.get h2 hp;refine⟨⟨kvs,hf1,(List.getElem?_eq_some_iff.mp hq).1⟩,fun x H2 hy => ?_⟩
  obtain⟨pp,rfl,hpn,hy⟩:=hy;obtain⟨kv,hkv,rfl⟩:=hy kvs hf1;rw[hq]at hkv;cases hkv
  obtain⟨s3,g3⟩:=s.sP (p:=pp) (o:=.tup [kV q.1,q.2]) hpn True;simp only[if_true]at s3 g3;refine⟨Zp Z1 pp,g3,s3,?_⟩;simp only[au];refine⟨pp,_,rfl,.inr rfl,aS,bp.mpr (.cons ?_ (.one (s.dj g3 e2)))⟩;rw[e1];cases q.1<;>simp only[jh,kV,au]
 ·cases hs
theorem zP(h:bu X κ Φ e m):vc X κ Φ tg e (aM m):=by
 intro aE Z0 H0 ρ Ω;refine PI.imp (zD (h aE Z0 H0 ρ Ω)) ?_;rintro σ H R ⟨α,Z,S,g⟩;refine⟨α,Z,S,qh.use g fun x ab _ v H1 α1 Z1 g1 s1 r1 k1 => ?_⟩
 cases x with
 | tup es=>
  have r1':=r1;obtain⟨a,vs,rfl,_,h1,h2⟩:=eD r1;exact .inr (.inl ⟨a,vs,rfl,.inl h1,k1 _ H1 α1 Z1 (cx.refl s1.has) s1 (zO r1' s1)⟩)
 | lst es=>
  have r1':=r1;obtain⟨a,vs,rfl,h1,h2⟩:=bP (ds:=es) s1 r1 rfl;exact .inl ⟨a,vs,rfl,h1,k1 _ H1 α1 Z1 (cx.refl s1.has) s1 (pB r1' s1 rfl)⟩
 | ref n=>
  cases hq':dE ab (.ref n) with
  | none=>
   simp only[srcOf,eP,hq']at k1;simp only[au]at r1;obtain⟨a,ha,rfl⟩:=r1;split at k1
   ·rename_i kvs hk
    obtain⟨a',ha',kvs',h1,h2⟩:=s1.cell hk;rw[ha]at ha';cases ha'
    refine .inr (.inr (.inr ⟨a,kvs',rfl,.inl ⟨h1,fun o => ?_⟩⟩))
    obtain⟨s2,g2⟩:=s1.put (o:=.dD o (.dK kvs')) (c:=.dF kvs) ha (fun o u z=>by rw[h1]at z;cases z) fun R hR=>⟨o,kvs',aS,h2.imp hR⟩
    exact k1 _ _ α1 Z1 g2 s2 (pC ha aS)
   ·rename_i kvs hk
    obtain⟨a',ha',o,kvs',h1,h2⟩:=s1.cell hk;rw[ha]at ha';cases ha'
    exact .inr (.inr (.inr ⟨a,kvs',rfl,.inr ⟨o,h1,k1 _ H1 α1 Z1 (cx.refl s1.has) s1 (pC ha h1)⟩⟩))
   ·exact k1.elim
  | some ds=>
   simp only[srcOf,eP,hq']at k1;have r1':=r1;obtain⟨a,vs,rfl,h1,h2⟩:=bP s1 r1 hq';exact .inl ⟨a,vs,rfl,h1,k1 _ H1 α1 Z1 (cx.refl s1.has) s1 (pB r1' s1 (by rw[hq'];rfl))⟩
 | str z=>
  simp only[au]at r1;subst r1;refine .inr (.inr (.inl ⟨z,rfl,k1 _ H1 α1 Z1 (cx.refl s1.has) s1 ?_⟩));intro α2 Z2 ao H2 ds g2 s2 hs;cases hs;refine⟨fun i d hd => ?_,fun i hi=>by show z.cps.size<=i;simpa using hi⟩
  have hi:i < z.cps.size:=by
   have:=(List.getElem?_eq_some_iff.mp hd).1;simpa using this
  refine⟨hi,fun y H3 hy => ?_⟩
  obtain⟨rfl,c,hc,rfl⟩:=hy;rw[List.getElem?_map]at hd;have hc':z.cps.toList[i]?=some c:=by simpa using hc
  rw[hc']at hd;cases hd;exact⟨Z2,cx.refl s2.has,s2,aW rfl⟩
 | non=>exact k1.elim
 | bl _=>exact k1.elim
 | int _=>exact k1.elim
 | dct _ _=>exact k1.elim
theorem wR{lo:Int}{n:Nat}:uN κ (.ints lo n) (Gy lo n) α Z H:=by
 intro α1 Z1 ab H1 ds g s hs;cases hs;refine⟨fun i d hd => ?_,fun i hi=>by rw[kF]at hi;exact hi⟩
 have hi:=(List.getElem?_eq_some_iff.mp hd).1;rw[kF]at hi;refine⟨hi,fun y H2 hy => ?_⟩
 obtain⟨rfl,rfl⟩:=hy;rw[ints_get _ _ _ _ hd];exact⟨Z1,cx.refl s.has,s,aW rfl⟩
theorem qh.Oy{r:ay (List D)}{f:List D->aG->ay Src}{R:It->Hp->Prop}{Q':List V->Hp->Prop}(h:qh κ Φ α Z H (r.bind f) R)(k:∀ ds ab,r=.ok ds ab->∀ vs H1 α1 Z1,cx α Z H α1 Z1 H1->bH κ α1 Z1 ab H1->aJ (au α1 Z1 H1) ds vs->qh κ Φ α1 Z1 H1 (f ds ab) R->Q' vs H1):pj κ Φ α Z H r Q':=by
 cases r with
 | ok d ab=>exact fun v H1 α1 Z1 g s q=>k d ab rfl v H1 α1 Z1 g s q (qh.from g h)
 | exc x ab=>exact h
 | bad=>exact h
theorem wU(hg:Gl X "range")(hm:X.mg "range"=none)(ha:qf X κ Φ [a] as)(hs:starEach [a] X.env=[(false,eval a X.env)]):vc X κ Φ tg (.Call (.Name "range" p) [a] [] pos) (cK as):=by
 intro aE Z0 H0 ρ Ω;refine PI.imp (t_ hg hm (ha aE Z0 H0 ρ Ω) hs) ?_;rintro σ H R ⟨α,Z,S,g⟩;refine⟨α,Z,S,qh.Oy (Q':=fun vs H1=>∃ j:Int,vs=[.int j] /\ -(2 ^ 62)<=j/\j < 2 ^ 62/\R (Gy 0 j.toNat) H1) g fun xs ab _ vs H1 α1 Z1 g1 s1 r1 k1 => ?_⟩
 unfold sZ at k1;split at k1
 ·obtain⟨v,rfl,r2⟩:=gU r1
  simp only[au]at r2;subst r2;split at k1
  ·rename_i hi
   have hi:=oU hi;exact⟨_,rfl,hi.1,hi.2,k1 _ H1 α1 Z1 (cx.refl s1.has) s1 wR⟩
  ·exact k1.elim
 ·exact k1.elim
noncomputable def nO(n:Nat)(d:D):Option aU:=match n,d with
 | 0,d=>some [some d]
 | n,.tup ds=>if ds.length=n then some (ds.map some) else none
 | _,_=>none
noncomputable def dS(cap:List Nat)(ρ:aU):aU:=cap.map fun i=>(ρ[i]?).join
def h_(nc:Bool)(mc:EM)(ρ:aU)(Ω:aG):ay Bool:=if nc=true then .ok true Ω else cQ (mc ρ Ω)
def s_(nc:Bool)(mc me:EM)(n:Nat)(τ:aU)(src:Src):Nat->Nat->List D->aG->ay (List D)
 | 0,_,_,_=>.bad
 | f + 1,i,acc,Ω=>match eR src Ω with
  | none=>.bad
  | some ds=>match ds[i]? with
   | none=>.ok acc Ω
   | some d=>match nO n d with
    | none=>.bad
    | some ts=>if small (acc.length + 1) then match h_ nc mc (ts++τ) Ω with
     | .ok true ab=>match me (ts++τ) ab with
      | .ok y ao=>s_ nc mc me n τ src f (i + 1) (acc++[y]) ao
      | _=>.bad
     | .ok false ab=>s_ nc mc me n τ src f (i + 1) acc ab
     | _=>.bad else .bad
def bf(me:EM)(nc:Bool)(mc:EM)(mi:IM)(n:Nat)(cap:List Nat):EM:=fun ρ Ω=>match mi ρ Ω with
 | .ok s ab=>match s_ nc mc me n (dS cap ρ) s fuel 0 [] ab with
  | .ok ys ao=>hZ ao (.lst ys)
  | _=>.bad
 | .exc x ab=>.exc x ab
 | .bad=>.bad
noncomputable def pD:gR:=fun _ _ _ _ _=>False
theorem pE{cap:List Nat}{ds:List D}{vs:List V}(S:cP κ aE Z0 H0 α Z Ω ρ σ H)(g:cx α Z H α1 Z1 H1)(s:bH κ α1 Z1 ak H1)(r:aJ (au α1 Z1 H1) ds vs) :
  cP κ α1 Z1 H1 α1 Z1 ak (ds.map some++dS cap ρ) (vs.map some++oW cap σ) H1:=by
 have hl:=r.length;refine⟨s,cx.refl s.has,?_,fun i d h => ?_⟩
 ·rw[List.length_append,List.length_append,List.length_map,List.length_map,hl]
  unfold oW dS;rw[List.length_map,List.length_map]
 ·by_cases hi:i < ds.length
  ·rw[List.getElem?_append_left (by simpa using hi),List.getElem?_map]at h
   rw[List.getElem?_append_left (by simpa[hl] using hi),List.getElem?_map]
   cases q:ds[i]? with
   | none=>rw[q]at h;cases h
   | some d'=>
    rw[q]at h;cases h;obtain⟨v,hv,rv⟩:=r.get q;exact⟨v,by rw[hv];rfl,rv⟩
  ·rw[List.getElem?_append_right (by simpa using hi)]at h
   rw[List.getElem?_append_right (by simpa[hl] using hi)]
   unfold dS at h;unfold oW;rw[List.length_map,List.getElem?_map]at h;rw[List.length_map,hl,List.getElem?_map];cases q:cap[i - ds.length]? with
   | none=>rw[q]at h;cases h
   | some j=>
    rw[q]at h;have h:(ρ[j]?).join=some d:=by simpa using h
    have hj:ρ[j]?=some (some d):=by
     cases q2:ρ[j]? with
     | none=>rw[q2]at h;cases h
     | some o=>rw[q2]at h;rw[show o=some d from h]
    obtain⟨v,hv,rv⟩:=S.val j d hj;refine⟨v,?_,S.st.dj g rv⟩
    show some ((σ[j]?).join)=_
    rw[hv];rfl
theorem cx.BQ(g:cx α Z H α' Z' H'){a:Addr}{o:HO}(hn:a∉α)(h:H a=some o):a∉α':=fun q=>by
 rcases g.Du a q with q | q
 ·exact hn q
 ·rw[h]at q;cases q
theorem cx.DG(g:cx α Z H α' Z' H'){a:Addr}{o:HO}(hn:¬ Z a)(h:H a=some o):¬ Z' a:=fun q=>by
 rcases g.new a q with q | q
 ·exact hn q
 ·rw[h]at q;cases q
theorem cx.side(g:cx α Z H α' Z' H'){a:Addr}{o:HO}(hn:a∉α)(h:H a=Option.none):cx α Z H α' Z' (upd H' a o):=
 ⟨g.pre,g.sub,g.new,g.Du,fun b u e hb=>by rw[aF (bb e h)];exact g.frm b u e hb,fun b hb=>by rw[aF (fun (q:b=a)=>hn (by rw[← q];exact hb))];exact g.has b hb,fun b o' u e=>by rw[aF (bb e h)];exact g.dD b o' u e⟩
theorem zQ{n:Nat}{d:D}{τ:aU}(h:nO n d=some τ):∃ ds:List D,τ=ds.map some:=by
 unfold nO at h;split at h
 ·cases h;exact⟨[d],rfl⟩
 ·split at h
  ·cases h;exact⟨_,rfl⟩
  ·cases h
 ·cases h
theorem bH.part(S:bH κ α Z Ω H){D0:Addr}{vs:List V}{ds:List D}(hD:H D0=some (.lst vs))(hn:D0∉α)(hz:¬ Z D0)(r:aJ (au α Z H) ds vs):bH κ (α++[D0]) Z (Ω++[.lst ds]) H:=by
 have pre:∀ (n:Nat) (a:Addr),α[n]?=some a->(α++[D0])[n]?=some a:=fun n a e=>by rw[List.getElem?_append_left (List.getElem?_eq_some_iff.mp e).1];exact e
 have mono:∀ d v,au α Z H d v->au (α++[D0]) Z H d v:=fun d v r=>r.mono pre (fun _ _ _ e=>e) fun _ z=>z
 refine⟨?_,?_,fun a ha hz' => ?_,S.dom⟩
 ·refine List.nodup_append.mpr ⟨S.sO,by simp,fun a ha b hb e => ?_⟩
  rw[List.mem_singleton.mp hb]at e;exact hn (e▸ha)
 ·exact aJ.append (S.yi.imp fun c a hc=>hc.imp mono (fun _ e=>e) fun _ _ _ e=>e) (.one ⟨vs,hD,r.imp mono⟩)
 ·rcases List.mem_append.mp ha with ha | ha
  ·exact S.sep a ha hz'
  ·rw[List.mem_singleton.mp ha]at hz';exact hz hz'
theorem bH.side(S:bH κ α Z Ω H){D0:Addr}{o:HO}(hn:D0∉α)(hz:¬ Z D0)(hm:∀ o u,H D0≠some (.dD o u)):bH κ α Z Ω (upd H D0 o)/\∀ d v,au α Z H d v->au α Z (upd H D0 o) d v:=by
 have mono:∀ d v,au α Z H d v->au α Z (upd H D0 o) d v:=fun d v r=>r.mono (fun _ _ e=>e) (fun a u z e=>by rw[aF (fun (q:a=D0)=>hz (by rw[← q];exact z))];exact e) fun _ z=>z
 have key:∀ {cs:List Cell} {as:List Addr},(∀ a∈as,a∈α)->aJ (fun c a=>hX κ (au α Z H) H a c) cs as->aJ (fun c a=>hX κ (au α Z (upd H D0 o)) (upd H D0 o) a c) cs as:=by
  intro cs as hin hA
  induction hA with
  | nil=>exact .nil
  | @cons c a cs as r t ih=>
   have hne:a≠D0:=fun q=>hn (q▸hin a (by simp))
   exact .cons (r.imp mono (fun u e=>by rw[aF hne];exact e) fun b o' u' e=>by rw[aF (fun q=>hm o' u' (by rw[← q];exact e))];exact e) (ih fun b hb=>hin b (by simp[hb]))
 exact⟨⟨S.sO,key (fun a h=>h) S.yi,S.sep,fun a z=>by rw[aF (fun (q:a=D0)=>hz (by rw[← q];exact z))];exact S.dom a z⟩,mono⟩
end
section
variable{X:Cx}{κ:Str->Addr->Prop}{Φ:gR}{tg iter elt:Expr}{ifs:List Expr}{scope:Scope}{tn cn:List Str}{cap:List Nat}{me mc:EM}{mi:IM}{nc:Bool}{pos:Pos}{n:Nat}
theorem uO{g:TG}(hit:vc X κ Φ tg iter mi)
  (hgt:∀ (d:D) (ds:List D) x α Z Ω H (σ':L2.St) (k:L2.St->Hp->Prop),nO n d=some (ds.map some)->bH κ α Z Ω H->au α Z H d x->(∀ vs,aJ (au α Z H) ds vs->k (vs.map some++σ') H)->g x (List.replicate tn.length none++σ') H k)
  (hb:∀ cl C s₀ H₀ fp,PG (blk X scope cl C (tn++cn) s₀ H₀ fp) tg g/\((ifs=[]/\nc=true)\/∃ c,ifs=[c]/\nc=false/\gy (blk X scope cl C (tn++cn) s₀ H₀ fp) κ pD c mc)/\bu (blk X scope cl C (tn++cn) s₀ H₀ fp) κ pD elt me) :
  ∀ aE Z0 H0 ρ Ω,∃ wi tc te,PI X tg iter wi/\(∀ cl C s₀ H₀ fp,PG (blk X scope cl C (tn++cn) s₀ H₀ fp) tg g/\y0 (blk X scope cl C (tn++cn) s₀ H₀ fp) ifs tc/\PE (blk X scope cl C (tn++cn) s₀ H₀ fp) elt te) /\
   ∀ σ H Q,tO κ Φ aE Z0 H0 (bf me nc mc mi n cap) ρ Ω σ H Q->mn wi tn.length cap g tc te σ H Q:=by
 intro aE Z0 H0 ρ Ω
 let tc:TT:=fun σ' H Q=>∃ α Z Ω cz,cP κ α Z H α Z Ω cz σ' H/\oi κ pD α Z H (h_ nc mc cz Ω) Q
 let te:TE:=fun σ' H Q=>∃ α Z Ω cz,cP κ α Z H α Z Ω cz σ' H/\bQ κ pD α Z H (me cz Ω) Q
 have hb':∀ cl C s₀ H₀ fp,PG (blk X scope cl C (tn++cn) s₀ H₀ fp) tg g/\y0 (blk X scope cl C (tn++cn) s₀ H₀ fp) ifs tc/\PE (blk X scope cl C (tn++cn) s₀ H₀ fp) elt te:=by
  intro cl C s₀ H₀ fp;obtain⟨h1,h2,h3⟩:=hb cl C s₀ H₀ fp;refine⟨h1,?_,?_⟩
  ·rcases h2 with ⟨e,hn⟩ | ⟨c,e,hn,h2⟩
   ·subst e
    intro pins s σ' H Q I q;obtain⟨α,Z,Ω,cz,S,k⟩:=q;rw[h_,if_pos hn]at k;exact y1 pins s σ' H Q I (k H α Z (cx.refl S.st.has) S.st)
   ·subst e
    intro pins s σ' H Q I q;obtain⟨α,Z,Ω,cz,S,k⟩:=q;rw[h_,if_neg (by rw[hn];exact Bool.false_ne_true)]at k
    exact y2 (h2 α Z H cz Ω) pins s σ' H Q I ⟨α,Z,S,k⟩
  ·intro pins s σ' H Q I q
   obtain⟨α,Z,Ω,cz,S,k⟩:=q;exact h3 α Z H cz Ω pins s σ' H Q I ⟨α,Z,S,k⟩
 refine⟨_,tc,te,hit aE Z0 H0 ρ Ω,hb',?_⟩;rintro σ H Q ⟨α,Z,S,k⟩;refine⟨α,Z,S,?_⟩;simp only[bf]at k;cases qi:mi ρ Ω with
 | exc x ab=>rw[qi]at k;exact k
 | bad=>rw[qi]at k;exact k.elim
 | ok src ab=>
  rw[qi]at k;dsimp only at k;intro J H1 α1 Z1 g1 s1 w1 D0 hD;cases qg:s_ nc mc me n (dS cap ρ) src fuel 0 [] ab with
  | exc x ao=>rw[qg]at k;exact k.elim
  | bad=>rw[qg]at k;exact k.elim
  | ok ys ao=>
   rw[qg]at k;dsimp only at k;have Hq:¬ Z1 D0:=fun z=>s1.dom D0 z hD
   have zR:D0∉α1:=fun z=>s1.has D0 z hD
   refine⟨fun i f vs H2=>∃ α2 Z2 BR acc,cx α1 Z1 H1 α2 Z2 H2/\bH κ α2 Z2 BR H2/\D0∉α2/\¬ Z2 D0/\H2 D0=some (.lst vs)/\aJ (au α2 Z2 H2) acc vs/\s_ nc mc me n (dS cap ρ) src f i acc BR=.ok ys ao,
    ⟨fuel,α1,Z1,ab,[],?_,?_,zR,Hq,aS,.nil,qg⟩,?_⟩
   ·exact⟨fun _ _ e=>e,fun _ z=>z,fun _ z=>.inl z,fun _ z=>.inl z,fun a o e _=>by rw[aF (bb e hD)];exact e,fun a ha=>by rw[aF (fun (q:a=D0)=>zR (by rw[← q];exact ha))];exact s1.has a ha,fun a o u e=>by rw[aF (bb e hD)];exact e⟩
   ·exact(s1.side zR Hq fun o u z=>by rw[hD]at z;cases z).1
   rintro i f vs H2 ⟨α2,Z2,BR,acc,g2,s2,nD,nZ,hD2,r2,e2⟩;refine⟨hD2,?_⟩;cases f with
   | zero=>cases e2
   | succ f=>
    simp only[s_]at e2;cases qs:eR src BR with
    | none=>rw[qs]at e2;cases e2
    | some ds=>
     rw[qs]at e2;dsimp only at e2;obtain⟨Oz,OA⟩:=w1 α2 Z2 BR H2 ds g2 s2 qs;cases qd:ds[i]? with
     | none=>
      rw[qd]at e2;cases e2;have hi:ds.length<=i:=List.getElem?_eq_none_iff.mp qd;refine .inl ⟨OA i hi,?_⟩;have sf:=s2.part hD2 nD nZ r2
      have gA:cx α1 Z1 H1 (α2++[D0]) Z2 H2:=⟨fun n a e=>by rw[List.getElem?_append_left (List.getElem?_eq_some_iff.mp (g2.pre n a e)).1];exact g2.pre n a e,g2.sub,g2.new,fun a ha=>by
       rcases List.mem_append.mp ha with ha | ha
       ·exact g2.Du a ha
       ·rw[List.mem_singleton.mp ha];exact .inr hD,g2.frm,g2.has,g2.dD⟩
      exact k _ H2 _ Z2 (g1.trans gA) sf (eO s2 D0)
     | some d=>
      rw[qd]at e2;dsimp only at e2;obtain⟨hgo,hyl⟩:=Oz i d qd;cases qt:nO n d with
      | none=>rw[qt]at e2;cases e2
      | some ts=>
       rw[qt]at e2;dsimp only at e2;obtain⟨es,rfl⟩:=zQ qt
       by_cases hsm:small (acc.length + 1)=true
       ·rw[if_pos hsm]at e2
        have hsm:=bx hsm;refine .inr ⟨hgo,by rw[r2.length];omega,fun x H3 yl => ?_⟩
        obtain⟨Z3,g3,s3,rx⟩:=hyl x H3 yl;have Ws:=g3.DG nZ hD2;have OB:=g3.frm D0 _ hD2 nD;refine hgt d es x α2 Z3 BR H3 (oW cap σ) _ qt s3 rx fun ws p_ => ?_
        have gB:=g1.trans (g2.trans g3);have SB:=pE (cap:=cap) S gB s3 p_;refine⟨α2,Z3,BR,_,SB,?_⟩;cases qc:h_ nc mc (es.map some++dS cap ρ) BR with
        | exc x bR=>rw[qc]at e2;cases e2
        | bad=>rw[qc]at e2;cases e2
        | ok b bR=>
         rw[qc]at e2;intro H5 Tv Z5 g5 s5;have OC:=g5.BQ nD OB;have Tw:=g5.DG Ws OB;have G9:=g5.frm D0 _ OB nD;cases b with
         | false=>
          refine oP ?_;exact⟨f,Nat.lt_succ_self _,Tv,Z5,bR,acc,g2.trans (g3.trans g5),s5,OC,Tw,G9,s3.jB g5 (s2.jB g3 r2),e2⟩
         | true=>
          refine oQ ?_;dsimp only at e2;have SC:=pE (cap:=cap) S (gB.trans g5) s5 (s3.jB g5 p_);refine⟨Tv,Z5,bR,_,SC,?_⟩;cases qe:me (es.map some++dS cap ρ) bR with
          | exc x eo=>rw[qe]at e2;cases e2
          | bad=>rw[qe]at e2;cases e2
          | ok y eo=>
           rw[qe]at e2;intro v H6 Wt Z6 g6 s6 rv;have Tx:=g6.BQ OC G9;have Tz:=g6.DG Tw G9;have TB:=g6.frm D0 _ G9 OC;obtain⟨s7,m7⟩:=s6.side (o:=.lst (vs++[v])) Tx Tz (fun o u z=>by rw[TB]at z;cases z)
           refine⟨TB,f,Nat.lt_succ_self _,Wt,Z6,eo,acc++[y],((g2.trans (g3.trans g5)).trans g6).side zR hD,s7,Tx,Tz,aS,?_,e2⟩;exact((s5.jB g6 (s3.jB g5 (s2.jB g3 r2))).append (.one rv)).imp m7
       ·rw[if_neg hsm]at e2;cases e2
theorem kW{x:Str}{px:Pos}(hit:vc X κ Φ (.Name x px) iter mi)(hx:scope.names.lookup x=some .local)(hnd:([x]++cn).Nodup)
  (hb:∀ cl C s₀ H₀ fp,((ifs=[]/\nc=true)\/∃ c,ifs=[c]/\nc=false/\gy (blk X scope cl C ([x]++cn) s₀ H₀ fp) κ pD c mc)/\bu (blk X scope cl C ([x]++cn) s₀ H₀ fp) κ pD elt me) :
  ∀ aE Z0 H0 ρ Ω,∃ wi tc te,PI X (.Name x px) iter wi/\(∀ cl C s₀ H₀ fp,PG (blk X scope cl C ([x]++cn) s₀ H₀ fp) (.Name x px) (ia 0)/\y0 (blk X scope cl C ([x]++cn) s₀ H₀ fp) ifs tc/\PE (blk X scope cl C ([x]++cn) s₀ H₀ fp) elt te) /\
   ∀ σ H Q,tO κ Φ aE Z0 H0 (bf me nc mc mi 0 cap) ρ Ω σ H Q->mn wi [x].length cap (ia 0) tc te σ H Q:=by
 have hl:(relabel scope X.env).names.lookup x=some .local:=lookup_relabel_local hx;refine uO (g:=ia 0) (tn:=[x]) hit (fun d ds y α Z Ω H σ' k ht S rx hk => ?_) fun cl C s₀ H₀ fp => ?_
 ·have ht:some [some d]=some (ds.map some):=ht
  have e:ds=[d]:=by
   injection ht with ht;cases ds with
   | nil=>cases ht
   | cons a r=>
    cases r with
    | nil=>simp only[List.map_cons,List.map_nil,List.cons.injEq,Option.some.injEq,and_true]at ht;rw[ht]
    | cons _ _=>cases ht
  subst e;exact hk [y] (.one rx)
 ·obtain⟨h1,h2⟩:=hb cl C s₀ H₀ fp
  exact⟨mU (X:=blk X scope cl C ([x]++cn) s₀ H₀ fp) hnd rfl (.inl hl) (.inr hl),h1,h2⟩
theorem wV{x:Str}{px:Pos}(hc:X.calm=true)(B:jy X scope [x] cn cap)(hs:∀ z,foldedSetIterable iter X.env z=pure z)(hit:vc X κ Φ (.Name x px) iter mi)(hx:scope.names.lookup x=some .local)(hnd:([x]++cn).Nodup)
  (hb:∀ cl C s₀ H₀ fp,((ifs=[]/\nc=true)\/∃ c,ifs=[c]/\nc=false/\gy (blk X scope cl C ([x]++cn) s₀ H₀ fp) κ pD c mc)/\bu (blk X scope cl C ([x]++cn) s₀ H₀ fp) κ pD elt me) :
  bu X κ Φ (.ListComp elt [⟨.Name x px,iter,ifs,0⟩] scope pos) (bf me nc mc mi 0 cap):=by
 intro aE Z0 H0 ρ Ω;obtain⟨wi,tc,te,h1,h2,h3⟩:=kW (cap:=cap) hit hx hnd hb aE Z0 H0 ρ Ω;exact PE.imp (y3 hc B h1 hs (jz 1 (by decide)) h2) h3
end
inductive gM where
 | nx (ρ:aU) (Ω:aG) | bk (ρ:aU) (Ω:aG) | ct (ρ:aU) (Ω:aG) | rt (d:D) (Ω:aG) | exc (x:D) (Ω:aG) | bad
abbrev SM:=aU->aG->gM
def eE(κ:Str->Addr->Prop)(Φ:gR)(aE:List Addr)(Z0:Addr->Prop)(H0:Hp)(E:Ends):gM->Prop
 | .nx ρ Ω=>∀ σ H α Z,cP κ aE Z0 H0 α Z Ω ρ σ H->E.nx σ H
 | .bk ρ Ω=>∀ σ H α Z,cP κ aE Z0 H0 α Z Ω ρ σ H->E.bk σ H
 | .ct ρ Ω=>∀ σ H α Z,cP κ aE Z0 H0 α Z Ω ρ σ H->E.ct σ H
 | .rt d Ω=>∀ v H α Z,cx aE Z0 H0 α Z H->bH κ α Z Ω H->au α Z H d v->E.rt v H
 | .exc x Ω=>∀ H α Z,cx aE Z0 H0 α Z H->bH κ α Z Ω H->Φ x Ω α Z H
 | .bad=>False
noncomputable def Hr(κ:Str->Addr->Prop)(Φ:gR)(aE:List Addr)(Z0:Addr->Prop)(H0:Hp)(c:SM)(ρ:aU)(Ω:aG):TS:=fun E σ H=>∃ α Z,cP κ aE Z0 H0 α Z Ω ρ σ H/\eE κ Φ aE Z0 H0 E (c ρ Ω)
def pF(X:Cx)(κ:Str->Addr->Prop)(Φ:gR)(st:Stmt)(c:SM):Prop:=∀ aE Z0 H0 ρ Ω,PS X st (Hr κ Φ aE Z0 H0 c ρ Ω)
def lP(X:Cx)(κ:Str->Addr->Prop)(Φ:gR)(sts:List Stmt)(c:SM):Prop:=∀ aE Z0 H0 ρ Ω,jt X sts (Hr κ Φ aE Z0 H0 c ρ Ω)
noncomputable def bU{β:Type}(r:ay β)(k:β->aG->gM):gM:=match r with
 | .ok a Ω=>k a Ω
 | .exc x Ω=>.exc x Ω
 | .bad=>.bad
noncomputable def aj:SM:=fun ρ Ω=>.nx ρ Ω
noncomputable def ah(a b:SM):SM:=fun ρ Ω=>match a ρ Ω with
 | .nx cz ak=>b cz ak
 | r=>r
def ax(i:Nat)(m:EM):SM:=fun ρ Ω=>bU (m ρ Ω) fun d ab=>.nx (ρ.set i (some d)) ab
def cm(m:EM):SM:=fun ρ Ω=>bU (m ρ Ω) fun _ ab=>.nx ρ ab
def bg(m:EM):SM:=fun ρ Ω=>bU (m ρ Ω) fun d ab=>.rt d ab
def dG(m:EM)(a b:SM):SM:=fun ρ Ω=>bU (cQ (m ρ Ω)) fun t ab=>if t=true then a ρ ab else b ρ ab
noncomputable def bI:SM:=fun _ _=>.bad
def eS(m:EM)(b:SM):Nat->SM
 | 0,_,_=>.bad
 | f + 1,ρ,Ω=>bU (cQ (m ρ Ω)) fun t ab=>if t=true then (match b ρ ab with
  | .nx cz ak=>eS m b f cz ak
  | .ct cz ak=>eS m b f cz ak
  | .bk cz ak=>.nx cz ak
  | r=>r) else .nx ρ ab
def ji(m:EM)(b:SM):SM:=eS m b fuel
noncomputable def fU:List Nat->List D->aU->aU
 | i::is,d::ds,ρ=>fU is ds (ρ.set i (some d))
 | _,_,ρ=>ρ
noncomputable def bV(i:Nat)(d:D)(ρ:aU):Option aU:=some (ρ.set i (some d))
def fF(is:List Nat)(d:D)(ρ:aU):Option aU:=match d with
 | .tup ds=>if ds.length=is.length then some (fU is ds ρ) else none
 | _=>none
def fG(put:D->aU->Option aU)(src:Src)(b:SM):Nat->Nat->SM
 | 0,_,_,_=>.bad
 | f + 1,i,ρ,Ω=>match eR src Ω with
  | none=>.bad
  | some ds=>match ds[i]? with
   | none=>.nx ρ Ω
   | some d=>match put d ρ with
    | none=>.bad
    | some yk=>match b yk Ω with
     | .nx cz ak=>fG put src b f (i + 1) cz ak
     | .ct cz ak=>fG put src b f (i + 1) cz ak
     | .bk cz ak=>.nx cz ak
     | r=>r
def cF(put:D->aU->Option aU)(mi:IM)(b:SM):SM:=fun ρ Ω=>bU (mi ρ Ω) fun s ab=>fG put s b fuel 0 ρ ab
def rh(is:List Nat)(m:EM):SM:=fun ρ Ω=>bU (m ρ Ω) fun d ab=>match fF is d ρ with
 | some cz=>.nx cz ab
 | none=>.bad
section
variable{X:Cx}{κ:Str->Addr->Prop}{Φ:gR}{α α' aE α1:List Addr}{Z Z' Z0 Z1:Addr->Prop}{Ω ak:aG}{H H' H0 H1:Hp}{ρ:aU}{σ:L2.St}{E:Ends}{a b e ce o tg:Expr}{st:Stmt}{rest ta tb:List Stmt}{m:EM}{mi:IM}{ca cb:SM}{pos pos':Pos}
theorem cP.set(S:cP κ aE Z0 H0 α Z Ω ρ σ H){d:D}{v:V}(r:au α Z H d v)(i:Nat):cP κ aE Z0 H0 α Z Ω (ρ.set i (some d)) (σ.set i (some v)) H:=by
 refine⟨S.st,S.gr,by simp[S.len],fun j d' h => ?_⟩
 by_cases hij:i=j
 ·subst hij
  have hl:i < ρ.length:=by
   have:=(List.getElem?_eq_some_iff.mp h).1;simpa using this
  rw[List.getElem?_set_self hl]at h;cases h;exact⟨v,by rw[List.getElem?_set_self (by rw[S.len];exact hl)],r⟩
 ·rw[List.getElem?_set_ne hij]at h ⊢
  exact S.val j d' h
theorem eE.use{r:ay D}{k:D->aG->gM}{Q:VK}(S:cP κ aE Z0 H0 α Z Ω ρ σ H)(f:eE κ Φ aE Z0 H0 E (bU r k))(h:∀ d ab v H1 α1 Z1,r=.ok d ab->cx α Z H α1 Z1 H1->cP κ aE Z0 H0 α1 Z1 ab ρ σ H1->au α1 Z1 H1 d v->eE κ Φ aE Z0 H0 E (k d ab)->Q v H1):bQ κ Φ α Z H r Q:=by
 cases r with
 | ok d ab=>exact fun v H1 α1 Z1 g s q=>h d ab v H1 α1 Z1 rfl g (S.grow g s) q f
 | exc x ab=>exact fun H1 α1 Z1 g s=>f H1 α1 Z1 (S.gr.trans g) s
 | bad=>exact f
theorem eE.Hs{r:ay Bool}{k:Bool->aG->gM}{Q:Bool->Hp->Prop}(S:cP κ aE Z0 H0 α Z Ω ρ σ H)(f:eE κ Φ aE Z0 H0 E (bU r k))(h:∀ t ab H1 α1 Z1,r=.ok t ab->cx α Z H α1 Z1 H1->cP κ aE Z0 H0 α1 Z1 ab ρ σ H1->eE κ Φ aE Z0 H0 E (k t ab)->Q t H1):oi κ Φ α Z H r Q:=by
 cases r with
 | ok d ab=>exact fun H1 α1 Z1 g s=>h d ab H1 α1 Z1 rfl g (S.grow g s) f
 | exc x ab=>exact fun H1 α1 Z1 g s=>f H1 α1 Z1 (S.gr.trans g) s
 | bad=>exact f
theorem jt.ex{ι:Type}{t:ι->TS}{sts:List Stmt}(h:∀ i,jt X sts (t i)):jt X sts (fun D σ H=>∃ i,t i D σ H):=fun pins s σ H D I ⟨i,q⟩=>h i pins s σ H D I q
theorem zS:lP X κ Φ [] aj:=by
 intro aE Z0 H0 ρ Ω;refine jt.imp yt ?_;rintro E σ H ⟨α,Z,S,f⟩;exact f σ H α Z S
theorem wW(h1:pF X κ Φ st ca)(h2:lP X κ Φ rest cb):lP X κ Φ (st::rest) (ah ca cb):=by
 intro aE Z0 H0 ρ Ω;refine jt.imp (vk (h1 aE Z0 H0 ρ Ω) (jt.ex fun p:aU×aG=>h2 aE Z0 H0 p.1 p.2)) ?_
 rintro E σ H ⟨α,Z,S,f⟩;refine⟨α,Z,S,?_⟩;simp only[ah]at f;cases q:ca ρ Ω with
 | nx cz ak=>rw[q]at f;exact fun σ' H' α' Z' S'=>⟨(cz,ak),α',Z',S',f⟩
 | bk cz ak=>rw[q]at f;exact f
 | ct cz ak=>rw[q]at f;exact f
 | rt d ak=>rw[q]at f;exact f
 | exc x ak=>rw[q]at f;exact f
 | bad=>rw[q]at f;exact f.elim
theorem zT(h:bu X κ Φ e m):pF X κ Φ (.Return (some e) pos) (bg m):=by
 intro aE Z0 H0 ρ Ω;refine PS.imp (CJ (h aE Z0 H0 ρ Ω)) ?_;rintro E σ H ⟨α,Z,S,f⟩;exact⟨α,Z,S,eE.use S f fun d ab v H1 α1 Z1 _ g S1 r f1=>f1 v H1 α1 Z1 S1.gr S1.st r⟩
theorem tf{i:Nat}{x:Str}(hN:X.N.Nodup)(hi:X.N[i]?=some x)(hx:Loc X.env.scope x)(hf:X.fn x=true\/X.env.scope.names.lookup x=some .local)(hs:swapsWith e (some (.Name x pos')) pos.line X.env=pure false)(h:bu X κ Φ e m) :
  pF X κ Φ (.Assign [.Name x pos'] e pos) (ax i m):=by
 intro aE Z0 H0 ρ Ω;refine PS.imp (CS hN hi hx (h aE Z0 H0 ρ Ω) hs hf) ?_;rintro E σ H ⟨α,Z,S,f⟩;exact⟨α,Z,S,eE.use S f fun d ab v H1 α1 Z1 _ g S1 r f1=>f1 _ H1 α1 Z1 (S1.set r i)⟩
theorem wX{i:Nat}{x:Str}{elt iter tg:Expr}{ifs:List Expr}{scope:Scope}{tn cn:List Str}{cap:List Nat}{g:TG}(hN:X.N.Nodup)(hi:X.N[i]?=some x)(hx:X.env.scope.names.lookup x=some .local)
  (hsw:swapsWith (.ListComp elt [⟨tg,iter,ifs,0⟩] scope pos) (some (.Name x pos')) pos'.line X.env=pure true) (hc:X.calm=true) (B:jy X scope tn cn cap) (hs:∀ x,foldedSetIterable iter X.env x=pure x)
  (Dq:∀ v σ H Q,g v σ H Q->g v σ H fun σ' H'=>Q σ' H'/\σ'.length=σ.length/\∀ j,tn.length<=j->σ'[j]?=σ[j]?)
  (h:∀ aE Z0 H0 ρ Ω,∃ wi tc te,PI X tg iter wi/\(∀ cl C s₀ H₀ fp,PG (blk X scope cl C (tn++cn) s₀ H₀ fp) tg g/\y0 (blk X scope cl C (tn++cn) s₀ H₀ fp) ifs tc/\PE (blk X scope cl C (tn++cn) s₀ H₀ fp) elt te) /\
   ∀ σ H Q,tO κ Φ aE Z0 H0 m ρ Ω σ H Q->mn wi tn.length cap g tc te σ H Q) {spos:Pos} (hl:spos.line=pos'.line) :
  pF X κ Φ (.Assign [.Name x pos'] (.ListComp elt [⟨tg,iter,ifs,0⟩] scope pos) spos) (ax i m):=by
 intro aE Z0 H0 ρ Ω;obtain⟨wi,tc,te,h1,h2,h3⟩:=h aE Z0 H0 ρ Ω;refine PS.imp (qK hN hi hx (by rw[hl];exact hsw) hc B h1 hs Dq h2) ?_
 rintro E σ H ⟨α,Z,S,f⟩;exact h3 σ H _ ⟨α,Z,S,eE.use S f fun d ab v H1 α1 Z1 _ g S1 r f1=>f1 _ H1 α1 Z1 (S1.set r i)⟩
theorem zU(hs:swapsWith e none pos.line X.env=pure false)(h:bu X κ Φ e m):pF X κ Φ (.Expr e pos) (cm m):=by
 intro aE Z0 H0 ρ Ω;refine PS.imp (yu (h aE Z0 H0 ρ Ω) hs) ?_;rintro E σ H ⟨α,Z,S,f⟩;exact⟨α,Z,S,eE.use S f fun d ab v H1 α1 Z1 _ g S1 r f1=>f1 _ H1 α1 Z1 S1⟩
theorem DH(hc:gy X κ Φ e m)(ha:lP X κ Φ ta ca)(hb:lP X κ Φ tb cb):pF X κ Φ (.If e ta tb pos) (dG m ca cb):=by
 intro aE Z0 H0 ρ Ω;refine PS.imp (Gv (hc aE Z0 H0 ρ Ω) (jt.ex fun ab=>ha aE Z0 H0 ρ ab) (jt.ex fun ab=>hb aE Z0 H0 ρ ab)) ?_
 rintro E σ H ⟨α,Z,S,f⟩;refine⟨α,Z,S,eE.Hs S f fun t ab H1 α1 Z1 _ g S1 f1 => ?_⟩
 cases t with
 | true=>rw[if_pos rfl]at f1;exact oQ ⟨ab,α1,Z1,S1,f1⟩
 | false=>rw[if_neg Bool.false_ne_true]at f1;exact oP ⟨ab,α1,Z1,S1,f1⟩
theorem mJ:pF X κ Φ st bI:=fun aE Z0 H0 ρ Ω pins s σ H E I ⟨α,Z,S,f⟩=>f.elim
theorem uP(hp:PassesOwn (model X.prog X.w) X.A X.env X.xe)(hc:gy X κ Φ e m)(hb:lP X κ Φ tb cb):pF X κ Φ (.While e tb [] pos) (ji m cb):=by
 intro aE Z0 H0 ρ Ω;refine PS.imp (vo hp (PT.ex fun p:aU×aG=>hc aE Z0 H0 p.1 p.2) (jt.ex fun p:aU×aG=>hb aE Z0 H0 p.1 p.2)) ?_
 rintro E σ H ⟨α,Z,S,f⟩;refine⟨fun f σ H=>∃ α Z ρ Ω,cP κ aE Z0 H0 α Z Ω ρ σ H/\eE κ Φ aE Z0 H0 E (eS m cb f ρ Ω),⟨fuel,α,Z,ρ,Ω,S,f⟩,?_⟩
 rintro f CL H1 ⟨α1,Z1,yk,ab,S1,f1⟩;cases f with
 | zero=>exact f1.elim
 | succ f=>
  simp only[eS]at f1;refine⟨(yk,ab),α1,Z1,S1,eE.Hs S1 f1 fun t ao H2 α2 Z2 _ g S2 f2 => ?_⟩
  cases t with
  | false=>
   rw[if_neg Bool.false_ne_true]at f2;exact oP (f2 _ _ _ _ S2)
  | true=>
   rw[if_pos rfl]at f2;refine oQ ⟨fun σ' H'=>∃ α Z ρ Ω,cP κ aE Z0 H0 α Z Ω ρ σ' H'/\eE κ Φ aE Z0 H0 E (eS m cb f ρ Ω),fun σ' H' q=>⟨f,Nat.lt_succ_self f,q⟩,(yk,ao),α2,Z2,S2,?_⟩
   cases q:cb yk ao with
   | nx cz ak=>rw[q]at f2;exact fun σ' H' α' Z' S'=>⟨α',Z',cz,ak,S',f2⟩
   | ct cz ak=>rw[q]at f2;exact fun σ' H' α' Z' S'=>⟨α',Z',cz,ak,S',f2⟩
   | bk cz ak=>rw[q]at f2;exact f2
   | rt d ak=>rw[q]at f2;exact f2
   | exc x ak=>rw[q]at f2;exact f2
   | bad=>rw[q]at f2;exact f2.elim
def wY(κ:Str->Addr->Prop)(put:D->aU->Option aU)(g:TG):Prop:=
 ∀ (d:D) (x:V) aE Z0 H0 α Z Ω ρ cz σ H (k:L2.St->Hp->Prop),cP κ aE Z0 H0 α Z Ω ρ σ H->au α Z H d x->put d ρ=some cz->(∀ σ',cP κ aE Z0 H0 α Z Ω cz σ' H->k σ' H)->g x σ H k
theorem ti{put:D->aU->Option aU}{g:TG}(hp:PassesOwn (model X.prog X.w) X.A X.env X.xe)(hc:X.calm=true)(hi:vc X κ Φ tg e mi)(hg:PG X tg g)(Wu:wY κ put g)(hb:lP X κ Φ tb cb)(hs:∀ x,foldedSetIterable e X.env x=pure x):pF X κ Φ (.For tg e tb [] pos) (cF put mi cb):=by
 intro aE Z0 H0 ρ Ω;have hb':jt X tb (fun D σ H=>∃ α1 Z1 H1 cz ak,Hr κ Φ α1 Z1 H1 cb cz ak D σ H):=fun pins s σ H D I ⟨α1,Z1,H1,cz,ak,q⟩=>hb α1 Z1 H1 cz ak pins s σ H D I q
 refine PS.imp (CU hp hc (hi aE Z0 H0 ρ Ω) hg hb' hs) ?_;rintro E σ H ⟨α,Z,S,f⟩;refine⟨α,Z,S,?_⟩;simp only[cF]at f;cases qi:mi ρ Ω with
 | exc x ab=>rw[qi]at f;exact fun H1 α1 Z1 g s=>f H1 α1 Z1 (S.gr.trans g) s
 | bad=>rw[qi]at f;exact f.elim
 | ok src ab=>
  rw[qi]at f;have f:eE κ Φ aE Z0 H0 E (fG put src cb fuel 0 ρ ab):=f;intro J H1 α1 Z1 g1 s1 w1;have S1:=S.grow g1 s1;refine⟨fun i f σ H=>∃ α2 Z2 ρ Ω,cP κ aE Z0 H0 α2 Z2 Ω ρ σ H/\cx α1 Z1 H1 α2 Z2 H/\eE κ Φ aE Z0 H0 E (fG put src cb f i ρ Ω),⟨fuel,α1,Z1,ρ,ab,S1,cx.refl s1.has,f⟩,?_⟩
  rintro i f L0 H2 ⟨α2,Z2,TC,ao,S2,g2,f2⟩;cases f with
  | zero=>exact f2.elim
  | succ f=>
   simp only[fG]at f2;cases qs:eR src ao with
   | none=>rw[qs]at f2;exact f2.elim
   | some ds=>
    rw[qs]at f2;dsimp only at f2;obtain⟨Oz,OA⟩:=w1 α2 Z2 ao H2 ds g2 S2.st qs;cases qd:ds[i]? with
    | none=>
     rw[qd]at f2;exact .inl ⟨OA i (List.getElem?_eq_none_iff.mp qd),f2 L0 H2 α2 Z2 S2⟩
    | some d=>
     rw[qd]at f2;dsimp only at f2;obtain⟨hgo,hyl⟩:=Oz i d qd;cases qp:put d TC with
     | none=>rw[qp]at f2;exact f2.elim
     | some Mc=>
      rw[qp]at f2;dsimp only at f2;refine .inr ⟨hgo,fun σ' H'=>∃ α3 Z3 ρ Ω,cP κ aE Z0 H0 α3 Z3 Ω ρ σ' H'/\cx α1 Z1 H1 α3 Z3 H'/\eE κ Φ aE Z0 H0 E (fG put src cb f (i + 1) ρ Ω),fun σ' H' q=>⟨f,Nat.lt_succ_self f,q⟩,fun x H3 yl => ?_⟩
      obtain⟨Z3,g3,s3,rx⟩:=hyl x H3 yl;have S3:=S2.grow g3 s3;refine Wu d x aE Z0 H0 α2 Z3 ao TC Mc L0 H3 _ S3 rx qp fun Wv S4 => ?_
      have base:cx aE Z0 H0 α1 Z1 H1:=S1.gr;have gL:cx α1 Z1 H1 α2 Z3 H3:=g2.trans g3;have S5:cP κ α1 Z1 H1 α2 Z3 ao Mc Wv H3:=⟨S4.st,gL,S4.len,S4.val⟩;have out:∀ {α3 Z4 aO cz σ' H'},cP κ α1 Z1 H1 α3 Z4 aO cz σ' H'->cP κ aE Z0 H0 α3 Z4 aO cz σ' H':=fun S'=>⟨S'.st,base.trans S'.gr,S'.len,S'.val⟩
      refine⟨α1,Z1,H1,Mc,ao,α2,Z3,S5,?_⟩;cases q:cb Mc ao with
      | nx cz ak=>rw[q]at f2;exact fun σ' H' α' Z' S'=>⟨α',Z',cz,ak,out S',S'.gr,f2⟩
      | ct cz ak=>rw[q]at f2;exact fun σ' H' α' Z' S'=>⟨α',Z',cz,ak,out S',S'.gr,f2⟩
      | bk cz ak=>rw[q]at f2;exact fun σ' H' α' Z' S'=>f2 σ' H' α' Z' (out S')
      | rt d ak=>rw[q]at f2;exact fun v H' α' Z' g s r=>f2 v H' α' Z' (base.trans g) s r
      | exc x ak=>rw[q]at f2;exact fun H' α' Z' g s=>f2 H' α' Z' (base.trans g) s
      | bad=>rw[q]at f2;exact f2.elim
theorem DI(i:Nat):wY κ (bV i) (ia i):=fun d x aE Z0 H0 α Z Ω ρ cz σ H k S r e h=>by
 cases e;exact h _ (S.set r i)
theorem kX:∀ (is:List Nat) (ds:List D) (vs:List V) {ρ:aU} {σ:L2.St},aJ (au α Z H) ds vs->ds.length=is.length->cP κ aE Z0 H0 α Z Ω ρ σ H->∀ (k:L2.St->Hp->Prop),(∀ σ',cP κ aE Z0 H0 α Z Ω (fU is ds ρ) σ' H->k σ' H)->je is vs σ H k
 | [],[],vs,ρ,σ,r,_,S,k,h=>by rw[r.nil_inv];exact⟨rfl,h σ S⟩
 | i::is,d::ds,vs,ρ,σ,r,hl,S,k,h=>by
  obtain⟨v,ws,rfl,r1,r2⟩:=r.cons_inv;exact⟨v,ws,rfl,kX is ds ws r2 (by simpa using hl) (S.set r1 i) k h⟩
 | [],_::_,_,_,_,_,hl,_,_,_=>by simp at hl
 | _::_,[],_,_,_,_,hl,_,_,_=>by simp at hl
theorem wZ{K:PySem.W.Frag}(is:List Nat):wY κ (fF is) (yw K is.length (je is)):=fun d x aE Z0 H0 α Z Ω ρ cz σ H k S r e h=>by
 cases d with
 | tup ds=>
  simp only[fF]at e;split at e
  ·rename_i hl
   cases e;obtain⟨a,vs,rfl,_,h1,h2⟩:=eD r;exact⟨a,vs,rfl,uq (.inl h1),by rw[h2.length];exact hl,kX is ds vs h2 hl S k h⟩
  ·cases e
 | _=>cases e
theorem zV{es:List Expr}{j:Nat}{p pos:Pos}{is:List Nat}(hg:PG X (.Tuple es j p) (yw X.K is.length (je is)))(hp:wA e=true)(h:bu X κ Φ e m):pF X κ Φ (.Assign [.Tuple es j p] e pos) (rh is m):=by
 intro aE Z0 H0 ρ Ω;refine PS.imp (CQ (h aE Z0 H0 ρ Ω) hg (by cases e<;>first | rfl | (cases hp)) (by cases e<;>first | rfl | (cases hp))) ?_
 rintro E σ H ⟨α,Z,S,f⟩;refine⟨α,Z,S,eE.use S f fun d ab v H1 α1 Z1 _ g S1 r f1 => ?_⟩
 split at f1
 ·rename_i cz hq
  exact wZ (K:=X.K) is d v aE Z0 H0 α1 Z1 ab ρ cz σ H1 _ S1 r hq fun σ' S'=>f1 σ' H1 α1 Z1 S'
 ·exact f1.elim
end
abbrev ba:=List D->aG->ay D
def dU(κ:Str->Addr->Prop)(F:ba):Sp:=fun vs H Q _=>∃ α Z Ω ds,bH κ α Z Ω H/\aJ (au α Z H) ds vs/\bQ κ pD α Z H (F ds Ω) Q
noncomputable def lE{β:Type}(r:ay β):ay β:=match r with
 | .ok d Ω=>.ok d Ω
 | _=>.bad
def aK(F:ba):ba:=fun xs Ω=>lE (F xs Ω)
structure w4(X:Cx)(κ:Str->Addr->Prop)(k:Nat)(x:Str)(F:ba):Prop where
 ex:∃ (f:Addr) (fd:FuncData) (ps:List Str),X.mg x=some (.ref f)/\PySem.W.keepIn X.K (.ref f)=true/\Binds X.K fd ps []/\cU X.prog X.w X.K X.mg X.base jS k f fd ps (dU κ F)
noncomputable def pG(Ω:aG):D->Option (Nat×Str×List (Str×D))
 | .ref k=>match Ω[k]? with
  | some (.ins C fs)=>some (k,C,fs)
  | _=>none
 | _=>none
def dO(Cs:List Str)(f:Str)(x:D)(Ω:aG):ay D:=match pG Ω x with
 | some (_,C,fs)=>if Cs.contains C then (match fs.lookup f with
  | some d=>.ok d Ω
  | none=>.bad) else .bad
 | none=>.bad
noncomputable def mK(f:Str)(v:D):List (Str×D)->List (Str×D)
 | []=>[(f,v)]
 | (g,x)::r=>if g=f then (g,v)::r else (g,x)::mK f v r
def aV(C m:Str)(F:ba)(mo:EM)(as:AM):EM:=fun ρ Ω=>(mo ρ Ω).bind fun x ab=>match pG ab x with
 | some (_,C',fs)=>if C'=C/\fs.lookup m=none then (as ρ ab).bind fun xs ao=>aK F (x::xs) ao else .bad
 | none=>.bad
noncomputable def jk(C:Str)(F:ba)(xs:List D)(Ω:aG):ay D:=match F (.ref Ω.length::xs) (Ω++[.ins C []]) with
 | .ok .non ao=>.ok (.ref Ω.length) ao
 | _=>.bad
def cY(Cs:List Str)(f:Str)(mo mv:EM):SM:=fun ρ Ω=>bU (mv ρ Ω) fun y ab=>bU (mo ρ ab) fun x ao=>match pG ao x with
 | some (k,C,fs)=>if Cs.contains C && decide (fs.length < 1000) then .nx ρ (ao.set k (.ins C (mK f y fs))) else .bad
 | none=>.bad
def jD(x y v:D)(Ω:aG):Option aG:=match x with
 | .ref k=>match Ω[k]? with
  | some (.dK kvs)=>match nB y with
   | some ky=>if small (kvs.length + 1) then some (Ω.set k (.dK (dR kvs ky v))) else none
   | none=>none
  | some (.dT kvs)=>match wH y with
   | some ky=>if small (kvs.length + 1) then some (Ω.set k (.dT (dR kvs ky v))) else none
   | none=>none
  | some (.lst ds)=>match y with
   | .int i=>match L2.vI ds.length i with
    | some n=>some (Ω.set k (.lst (ds.set n v)))
    | none=>none
   | _=>none
  | _=>none
 | _=>none
def ej(md mk mv:EM):SM:=fun ρ Ω=>bU (mv ρ Ω) fun v ab=>bU (md ρ ab) fun x ao=>bU (mk ρ ao) fun y aO=>match jD x y v aO with
 | some bR=>.nx ρ bR
 | none=>.bad
section
variable{X:Cx}{κ:Str->Addr->Prop}{Φ:gR}{α α' aE α1:List Addr}{Z Z' Z0 Z1:Addr->Prop}{Ω ak:aG}{H H' H0 H1:Hp}{ρ:aU}{σ:L2.St}{Q:VK}{E:Ends}{a b e ce o tg:Expr}{es:List Expr}{st:Stmt}{rest ta tb:List Stmt}{m mo mv ma md mk:EM}{as:AM}{ca cb:SM}{pos pos' p apos:Pos}{F:ba}{C:Str}
theorem bQ.ok0{r:ay D}(h:bQ κ Φ α Z H (lE r) Q):bQ κ pD α Z H r Q:=by
 cases r with
 | ok d Ω=>exact h
 | exc x Ω=>exact h.elim
 | bad=>exact h
theorem w6{k:Nat}{x:Str}(F0:w4 X κ k x F)(hr:cD k X.A)(hg:Gl X x)(hdb:(x == ("__debug__":Str))=false)
  (he:starEach (e::es) X.env=(false,eval e X.env)::starEach es X.env) (hpl:(backTo pos (starEach es X.env)).any (·.1)=false) (ha:qf X κ Φ (e::es) as) :
  bu X κ Φ (.Call (.Name x p) (e::es) [] pos) (mN (aK F) as):=by
 obtain⟨f,fd,ps,hm,hk,hb,F1⟩:=F0.ex;intro aE Z0 H0 ρ Ω;refine PE.imp (rY F1 hr hg hm hk hb .nil kq (ha aE Z0 H0 ρ Ω) hdb he hpl) ?_;rintro σ H Q ⟨α,Z,S,g⟩;refine⟨α,Z,S,pj.use g fun xs ab _ vs H1 α1 Z1 g1 s1 r1 k1 => ?_⟩
 show dU κ F (vs++[]) H1 Q E0
 rw[List.append_nil];exact⟨α1,Z1,ab,xs,s1,r1,bQ.ok0 k1⟩
theorem uQ{k:Nat}{x:Str}(F0:w4 X κ k x F)(hr:cD k X.A)(hg:Gl X x)(hdb:(x == ("__debug__":Str))=false):bu X κ Φ (.Call (.Name x p) [] [] pos) (mN (aK F) af):=by
 obtain⟨f,fd,ps,hm,hk,hb,F1⟩:=F0.ex;intro aE Z0 H0 ρ Ω;refine PE.imp (vE F1 hr hg hm hk hb .nil kq hdb) ?_;rintro σ H Q ⟨α,Z,S,g⟩;exact⟨α,Z,Ω,[],S.st,.nil,bQ.ok0 g⟩
theorem il{R:D->V->Prop}{f:Str}:∀ {fs:List (Str×D)} {fs':List (Str×V)},gw R fs fs'->(∀ d,fs.lookup f=some d->∃ v,fs'.lookup f=some v/\R d v)/\(fs.lookup f=none->fs'.lookup f=none):=by
 intro fs fs' h;unfold gw at h
 induction h with
 | nil=>exact⟨fun d e=>(by cases e),fun _=>rfl⟩
 | @cons p q ps qs r t ih=>
  obtain⟨r1,r2⟩:=r;obtain⟨k,d⟩:=p;obtain⟨k',v⟩:=q;cases r1;rw[List.lookup_cons,List.lookup_cons];cases f == k with
  | true=>exact⟨fun d' e=>by cases e;exact⟨v,rfl,r2⟩,fun e=>by cases e⟩
  | false=>exact ih
theorem w8{R:D->V->Prop}{f:Str}{d:D}{v:V}(r:R d v){fs:List (Str×D)}{fs':List (Str×V)}(h:gw R fs fs'):gw R (mK f d fs) (fM f v fs'):=by
 unfold gw at h
 induction h with
 | nil=>exact .cons ⟨rfl,r⟩ .nil
 | @cons p q ps qs r1 t ih=>
  obtain⟨r1,r2⟩:=r1;obtain⟨k,d⟩:=p;obtain⟨k',v'⟩:=q;cases r1;simp only[mK,fM]
  by_cases e:k=f
  ·rw[if_pos e,if_pos e];exact .cons ⟨rfl,r⟩ t
  ·rw[if_neg e,if_neg e];exact .cons ⟨rfl,r2⟩ ih
theorem iV{x:D}{v:V}{k:Nat}{C:Str}{fs:List (Str×D)}(S:bH κ α Z Ω H)(r:au α Z H x v)(h:pG Ω x=some (k,C,fs)):∃ a Ca dx fs',v=.ref a/\x=.ref k/\α[k]?=some a/\κ C Ca/\H a=some (.ins Ca dx fs')/\gw (au α Z H) fs fs':=by
 cases x with
 | ref n=>
  simp only[pG]at h;split at h
  ·rename_i C' fs' hk
   cases h;simp only[au]at r;obtain⟨a,ha,rfl⟩:=r;obtain⟨a',ha',Ca,dx,fs',h0,h1,h2⟩:=S.cell hk;rw[ha]at ha';cases ha';exact⟨a,Ca,dx,fs',rfl,rfl,ha,h0,h1,h2⟩
  ·cases h
 | _=>cases h
def jm(K:PySem.W.Frag)(κ:Str->Addr->Prop)(Cs:List Str)(f:Str):Prop:=∀ C Ca,Cs.contains C=true->κ C Ca->oB K Ca/\gp K Ca f
theorem zW{f:Str}{Cs:List Str}(hp:jm X.K κ Cs f)(hb:attributeBase o f X.env (eval o X.env)=eval o X.env)(ho:bu X κ Φ o mo):bu X κ Φ (.Attribute o f pos) (m1 (dO Cs f) mo):=
 jV (r:=fun x H Q=>∃ a C dx fs v,x=.ref a/\H a=some (.ins C dx fs)/\oB X.K C/\gp X.K C f/\fs.lookup f=some v/\Q v H) (fun ta pa=>C5 pa hb) ho fun dx x α Z Ω H Q S rx g=>by
  unfold dO at g;split at g
  ·rename_i k C fs hk
   obtain⟨a,Ca,dx,fs',rfl,_,_,h1,h2,h3⟩:=iV S rx hk;split at g
   ·rename_i hc
    obtain⟨c1,c2⟩:=hp C Ca hc h1;split at g
    ·rename_i d hd
     obtain⟨v,hv,rv⟩:=(il h3).1 d hd;exact⟨a,Ca,dx,fs',v,rfl,h2,c1,c2,hv,bQ.ret S rv g⟩
    ·exact g.elim
   ·exact g.elim
  ·exact g.elim
def BS(P:Program)(w:World)(K:PySem.W.Frag)(mg:Str->Option Value)(base:Heap)(κ:Str->Addr->Prop)(k:Nat)(C m:Str)(F:ba)(Ca f:Addr)(fd:FuncData)(ps:List Str):Prop:=
 (∀ a,κ C a->a=Ca)/\oB K Ca/\Meth K Ca m f/\∃ (ds:List Value) (gi:List V) (Dd:List D) (F1:ba),Binds K fd ps ds/\Vals gi ds/\(∀ α Z H,aJ (au α Z H) Dd gi)/\cU P w K mg base jS k f fd ps (dU κ F1)/\F=fun xs=>F1 (xs++Dd)
structure tj(X:Cx)(κ:Str->Addr->Prop)(k:Nat)(C m:Str)(F:ba):Prop where
 ex:∃ (Ca f:Addr) (fd:FuncData) (ps:List Str),BS X.prog X.w X.K X.mg X.base κ k C m F Ca f fd ps
theorem w9{k:Nat}{m:Str}(M:tj X κ k C m F)(hr:cD k X.A)(ho:bu X κ Φ o mo)(ha:qf X κ Φ (e::es) as){pl:Sem Bool}
  (hst:starEach (e::es) X.env=(false,eval e X.env)::starEach es X.env) (hpl:(backTo pos (starEach es X.env)).any (·.1)=false)
  (ht:eval (.Call (.Attribute o m apos) (e::es) [] pos) X.env=(do
   let ov ← eval o X.env
   standAt apos.atName
   let (f,first) ← holding [ov] (getMethod ov m pl)
   callWith pos f first (backTo pos (starEach (e::es) X.env)) (backToKw pos (keywordEach [] X.env)))) :
  bu X κ Φ (.Call (.Attribute o m apos) (e::es) [] pos) (aV C m F mo as):=by
 obtain⟨Ca,f,fd,ps,hC,hcl,hm,TF,gi,Dd,F0,hb,hdv,hD,F1,rfl⟩:=M.ex;intro aE Z0 H0 ρ Ω;refine PE.imp (yE (ho aE Z0 H0 ρ Ω) hcl hm F1 hr hb hdv kq (PA.ex fun ab=>ha aE Z0 H0 ρ ab) hst hpl ht) ?_
 rintro σ H Q ⟨α,Z,S,g⟩;refine⟨α,Z,S,bQ.use g fun x ab _ v H1 α1 Z1 g1 s1 r1 k1 => ?_⟩
 split at k1
 ·rename_i n C' fs hk
  split at k1
  ·rename_i hc
   obtain⟨rfl,hl⟩:=hc;obtain⟨a,OD,dx,fs',rfl,rfl,_,q1,q2,q3⟩:=iV s1 r1 hk;obtain rfl:=hC OD q1;refine⟨a,dx,fs',rfl,q2,(il q3).2 hl,ab,α1,Z1,S.grow g1 s1,pj.use k1 fun xs ao _ vs H2 α2 Z2 g2 s2 r2 k2 => ?_⟩
   exact⟨α2,Z2,ao,_,s2,.cons (s1.dj g2 r1) (r2.append (hD _ _ _)),bQ.ok0 k2⟩
  ·exact k1.elim
 ·exact k1.elim
theorem uR{k:Nat}{m:Str}(M:tj X κ k C m F)(hr:cD k X.A)(ho:bu X κ Φ o mo){pl:Sem Bool}
  (ht:eval (.Call (.Attribute o m apos) [] [] pos) X.env=(do
   let ov ← eval o X.env
   standAt apos.atName
   let (f,first) ← holding [ov] (getMethod ov m pl)
   callWith pos f first (backTo pos (starEach [] X.env)) (backToKw pos (keywordEach [] X.env)))) :
  bu X κ Φ (.Call (.Attribute o m apos) [] [] pos) (aV C m F mo af):=by
 obtain⟨Ca,f,fd,ps,hC,hcl,hm,TF,gi,Dd,F0,hb,hdv,hD,F1,rfl⟩:=M.ex;intro aE Z0 H0 ρ Ω;refine PE.imp (vF (ho aE Z0 H0 ρ Ω) hcl hm F1 hr hb hdv kq ht) ?_;rintro σ H Q ⟨α,Z,S,g⟩;refine⟨α,Z,S,bQ.use g fun x ab _ v H1 α1 Z1 g1 s1 r1 k1 => ?_⟩
 split at k1
 ·rename_i n C' fs hk
  split at k1
  ·rename_i hc
   obtain⟨rfl,hl⟩:=hc;obtain⟨a,OD,dx,fs',rfl,rfl,_,q1,q2,q3⟩:=iV s1 r1 hk;obtain rfl:=hC OD q1;exact⟨a,dx,fs',rfl,q2,(il q3).2 hl,α1,Z1,ab,_,s1,.cons r1 (hD _ _ _),bQ.ok0 k1⟩
  ·exact k1.elim
 ·exact k1.elim
structure w_(X:Cx)(κ:Str->Addr->Prop)(k:Nat)(C:Str)(F:ba):Prop where
 ex:∃ (Ca f:Addr) (fd:FuncData) (ps:List Str),κ C Ca/\Mk X.K Ca f/\X.mg C=some (.ref Ca)/\Binds X.K fd ps []/\cU X.prog X.w X.K X.mg X.base jS k f fd ps (dU κ F)
theorem pH{xs:List D}{vs:List V}{Ca x dx:Addr}(S:bH κ α Z Ω H)(r:aJ (au α Z H) xs vs)(mL:κ C Ca)(g:bQ κ Φ α Z H (jk C F xs Ω) Q)(hx:H x=none)(hdx:H dx=none)(hne:dx≠x) :
  dU κ F (.ref x::(vs++[])) (upd (upd H dx (.own x)) x (.ins Ca dx [])) (fun v H2=>v=.non/\Q (.ref x) H2) E0:=by
 rw[List.append_nil];obtain⟨S1,g1⟩:=S.sP (p:=dx) (o:=.own x) hdx False;simp only[if_false]at S1 g1;have hx1:upd H dx (.own x) x=none:=by rw[aF (Ne.symm hne)];exact hx
 obtain⟨S2,g2⟩:=S1.laid (p:=x) (o:=.ins Ca dx []) (c:=.ins C []) hx1 fun R hR=>⟨Ca,dx,[],mL,aS,.nil⟩
 have gA:=g1.trans g2;have hs:au (α++[x]) Z (upd (upd H dx (.own x)) x (.ins Ca dx [])) (.ref Ω.length) (.ref x):=eO S1 x;refine⟨α++[x],Z,Ω++[.ins C []],.ref Ω.length::xs,S2,.cons hs (S.jB gA r),?_⟩;unfold jk at g;cases q:F (.ref Ω.length::xs) (Ω++[.ins C []]) with
 | ok d ao=>
  rw[q]at g;cases d with
  | non=>
   intro v H3 α3 Z3 g3 s3 r3;simp only[au]at r3;exact⟨r3,g _ H3 α3 Z3 (gA.trans g3) s3 (S2.dj g3 hs)⟩
  | _=>exact g.elim
 | exc x ao=>rw[q]at g;exact g.elim
 | bad=>rw[q]at g;exact g.elim
theorem zX{k:Nat}(M:w_ X κ k C F)(hr:cD (k + 1) X.A)(hg:Gl X C)(hdb:(C == ("__debug__":Str))=false)
  (he:starEach (e::es) X.env=(false,eval e X.env)::starEach es X.env) (hpl:(backTo pos (starEach es X.env)).any (·.1)=false) (ha:qf X κ Φ (e::es) as):bu X κ Φ (.Call (.Name C p) (e::es) [] pos) (mN (jk C F) as):=by
 obtain⟨Ca,f,fd,ps,mL,hM,hm,hb,F1⟩:=M.ex;intro aE Z0 H0 ρ Ω;refine PE.imp (yF hM F1 hr hg hm hb .nil kq (ha aE Z0 H0 ρ Ω) hdb he hpl) ?_;rintro σ H Q ⟨α,Z,S,g⟩;exact⟨α,Z,S,pj.use g fun xs ab _ vs H1 α1 Z1 g1 s1 r1 k1 x dx hx hdx hne=>pH s1 r1 mL k1 hx hdx hne⟩
theorem xa{k:Nat}(M:w_ X κ k C F)(hr:cD (k + 1) X.A)(hg:Gl X C)(hdb:(C == ("__debug__":Str))=false):bu X κ Φ (.Call (.Name C p) [] [] pos) (mN (jk C F) af):=by
 obtain⟨Ca,f,fd,ps,mL,hM,hm,hb,F1⟩:=M.ex;intro aE Z0 H0 ρ Ω;refine PE.imp (vG hM F1 hr hg hm hb .nil kq hdb) ?_;rintro σ H Q ⟨α,Z,S,g⟩;exact fun x dx hx hdx hne=>pH S.st .nil mL g hx hdx hne
theorem zY{f:Str}{Cs:List Str}(hp:jm X.K κ Cs f)(hs:swapsWith e (some (.Attribute o f pos')) pos.line X.env=pure false)(ho:bu X κ Φ o mo)(hv:bu X κ Φ e mv):pF X κ Φ (.Assign [.Attribute o f pos'] e pos) (cY Cs f mo mv):=by
 intro aE Z0 H0 ρ Ω;refine PS.imp (C6 (PE.ex fun ab=>ho aE Z0 H0 ρ ab) (hv aE Z0 H0 ρ Ω) hs) ?_
 rintro E σ H ⟨α,Z,S,f⟩;refine⟨α,Z,S,eE.use S f fun y ab v H1 α1 Z1 _ g1 S1 r1 f1=>⟨ab,α1,Z1,S1,eE.use S1 f1 fun x ao w H2 α2 Z2 _ g2 S2 r2 f2 => ?_⟩⟩
 split at f2
 ·rename_i k C fs hk
  obtain⟨a,Ca,dx,fs',rfl,rfl,h0,h1,h2,h3⟩:=iV S2.st r2 hk;split at f2
  ·rename_i hc
   simp only[Bool.and_eq_true,decide_eq_true_eq]at hc;obtain⟨c1,c2⟩:=hp C Ca hc.1 h1;have ry:=S1.st.dj g2 r1;obtain⟨s3,g3⟩:=S2.st.put (o:=.ins Ca dx (fM _ v fs')) (c:=.ins C (mK _ y fs)) h0 (fun o u z=>by rw[h2]at z;cases z) fun R hR=>⟨Ca,dx,_,h1,aS,(w8 ry h3).imp hR⟩
   exact⟨a,Ca,dx,fs',rfl,h2,c1,c2,by rw[gw.length h3];exact hc.2,f2 σ _ α2 Z2 (S2.grow g3 s3)⟩
  ·exact f2.elim
 ·exact f2.elim
def BV(H:Hp)(a:Addr)(y v:V)(H':Hp):Prop:=oM H a y v H'\/∃ xs k j,y=.int k/\H a=some (.lst xs)/\vI xs.length k=some j/\H'=upd H a (.lst (xs.set j v))
noncomputable def DJ(td ty tv:TE):TS:=fun D σ H=>tv σ H fun v H1=>td σ H1 fun x H2=>ty σ H2 fun y H3=>∃ a H4,x=.ref a/\BV H3 a y v H4/\D.nx σ H4
theorem xb{i value:Expr}{td ty tv:TE}(hu:X.A.units + 1 < cLine)(ho:PE X o td)(hi:PE X i ty)(hv:PE X value tv)(hs:swapsWith value (some (.Subscript o i pos')) pos.line X.env=pure false) :
  PS X (.Assign [.Subscript o i pos'] value pos) (DJ td ty tv):=by
 intro pins s σ H D I h;refine wpAny_Assign_Subscript (cu (hv pins s σ H _ I h) fun r s1 ⟨v,H1,I1,rv,q1⟩=>cu (ho pins s1 σ H1 _ I1 q1) fun u s2 ⟨x,H2,I2,rx,q2⟩=>cu (hi pins s2 σ H2 _ I2 q2) fun iv s3 ⟨y,H3,I3,ry,a,H4,ex,g,q3⟩ => ?_) hs
 subst ex;rcases g with g | ⟨xs,k,j,rfl,g1,g2,rfl⟩
 ·obtain rfl:u=Value.ref a:=rx
  exact uj hu I3 g ry rv fun s4 I4=>⟨σ,H4,I4,q3⟩
 ·exact cu (set_list pins s3 σ H3 _ _ _ _ _ _ (fun H'=>D.nx σ H') I3 rx ry rv ⟨a,xs,k,j,rfl,rfl,g1,g2,q3⟩) fun _ s4 ⟨H5,I5,q5⟩=>⟨σ,H5,I5,q5⟩
theorem aJ.Ht{α β:Type}{R:α->β->Prop}{a:α}{b:β}:∀ {as:List α} {bs:List β} {n:Nat},aJ R as bs->R a b->aJ R (as.set n a) (bs.set n b)
 | _,_,_,.nil,_=>.nil
 | _::_,_::_,0,.cons _ t,r=>.cons r t
 | _::_,_::_,n + 1,.cons q t,r=>.cons q (aJ.Ht t r)
theorem xc{x y d:D}{v w u:V}(S:bH κ α Z Ω H)(rx:au α Z H x v)(ry:au α Z H y w)(rd:au α Z H d u)(h:jD x y d Ω=some ak):∃ a H',v=.ref a/\BV H a w u H'/\bH κ α Z ak H'/\cx α Z H α Z H':=by
 cases x with
 | ref k=>
  simp only[jD]at h;simp only[au]at rx;obtain⟨a,ha,rfl⟩:=rx;split at h
  ·rename_i kvs hk
   obtain⟨a',ha',kvs',h2,h3⟩:=S.cell hk;rw[ha]at ha';cases ha'
   split at h
   ·rename_i ky OE
    obtain rfl:=gE OE ry;split at h
    ·rename_i hs
     cases h;have:=bx hs;obtain⟨s1,g1⟩:=S.put (o:=.dK (putK kvs' ky u)) (c:=.dK (dR kvs ky d)) ha (fun o u z=>by rw[h2]at z;cases z) fun R hR=>⟨_,aS,(h3.put ky rd).imp hR⟩
     exact⟨a,_,rfl,.inl (oM.k h2 (by rw[h3.length];omega)),s1,g1⟩
    ·cases h
   ·cases h
  ·rename_i kvs hk
   obtain⟨a',ha',kvs',h2,h3⟩:=S.cell hk;rw[ha]at ha';cases ha'
   split at h
   ·rename_i ky OE
    obtain⟨b,rfl,hb⟩:=mE OE ry;split at h
    ·rename_i hs
     cases h;have:=bx hs;obtain⟨s1,g1⟩:=S.put (o:=.dT (putK kvs' ky u)) (c:=.dT (dR kvs ky d)) ha (fun o u z=>by rw[h2]at z;cases z) fun R hR=>⟨_,aS,(h3.put ky rd).imp hR⟩
     exact⟨a,_,rfl,.inl (oM.t h2 hb (by rw[h3.length];omega)),s1,g1⟩
    ·cases h
   ·cases h
  ·rename_i ds hk
   obtain⟨a',ha',ws,h2,h3⟩:=S.cell hk;rw[ha]at ha';cases ha'
   split at h
   ·rename_i i
    split at h
    ·rename_i n hn
     cases h;cases (show w=V.int i from ry)
     obtain⟨s1,g1⟩:=S.put (o:=.lst (ws.set n u)) (c:=.lst (ds.set n d)) ha (fun o u z=>by rw[h2]at z;cases z) fun R hR=>⟨_,aS,(aJ.Ht h3 rd).imp hR⟩
     exact⟨a,_,rfl,.inr ⟨ws,i,n,rfl,h2,by rw[h3.length];exact hn,rfl⟩,s1,g1⟩
    ·cases h
   ·cases h
  ·cases h
 | _=>cases h
theorem xf{i:Expr}(hu:X.A.units + 1 < cLine)(ho:bu X κ Φ o md)(hi:bu X κ Φ i mk)(hv:bu X κ Φ e mv)(hs:swapsWith e (some (.Subscript o i pos')) pos.line X.env=pure false):pF X κ Φ (.Assign [.Subscript o i pos'] e pos) (ej md mk mv):=by
 intro aE Z0 H0 ρ Ω;refine PS.imp (xb hu (PE.ex fun ab=>ho aE Z0 H0 ρ ab) (PE.ex fun ab=>hi aE Z0 H0 ρ ab) (hv aE Z0 H0 ρ Ω) hs) ?_
 rintro E σ H ⟨α,Z,S,f⟩;refine⟨α,Z,S,eE.use S f fun d ab v H1 α1 Z1 _ g1 S1 r1 f1=>⟨ab,α1,Z1,S1,eE.use S1 f1 fun x ao w H2 α2 Z2 _ g2 S2 r2 f2=>⟨ao,α2,Z2,S2,eE.use S2 f2 fun y aO u H3 α3 Z3 _ g3 S3 r3 f3 => ?_⟩⟩⟩
 split at f3
 ·rename_i bR hq
  obtain⟨a,H4,rfl,h1,s4,g4⟩:=xc S3.st (S2.st.dj g3 r2) r3 (S2.st.dj g3 (S1.st.dj g2 r1)) hq;exact⟨a,H4,rfl,h1,f3 σ H4 α3 Z3 (S3.grow g4 s4)⟩
 ·exact f3.elim
theorem uS:bu X κ Φ (.Dict [] [] pos) (fun _ Ω=>hZ Ω (.dK [])):=by
 intro aE Z0 H0 ρ Ω;refine PE.imp vR ?_;rintro σ H Q ⟨α,Z,S,g⟩ p hp;obtain⟨S1,g1⟩:=S.st.laid (p:=p) (o:=.dK []) (c:=.dK []) hp fun R hR=>⟨[],aS,.nil⟩
 exact g _ _ _ Z g1 S1 (eO S.st p)
theorem uT:bu X κ Φ (.Dict [] [] pos) (fun _ Ω=>hZ Ω (.dT [])):=by
 intro aE Z0 H0 ρ Ω;refine PE.imp vS ?_;rintro σ H Q ⟨α,Z,S,g⟩ p hp;obtain⟨S1,g1⟩:=S.st.laid (p:=p) (o:=.dT []) (c:=.dT []) hp fun R hR=>⟨[],aS,.nil⟩
 exact g _ _ _ Z g1 S1 (eO S.st p)
noncomputable def a_(n:Nat)(ds:List D):aU:=ds.map some++List.replicate (n - ds.length) none
noncomputable def kY:gM->ay D
 | .rt d Ω=>.ok d Ω
 | .nx _ Ω=>.ok .non Ω
 | .exc x Ω=>.exc x Ω
 | _=>.bad
def bN(n k:Nat)(c:SM):ba:=fun ds Ω=>if ds.length=k then kY (c (a_ n ds) Ω) else .bad
theorem kZ{ds:List D}{vs:List V}{N:List Str}(S:bH κ α Z Ω H)(r:aJ (au α Z H) ds vs):cP κ α Z H α Z Ω (a_ N.length ds) (L2.start N vs) H where
 st:=S
 gr:=cx.refl S.has
 len:=by simp[a_,L2.start,r.length]
 val:=fun i d hi=>by
  unfold a_ at hi
  by_cases h:i < ds.length
  ·rw[List.getElem?_append_left (by simpa using h),List.getElem?_map]at hi
   obtain⟨d',h1,h2⟩:=Option.map_eq_some_iff.mp hi;cases h2;obtain⟨v,h3,h4⟩:=r.get h1;refine⟨v,?_,h4⟩;unfold L2.start;rw[List.getElem?_append_left (by simpa[r.length] using h),List.getElem?_map,h3]
   rfl
  ·rw[List.getElem?_append_right (by simpa using h),List.getElem?_replicate]at hi
   split at hi<;>cases hi
end
structure pI(P:Program)(w:World)(K:PySem.W.Frag)(mg:Str->Option Value)(base:Heap)(κ:Str->Addr->Prop)(k:Nat)(j:Nat)(F:List D->ba):Prop where
 run:∀ (X:Cx) (f:Addr) (vs:List V) (σ:L2.St) (H:Hp) (Q:VK) (α:List Addr) (Z:Addr->Prop) (Ω:aG) (qR ds:List D) (n:Nat),X.prog=P->X.w=w->X.K=K->X.mg=mg->X.base=base->cD k X.A ->
  bH κ α Z Ω H->α[n]?=some f->Ω[n]?=some (.fn j qR)->aJ (au α Z H) ds vs->bQ κ pD α Z H (F qR ds Ω) Q->Hh X f vs σ H Q
theorem pI.mono{P:Program}{w:World}{K:PySem.W.Frag}{mg:Str->Option Value}{base:Heap}{κ:Str->Addr->Prop}{k k' j:Nat}{F:List D->ba}(h:pI P w K mg base κ k j F)(hk:k<=k'):pI P w K mg base κ k' j F:=
 ⟨fun X f vs σ H Q α Z Ω qR ds n e1 e2 e3 e4 e5 hr=>h.run X f vs σ H Q α Z Ω qR ds n e1 e2 e3 e4 e5 (hr.mono hk)⟩
noncomputable def isFn(Ω:aG)(n:Nat):Bool:=match Ω[n]? with
 | some (.fn _ _)=>true
 | _=>false
section
variable{X:Cx}{κ:Str->Addr->Prop}{Φ:gR}{α α' aE:List Addr}{Z Z' Z0:Addr->Prop}{Ω ak:aG}{H H' H0:Hp}{ρ:aU}{σ:L2.St}
end
noncomputable def U(i:Nat):EM:=fun ρ Ω=>match ρ[i]? with | some (some d)=>.ok d Ω | _=>.bad
noncomputable def ae(d:D):EM:=fun _ Ω=>.ok d Ω
def bZ:EM:=fun _ Ω=>hZ Ω (.dK [])
def DK:EM:=fun _ Ω=>hZ Ω (.dT [])
noncomputable def o2{α β γ:Type}(x:Option α)(y:Option β)(k:α->β->γ):Option γ:=match x,y with
 | some a,some b=>some (k a b)
 | _,_=>none
theorem bS{α β γ:Type}{x:Option α}{y:Option β}{k:α->β->γ}{z:γ}(h:o2 x y k=some z):∃ a b,x=some a/\y=some b/\z=k a b:=by
 unfold o2 at h;split at h
 ·cases h;exact⟨_,_,rfl,rfl,rfl⟩
 ·cases h
theorem cG{α β:Type}{x:Option α}{k:α->β}{z:β}(h:x.map k=some z):∃ a,x=some a/\z=k a:=by
 cases x with
 | none=>cases h
 | some a=>cases h;exact⟨a,rfl,rfl⟩
structure bc where
 lF:List (Str×(List D->Out Rs)):=[]
 fn:List (Str×ba):=[]
 cst:List (Str×D):=[]
 met:List (Str×Str×ba):=[]
 cls:List (Str×ba):=[]
 fld:List (Str×List Str):=[]
 clo:List (List D->ba):=[]
 fz:List Str:=[]
 xt:Bool:=false
def nP(T:bc)(sc:Scope)(N:List Str)(x:Str):Option EM:=
 match mw sc N x with
 | some i=>some (U i)
 | none=>if y_ sc x && okN x then (T.cst.lookup x).map ae else none
def k6:Const->Option EM
 | .none=>some (ae .non)
 | .bool b=>some (ae (.bl b))
 | .int i=>some (ae (.int i))
 | .str x=>some (ae (.str x))
 | _=>none
def du(f:Expr->Option EM):List Expr->Option AM
 | []=>some af
 | e::es=>o2 (f e) (du f es) aa
def Ww(op:BoolOp)(a b:EM):EM:=match op with
 | .And=>eQ a b
 | .Or=>sW a b
def iW(f:Expr->Option EM)(op:BoolOp):List Expr->Option EM
 | []=>none
 | [a]=>f a
 | a::b::r=>o2 (f a) (iW f op (b::r)) (Ww op)
def rj(f:Expr->Option EM):Option Expr->Option (Bool×EM)
 | none=>some (true,ae .non)
 | some e=>(f e).map fun m=>(false,m)
inductive BM where
 | append | reverse | insert | extend | index | join
noncomputable def BM.nm:BM->Str
 | .append=>"append" | .reverse=>"reverse" | .insert=>"insert" | .extend=>"extend" | .index=>"index" | .join=>"join"
noncomputable def BM.ar:BM->Nat
 | .append=>1 | .reverse=>0 | .insert=>2 | .extend=>1 | .index=>1 | .join=>1
def BM.ty:BM->aG->D->Bool
 | .join=>zJ
 | _=>ik
def BM.f:BM->D->List D->aG->ay D
 | .append=>bq | .reverse=>ei | .insert=>fS | .extend=>fT | .index=>nN | .join=>mH
def DL(m:Str)(n:Nat):Option BM:=[BM.append,.reverse,.insert,.extend,.index,.join].find? fun b=>b.nm == m && b.ar == n
def gW(mo:EM)(as:AM)(m:Str):List (Str×Str×ba)->Option EM
 | []=>none
 | (m',C,F)::r=>if m' == m then (match gW mo as m r with
  | some x=>some (kK (aV C m F mo as) x)
  | none=>some (aV C m F mo as)) else gW mo as m r
def jW(T:bc)(m:Str)(n:Nat)(mo:EM)(as:AM):Option EM:=match DL m n,gW mo as m T.met with
 | some b,some x=>some (kK (cV b.ty b.f mo as) x)
 | some b,none=>some (cV b.ty b.f mo as)
 | none,x=>x
noncomputable def er:Expr->Bool
 | .Name .. | .Attribute .. | .Constant (.str _) ..=>true
 | _=>false
def rn(x:Str):Option jT:=[jT.len,jT.all,jT.any,jT.list,jT.tuple].find? (fun b=>b.nm == x)
theorem zZ{x:Str}{b:jT}(h:rn x=some b):x=b.nm/\b∈[jT.len,jT.all,jT.any,jT.list,jT.tuple]/\b.nm∈ef:=by
 unfold rn at h;have h1:=List.find?_some h;have h2:=List.mem_of_find?_eq_some h;refine⟨(eq_of_beq h1).symm,h2,?_⟩;cases b<;>first | (simp at h2;done) | decide
def nQ(T:bc)(sc:Scope)(f:Expr->Option EM)(x:Str)(args:List Expr):Option EM:=
 if y_ sc x && okN x then
  match T.fn.lookup x,T.lF.lookup x,T.cls.lookup x,rn x with
  | some F,_,_,_=>(du f args).map (mN (aK F))
  | none,some F,_,_=>if args.isEmpty then none else (du f args).map (mN (bY F))
  | none,none,some F,_=>(du f args).map (mN (jk x F))
  | none,none,none,some b=>if args.isEmpty then none else (du f args).map (mN (aQ b))
  | none,none,none,none=>(if x == ("dict":Str) then (if args.isEmpty then none else (du f args).map (mN ff)) else none)
 else none
def jX(T:bc)(sc:Scope)(N:List Str)(f:Expr->Option EM)(x:Str)(args:List Expr):Option EM:=match mw sc N x with
 | some _=>none
 | none=>nQ T sc f x args
def xg(sc:Scope):List Expr->Option (Expr×Ty×Pos)
 | [a,.Name t p]=>match wu t with
  | some ty=>if y_ sc t then some (a,ty,p) else none
  | none=>none
 | _=>none
theorem uU{sc:Scope}{args:List Expr}{a:Expr}{ty:Ty}{p:Pos}(h:xg sc args=some (a,ty,p)):args=[a,.Name ty.nm p]/\y_ sc ty.nm=true/\ty.nm∈ef:=by
 unfold xg at h;split at h
 ·split at h
  ·rename_i Y6 hty
   split at h
   ·rename_i hg
    cases h;obtain⟨rfl,m⟩:=Hc hty;exact⟨rfl,hg,m⟩
   ·cases h
  ·cases h
 ·cases h
def pJ(sc:Scope)(f:Expr->Option EM)(x:Str)(args:List Expr):Option EM:=if x == ("isinstance":Str) && y_ sc x then match xg sc args with
 | some (a,ty,_)=>(f a).map (m1 (fm ty))
 | none=>none else none
def ib(f:Expr->Option EM)(sc:Scope)(iter:Expr):Option IM:=match iter with
 | .Call (.Name g _) args [] _=>if g == ("range":Str) then (if y_ sc g then (match args with
   | [a]=>(du f [a]).map cK
   | _=>none) else none) else (f iter).map aM
 | _=>(f iter).map aM
def xh(f:Expr->Option EM):List Expr->Option (Bool×EM)
 | []=>some (true,ae .non)
 | [c]=>(f c).map fun m=>(false,m)
 | _=>none
noncomputable def emptyDict:List (Option Expr)->List Expr->Bool
 | [],[]=>true
 | _,_=>false
def cL(T:bc):Nat->Scope->List Str->Expr->Option EM
 | 0,_,_,_=>none
 | n + 1,sc,N,e=>match e with
  | .Name x _=>nP T sc N x
  | .Constant c _ _=>k6 c
  | .BinOp a op b _=>o2 (cL T n sc N a) (cL T n sc N b) (m2 (aP op))
  | .UnaryOp .USub a _=>(cL T n sc N a).map (m1 Hk)
  | .UnaryOp .Not a _=>(cL T n sc N a).map eY
  | .BoolOp op (a::b::r) _=>iW (cL T n sc N) op (a::b::r)
  | .Compare a [op] [b] _=>if isSet b then none else o2 (cL T n sc N a) (cL T n sc N b) (m2 (az op))
  | .Compare a [op,op'] [b,c] _=>if isSet c then none else o2 (cL T n sc N a) (o2 (cL T n sc N b) (cL T n sc N c) Prod.mk) fun x y=>jM op op' x y.1 y.2
  | .IfExp t a b _=>o2 (cL T n sc N t) (o2 (cL T n sc N a) (cL T n sc N b) Prod.mk) fun x y=>vb x y.1 y.2
  | .Subscript a (.Slice lo hi none _) _=>o2 (cL T n sc N a) (o2 (rj (cL T n sc N) lo) (rj (cL T n sc N) hi) Prod.mk) fun x y=>cj x y.1.1 y.1.2 y.2.1 y.2.2
  | .Subscript a b _=>if isSlice b then none else o2 (cL T n sc N a) (cL T n sc N b) (m2 aC)
  | .List es _=>(du (cL T n sc N) es).map (mN aR)
  | .Tuple es _ _=>(du (cL T n sc N) es).map (mN iQ)
  | .Attribute o f _=>if er o then o2 (T.fld.lookup f) (cL T n sc N o) fun Cs m=>m1 (dO Cs f) m else none
  | .Call (.Name x _) args [] _=>match pJ sc (cL T n sc N) x args with
   | some m=>some m
   | none=>jX T sc N (cL T n sc N) x args
  | .Call (.Attribute o m p1) args [] p2=>if p1.endLine == p2.line && er o && decide (args.length < 20) then (match cL T n sc N o,du (cL T n sc N) args with
   | some mo,some as=>jW T m args.length mo as
   | _,_=>none) else none
  | .ListComp elt gens scope _=>match kH gens with
   | some (x,_,iter,ifs)=>if wx scope sc x && !isSet iter then (match qM sc N (dz scope),ib (cL T n sc N) sc iter,cL T n (qL scope sc) (x::dz scope) elt,xh (cL T n (qL scope sc) (x::dz scope)) ifs with
    | some cap,some mi,some me,some (nc,mc)=>some (bf me nc mc mi 0 cap)
    | _,_,_,_=>none) else none
   | none=>none
  | .Dict ks vs _=>if emptyDict ks vs then some bZ else none
  | _=>none
structure GoodO(X:Cx)(κ:Str->Addr->Prop)(T:bc)(k:Nat)(sc:Scope)(N:List Str):Prop where
 scope:X.env.scope=sc
 names:X.N=N
 calm:X.calm=true
 room:cD k X.A
 fo:∀ x∈ef,X.mg x=none
 lF:∀ x F,T.lF.lookup x=some F->G7 X k x F
 fn:∀ x F,T.fn.lookup x=some F->w4 X κ k x F
 cst:∀ x d,T.cst.lookup x=some d->∃ v u,X.mg x=some u/\RelV v u/\fy d=some v
 met:∀ m C F,(m,C,F)∈T.met->tj X κ k C m F
 cls:∀ C F,T.cls.lookup C=some F->∃ j,j + 1<=k/\w_ X κ j C F
 fld:∀ f Cs,T.fld.lookup f=some Cs->jm X.K κ Cs f
 clo:∀ j F,T.clo[j]?=some F->pI X.prog X.w X.K X.mg X.base κ k j F
theorem GoodO.gl{X:Cx}{κ:Str->Addr->Prop}{T:bc}{k:Nat}{sc:Scope}{N:List Str}{x:Str}(G:GoodO X κ T k sc N)(h:y_ sc x=true):Gl X x:=by
 unfold y_ at h;have e:=eq_of_beq h
 show X.env.scope.names.lookup x=some .globalImplicit
 rw[G.scope];exact e
theorem GoodO.hu{X:Cx}{κ:Str->Addr->Prop}{T:bc}{k:Nat}{sc:Scope}{N:List Str}(G:GoodO X κ T k sc N):X.A.units + 64 < cLine:=G.room.units
theorem GoodO.blk{X:Cx}{κ:Str->Addr->Prop}{T:bc}{k:Nat}{sc:Scope}{N:List Str}(G:GoodO X κ T k sc N)(scope:Scope)(cl:List (Str×Addr))(C:Addr)(N':List Str)(s₀:Shared)(H₀:Hp)(fp:List Addr):GoodO (blk X scope cl C N' s₀ H₀ fp) κ T k (qL scope sc) N' where
 scope:=by rw[← G.scope];rfl
 names:=rfl
 calm:=G.calm
 room:=G.room
 fo:=G.fo
 lF:=fun x F h=>⟨(G.lF x F h).ex⟩
 fn:=fun x F h=>⟨(G.fn x F h).ex⟩
 cst:=G.cst
 met:=fun m C F h=>⟨(G.met m C F h).ex⟩
 cls:=fun C F h=>let ⟨j,h1,h2⟩:=G.cls C F h;⟨j,h1,⟨h2.ex⟩⟩
 fld:=G.fld
 clo:=G.clo
def lG(X:Cx)(κ:Str->Addr->Prop)(e:Expr)(m:EM):Prop:=(∀ Φ,bu X κ Φ e m)/\(∀ Φ,gy X κ Φ e m)/\isStar e=false
section
variable{X:Cx}{κ:Str->Addr->Prop}{T:bc}{k:Nat}{sc:Scope}{N:List Str}{f:Expr->Option EM}
theorem b_{e:Expr}{m:EM}(h:∀ Φ,bu X κ Φ e m)(hs:isStar e=false)(he:∀ whole,isTrue e X.env whole=(do let v ← whole;standAt e.pos;holding [v] (truthy v))):lG X κ e m:=⟨h,fun Φ=>zq (h Φ) he,hs⟩
theorem cy(hf:∀ e m,f e=some m->lG X κ e m):∀ {es:List Expr} {as:AM},du f es=some as->(∀ Φ,qf X κ Φ es as)/\(∀ e∈es,isStar e=false)
 | [],as,h=>by cases h;exact⟨fun Φ=>zf,fun e he=>absurd he (by simp)⟩
 | e::es,as,h=>by
  obtain⟨m,as',h1,h2,rfl⟩:=bS h;obtain⟨p1,_,p3⟩:=hf e m h1;obtain⟨q1,q2⟩:=cy hf h2;refine⟨fun Φ=>wG (p1 Φ) (q1 Φ) (cw p3),fun z hz => ?_⟩
  rcases List.mem_cons.mp hz with rfl | hz
  ·exact p3
  ·exact q2 z hz
theorem xi(G:GoodO X κ T k sc N){x:Str}{pos:Pos}{m:EM}(h:nP T sc N x=some m):lG X κ (.Name x pos) m:=by
 unfold nP at h;split at h
 ·rename_i i q
  cases h;obtain⟨h1,h2,h3,h4⟩:=sL q;exact b_ (fun Φ=>ze (by rw[G.names];exact h1) (by rw[G.scope];exact h2) h3 h4) rfl (fun _=>rfl)
 ·split at h
  ·rename_i hc
   simp only[Bool.and_eq_true]at hc;obtain⟨d,h3,rfl⟩:=cG h;obtain⟨v,u,e2,e3,e4⟩:=G.cst x d h3;obtain⟨n1,n2,n3⟩:=sM hc.2;exact b_ (fun Φ=>iO (yq (G.gl hc.1) e2 e3 n1) e4) rfl (fun _=>rfl)
  ·cases h
theorem uV{q:Const}{j:Nat}{pos:Pos}{m:EM}(h:k6 q=some m):lG X κ (.Constant q j pos) m:=by
 cases q<;>simp only[k6]at h<;>cases h
 ·exact b_ (fun Φ=>iO CF rfl) rfl (fun _=>rfl)
 ·exact b_ (fun Φ=>iO Gr rfl) rfl (fun _=>rfl)
 ·exact b_ (fun Φ=>iO CD rfl) rfl (fun _=>rfl)
 ·exact b_ (fun Φ=>iO CG rfl) rfl (fun _=>rfl)
theorem pK{op:BoolOp}{pos:Pos}(hf:∀ e m,f e=some m->lG X κ e m):∀ {es:List Expr} {m:EM},iW f op es=some m->(∀ Φ,bu X κ Φ (.BoolOp op es pos) m)/\(∀ Φ,BO X κ Φ (.BoolOp op es pos) m)
 | [],m,h=>by cases h
 | [a],m,h=>by
  obtain⟨p1,p2,p3⟩:=hf a m h;exact⟨fun Φ=>uD (p1 Φ),fun Φ=>zv (p2 Φ)⟩
 | a::b::r,m,h=>by
  simp only[iW]at h;obtain⟨ma,mb,h1,h2,rfl⟩:=bS h;obtain⟨p1,p2,p3⟩:=hf a ma h1;obtain⟨q1,q2⟩:=pK hf h2;cases op with
  | And=>exact⟨fun Φ=>zr (p1 Φ) (q1 Φ),fun Φ=>zw (p2 Φ) (q2 Φ)⟩
  | Or=>exact⟨fun Φ=>Dy (p1 Φ) (q1 Φ),fun Φ=>Dz (p2 Φ) (q2 Φ)⟩
theorem pL(hf:∀ e m,f e=some m->lG X κ e m){o:Option Expr}{n:Bool}{m:EM}{Φ:gR}(h:rj f o=some (n,m)):Ma X κ Φ o n m:=by
 cases o with
 | none=>cases h;exact .inl ⟨rfl,rfl⟩
 | some e=>
  obtain⟨a,h1,h2⟩:=cG h;cases h2;exact .inr ⟨e,rfl,rfl,(hf e m h1).1 Φ⟩
theorem z4{m:Str}{n:Nat}{b:BM}(h:DL m n=some b):m=b.nm/\n=b.ar:=by
 have:=List.find?_some h;simp only[Bool.and_eq_true,beq_iff_eq]at this;exact⟨this.1.symm,this.2.symm⟩
theorem dY{o:Expr}{n:Str}{env:Env}(h:er o=true):attributeBase o n env (eval o env)=eval o env:=by
 cases o<;>first | rfl | (cases h)
theorem Hu(hu:X.A.units + 64 < cLine)(b:BM){o:Expr}{es:List Expr}{mo:EM}{as:AM}{p1 p2:Pos}{Φ:gR}(hb:er o=true)(hl:(p1.endLine == p2.line)=true)(hn:es.length=b.ar)(ho:bu X κ Φ o mo)(ha:du f es=some as)(hf:∀ e m,f e=some m->lG X κ e m) :
  bu X κ Φ (.Call (.Attribute o b.nm p1) es [] p2) (cV b.ty b.f mo as):=by
 obtain⟨a1,a2⟩:=cy hf ha;have a1:=a1 Φ;cases b with
 | append=>
  match es,hn with
  | [e],_=>exact kT PySem.F.plainAttrs_list PySem.F.slot_list_append PySem.F.type_list_append lY (fun x v α Z Ω H S r h=>kS S r h) (fun x v xs vs α Z Ω H Q S r rs g=>uK S r rs g) (dY hb) hl ho a1 a2 (by simp)
 | reverse=>
  match es,hn with
  | [],_=>cases ha;exact zL PySem.F.plainAttrs_list PySem.F.slot_list_reverse PySem.F.type_list_reverse qD (fun x v α Z Ω H S r h=>kS S r h) (fun x v xs vs α Z Ω H Q S r rs g=>rg S r rs g) (dY hb) hl ho
 | insert=>
  match es,hn with
  | [e,e2],_=>exact kT PySem.F.plainAttrs_list PySem.F.slot_list_insert PySem.F.type_list_insert ux (fun x v α Z Ω H S r h=>kS S r h) (fun x v xs vs α Z Ω H Q S r rs g=>uL S r rs g) (dY hb) hl ho a1 a2 (by simp)
 | extend=>
  match es,hn with
  | [e],_=>exact kT PySem.F.plainAttrs_list PySem.F.slot_list_extend PySem.F.type_list_extend uh (fun x v α Z Ω H S r h=>kS S r h) (fun x v xs vs α Z Ω H Q S r rs g=>uM S r rs g) (dY hb) hl ho a1 a2 (by simp)
 | index=>
  match es,hn with
  | [e],_=>exact kT PySem.F.plainAttrs_list PySem.F.slot_list_index PySem.F.type_list_index (wq hu) (fun x v α Z Ω H S r h=>kS S r h) (fun x v xs vs α Z Ω H Q S r rs g=>wQ S r rs g) (dY hb) hl ho a1 a2 (by simp)
 | join=>
  match es,hn with
  | [e],_=>exact kT PySem.F.plainAttrs_str PySem.F.slot_str_join PySem.F.type_str_join y4 (fun x v α Z Ω H S r h=>zK S r h) (fun x v xs vs α Z Ω H Q S r rs g=>zN S r rs g) (dY hb) hl ho a1 a2 (by simp)
theorem tm{o:Expr}{m:Str}{apos pos:Pos}{es:List Expr}{env:Env}(hb:attributeBase o m env (eval o env)=eval o env)(hs:∀ e∈es,isStar e=false)(hlen:es.length < 20)(hl:(apos.endLine == pos.line)=true) :
  eval (.Call (.Attribute o m apos) es [] pos) env=(do
   let ov ← eval o env
   standAt apos.atName
   let (f,first) ← holding [ov] (getMethod ov m (do let l ← importBound o env;pure (l.getD true)))
   callWith pos f first (backTo pos (starEach es env)) (backToKw pos (keywordEach [] env))):=by
 have hm:methodCallForm (es.length + ([]:List Keyword).length) (backTo pos (starEach es env)) (backToKw pos (keywordEach [] env))=true:=by
  unfold methodCallForm;rw[rf hs,decide_eq_true (by show es.length + 0 + 0 < 30;omega)];rfl
 have e1:eval (.Call (.Attribute o m apos) es [] pos) env=(do
   let ov ← attributeBase o m env (eval o env)
   standAt apos.atName
   methodCall o m apos pos env ov (es.length + ([]:List Keyword).length) (backTo pos (starEach es env)) (backToKw pos (keywordEach [] env))):=by rfl
 rw[e1,hb];unfold methodCall calleeOf methodCallPos;rw[hm];simp only[if_true,Bool.not_true,Bool.false_or,hl];rfl
theorem ip(hr:cD k X.A){o:Expr}{m:Str}{es:List Expr}{mo:EM}{as:AM}{p1 p2:Pos}{Φ:gR}(hb:er o=true)(hl:(p1.endLine == p2.line)=true)(hlen:es.length < 20)(ho:bu X κ Φ o mo)(ha:du f es=some as)(hf:∀ e m,f e=some m->lG X κ e m):∀ {ms:List (Str×Str×ba)} {x:EM},(∀ m C F,(m,C,F)∈ms->tj X κ k C m F)->gW mo as m ms=some x->bu X κ Φ (.Call (.Attribute o m p1) es [] p2) x
 | [],x,_,h=>by cases h
 | (m',C,F)::ms,x,hm,h=>by
  obtain⟨a1,a2⟩:=cy hf ha;simp only[gW]at h;split at h
  ·rename_i he
   obtain rfl:=eq_of_beq he
   have one:bu X κ Φ (.Call (.Attribute o m' p1) es [] p2) (aV C m' F mo as):=by
    cases es with
    | nil=>cases ha;exact uR (hm m' C F (by simp)) hr ho (tm (dY hb) a2 hlen hl)
    | cons e es=>exact w9 (hm m' C F (by simp)) hr ho (a1 Φ) (cw (a2 e (by simp))) (cE fun z hz=>a2 z (by simp[hz])) (tm (dY hb) a2 hlen hl)
   split at h
   ·rename_i y hy
    cases h;exact one.alt (ip hr hb hl hlen ho ha hf (fun m C F q=>hm m C F (by simp[q])) hy)
   ·cases h;exact one
  ·exact ip hr hb hl hlen ho ha hf (fun m C F q=>hm m C F (by simp[q])) h
theorem xj(G:GoodO X κ T k sc N){o:Expr}{m:Str}{es:List Expr}{mo:EM}{as:AM}{p1 p2:Pos}{Φ:gR}{x:EM}(hb:er o=true)(hl:(p1.endLine == p2.line)=true)(hlen:es.length < 20)(ho:bu X κ Φ o mo)(ha:du f es=some as)(hf:∀ e m,f e=some m->lG X κ e m)
  (h:jW T m es.length mo as=some x):bu X κ Φ (.Call (.Attribute o m p1) es [] p2) x:=by
 have one:∀ b,DL m es.length=some b->bu X κ Φ (.Call (.Attribute o m p1) es [] p2) (cV b.ty b.f mo as):=fun b hbm=>by
  obtain⟨rfl,hn⟩:=z4 hbm;exact Hu G.hu b hb hl hn ho ha hf
 have two:∀ y,gW mo as m T.met=some y->bu X κ Φ (.Call (.Attribute o m p1) es [] p2) y:=fun y hy=>ip G.room hb hl hlen ho ha hf G.met hy
 unfold jW at h;split at h
 ·rename_i b y h1 h2
  cases h;exact(one b h1).alt (two y h2)
 ·rename_i b h1 h2
  cases h;exact one b h1
 ·rename_i h1
  exact two x h
theorem xk(G:GoodO X κ T k sc N)(hf:∀ e m,f e=some m->lG X κ e m){x:Str}{args:List Expr}{m:EM}{p pos:Pos}(h:nQ T sc f x args=some m):lG X κ (.Call (.Name x p) args [] pos) m:=by
 refine b_ (fun Φ => ?_) rfl (fun _=>rfl)
 unfold nQ at h;split at h
 ·rename_i hc
  simp only[Bool.and_eq_true]at hc;obtain⟨n1,n2,n3⟩:=sM hc.2;have hg:=G.gl hc.1;split at h
  ·rename_i F hF
   obtain⟨as,ha,rfl⟩:=cG h;obtain⟨q1,q2⟩:=cy hf ha;cases args with
   | nil=>cases ha;exact uQ (G.fn x F hF) G.room hg n1
   | cons a args=>exact w6 (G.fn x F hF) G.room hg n1 (cw (q2 a (by simp))) (cE fun z hz=>q2 z (by simp[hz])) (q1 Φ)
  ·rename_i F _ hF
   split at h
   ·cases h
   ·rename_i hne
    obtain⟨as,ha,rfl⟩:=cG h;obtain⟨q1,q2⟩:=cy hf ha;cases args with
    | nil=>exact absurd rfl hne
    | cons a args=>exact uE (G.lF x F hF) G.room hg n1 (cw (q2 a (by simp))) (cE fun z hz=>q2 z (by simp[hz])) (q1 Φ)
  ·rename_i F _ _ hF
   obtain⟨as,ha,rfl⟩:=cG h;obtain⟨q1,q2⟩:=cy hf ha;obtain⟨j,hj,M⟩:=G.cls x F hF;cases args with
   | nil=>cases ha;exact xa M (G.room.mono hj) hg n1
   | cons a args=>exact zX M (G.room.mono hj) hg n1 (cw (q2 a (by simp))) (cE fun z hz=>q2 z (by simp[hz])) (q1 Φ)
  ·rename_i b _ _ _ hb
   split at h
   ·cases h
   ·rename_i hne
    obtain⟨as,ha,rfl⟩:=cG h;obtain⟨q1,q2⟩:=cy hf ha;obtain⟨rfl,b1,b2⟩:=zZ hb;cases args with
    | nil=>exact absurd rfl hne
    | cons a args=>exact zH G.calm b1 hg (G.fo _ b2) (cw (q2 a (by simp))) (cE fun z hz=>q2 z (by simp[hz])) (q1 Φ)
  ·split at h
   ·rename_i hx
    obtain rfl:=eq_of_beq hx;split at h
    ·cases h
    ·rename_i hne
     obtain⟨as,ha,rfl⟩:=cG h;obtain⟨q1,q2⟩:=cy hf ha;cases args with
     | nil=>exact absurd rfl hne
     | cons a args=>exact wO G.calm hg (G.fo _ (by decide)) (cw (q2 a (by simp))) (cE fun z hz=>q2 z (by simp[hz])) (q1 Φ)
   ·cases h
 ·cases h
theorem xl(G:GoodO X κ T k sc N)(hf:∀ e m,f e=some m->lG X κ e m){x:Str}{args:List Expr}{m:EM}{p pos:Pos}(h:jX T sc N f x args=some m):lG X κ (.Call (.Name x p) args [] pos) m:=by
 unfold jX at h;cases hs:mw sc N x with
 | none=>rw[hs]at h;exact xk G hf h
 | some i=>
  rw[hs]at h;cases h
theorem z5(G:GoodO X κ T k sc N)(hf:∀ e m,f e=some m->lG X κ e m){x:Str}{args:List Expr}{m:EM}{p pos:Pos}(h:pJ sc f x args=some m):lG X κ (.Call (.Name x p) args [] pos) m:=by
 unfold pJ at h;split at h
 ·rename_i hx
  simp only[Bool.and_eq_true,beq_iff_eq]at hx;obtain⟨rfl,hg⟩:=hx;split at h
  ·rename_i a ty pt hi
   obtain⟨rfl,h1,h2⟩:=uU hi;obtain⟨ma,h3,rfl⟩:=cG h;obtain⟨q1,_,q3⟩:=hf a ma h3;exact b_ (fun Φ=>zI (G.gl hg) (G.fo _ (by decide)) (G.gl h1) (G.fo _ h2) (cw q3) (cE (es:=[Expr.Name ty.nm pt]) fun z hz=>by simp at hz;subst hz;rfl) (q1 Φ)) rfl (fun _=>rfl)
  ·cases h
 ·cases h
theorem k7(G:GoodO X κ T k sc N)(hf:∀ e m,f e=some m->lG X κ e m){iter:Expr}{mi:IM}(h:ib f sc iter=some mi):∀ Φ tg,vc X κ Φ tg iter mi:=by
 intro Φ tg
 have dflt:∀ {mi},(f iter).map aM=some mi->vc X κ Φ tg iter mi:=fun {mi} h=>by
  obtain⟨m,h1,rfl⟩:=cG h;exact zP ((hf iter m h1).1 Φ)
 unfold ib at h;split at h
 ·rename_i g p args pos
  split at h
  ·rename_i hr
   obtain rfl:=eq_of_beq hr;split at h
   ·rename_i hg
    split at h
    ·rename_i a
     obtain⟨as,h1,rfl⟩:=cG h;obtain⟨q1,q2⟩:=cy hf h1;exact wU (G.gl hg) (G.fo _ (by decide)) (q1 Φ) (by rw[cw (q2 a (by simp))];rfl)
    ·cases h
   ·cases h
  ·exact dflt h
 ·exact dflt h
end
section
variable{κ:Str->Addr->Prop}{T:bc}{k:Nat}
theorem z6{X:Cx}{sc:Scope}{N:List Str}(G:GoodO X κ T k sc N){scope:Scope}{x:Str}{cap:List Nat}(hb:wx scope sc x=true)(hc:qM sc N (dz scope)=some cap) :
  jy X scope [x] (dz scope) cap/\scope.names.lookup x=some .local/\([x]++dz scope).Nodup:=by
 simp only[wx,Bool.and_eq_true,decide_eq_true_eq,List.all_eq_true,Bool.not_eq_true',beq_iff_eq,Bool.or_eq_true]at hb;obtain⟨⟨⟨⟨⟨h1,h2⟩,h3⟩,h4⟩,h5⟩,h6⟩:=hb;obtain⟨c1,c2⟩:=wz hc
 have fr:∀ y∈scope.names,y.2=.free->(sc.names.lookup y.1=some .cell\/sc.names.lookup y.1=some .free)/\scope.names.lookup y.1=some .free:=fun y hy hk=>by
  rcases h4 y hy with q | q
  ·rw[hk]at q;exact absurd q (by decide)
  ·exact q
 refine⟨⟨h1,fun y hy hk => ?_,fun y hy hk => ?_,fun y hy hk => ?_,c1,fun j i z e1 e2 => ?_⟩,h5,h6⟩
 ·have:=h2 y hy
  rw[hk]at this;exact absurd this (by decide)
 ·rcases h3 y hy with q | q
  ·rw[hk]at q;exact absurd q (by decide)
  ·exact q
 ·have:=(fr y hy hk).1
  show X.env.scope.names.lookup y.1=_\/X.env.scope.names.lookup y.1=_
  rw[G.scope];exact this
 ·refine⟨by rw[G.names];exact c2 j i z e1 e2,?_⟩
  have hm:z∈dz scope:=List.mem_of_getElem? e1;unfold dz at hm;obtain⟨y,hy,rfl⟩:=List.mem_map.mp hm;obtain⟨hy1,hy2⟩:=List.mem_filter.mp hy;exact(fr y hy1 (by simpa using hy2)).2
theorem k9{T:bc}{sc:Scope}{N:List Str}{n:Nat}{elt:Expr}{gens:List Comprehension}{scope:Scope}{pos:Pos}{m:EM}{P:Prop}(hg:kH gens=none)(h:cL T (n + 1) sc N (.ListComp elt gens scope pos)=some m):P:=by
 replace h:(match kH gens with
   | some (x,_,iter,ifs)=>if (wx scope sc x && !isSet iter)=true then (match qM sc N (dz scope),ib (cL T n sc N) sc iter,cL T n (qL scope sc) (x::dz scope) elt,xh (cL T n (qL scope sc) (x::dz scope)) ifs with
    | some cap,some mi,some me,some (nc,mc)=>some (bf me nc mc mi 0 cap)
    | _,_,_,_=>none) else none
   | none=>none)=some m:=h
 rw[hg]at h;cases h
theorem jE{n:Nat}(hf:∀ (X:Cx) (sc:Scope) (N:List Str) (e:Expr) (m:EM),GoodO X κ T k sc N->cL T n sc N e=some m->lG X κ e m){X:Cx}{sc:Scope}{N:List Str}(G:GoodO X κ T k sc N){scope:Scope}{x:Str}{iter elt:Expr}{ifs:List Expr}{px pos:Pos}{m:EM}
  (h:cL T (n + 1) sc N (.ListComp elt [⟨.Name x px,iter,ifs,0⟩] scope pos)=some m):∃ me nc mc mi cap,m=bf me nc mc mi 0 cap/\jy X scope [x] (dz scope) cap/\scope.names.lookup x=some .local/\([x]++dz scope).Nodup /\
   (∀ z,foldedSetIterable iter X.env z=pure z)/\(∀ Φ,vc X κ Φ (.Name x px) iter mi) /\
   ∀ cl C s₀ H₀ fp,((ifs=[]/\nc=true)\/∃ c,ifs=[c]/\nc=false/\gy (blk X scope cl C ([x]++dz scope) s₀ H₀ fp) κ pD c mc)/\bu (blk X scope cl C ([x]++dz scope) s₀ H₀ fp) κ pD elt me:=by
 replace h:(if (wx scope sc x && !isSet iter)=true then (match qM sc N (dz scope),ib (cL T n sc N) sc iter,cL T n (qL scope sc) (x::dz scope) elt,xh (cL T n (qL scope sc) (x::dz scope)) ifs with
    | some cap,some mi,some me,some (nc,mc)=>some (bf me nc mc mi 0 cap)
    | _,_,_,_=>none) else none)=some m:=h
 split at h
 ·rename_i hc
  simp only[Bool.and_eq_true,Bool.not_eq_true']at hc;split at h
  ·rename_i cap mi me nc mc h1 h2 h3 h4
   cases h;obtain⟨b1,b2,b3⟩:=z6 G hc.1 h1;refine⟨me,nc,mc,mi,cap,rfl,b1,b2,b3,kI hc.2,fun Φ=>k7 G (hf X sc N · · G) h2 Φ _,fun cl C s₀ H₀ fp => ?_⟩
   have G':=G.blk scope cl C ([x]++dz scope) s₀ H₀ fp;refine⟨?_,(hf _ _ _ elt me G' h3).1 pD⟩
   match ifs,h4 with
   | [],h4=>cases h4;exact .inl ⟨rfl,rfl⟩
   | [c'],h4=>
    obtain⟨a,q1,q2⟩:=cG h4;cases q2;exact .inr ⟨c',rfl,rfl,(hf _ _ _ c' mc G' q1).2.1 pD⟩
  ·cases h
 ·cases h
theorem rp:∀ (n:Nat) (X:Cx) (sc:Scope) (N:List Str) (e:Expr) (m:EM),GoodO X κ T k sc N->cL T n sc N e=some m->lG X κ e m:=by
 intro n
 induction n with
 | zero=>intro X sc N e m G h;cases h
 | succ n ih=>
  intro X sc N e m G h;have hf:∀ e m,cL T n sc N e=some m->lG X κ e m:=fun e m q=>ih X sc N e m G q
  cases e with
  | Name x pos=>exact xi G h
  | Constant c j pos=>exact uV h
  | BinOp a op b pos=>
   obtain⟨ma,mb,h1,h2,rfl⟩:=bS h;exact b_ (fun Φ=>zi ((hf a ma h1).1 Φ) ((hf b mb h2).1 Φ)) rfl (fun _=>rfl)
  | UnaryOp op a pos=>
   cases op with
   | USub=>
    obtain⟨ma,h1,rfl⟩:=cG h;exact b_ (fun Φ=>zj ((hf a ma h1).1 Φ)) rfl (fun _=>rfl)
   | Not=>
    obtain⟨ma,h1,rfl⟩:=cG h;exact⟨fun Φ=>zt ((hf a ma h1).1 Φ),fun Φ=>zu ((hf a ma h1).2.1 Φ),rfl⟩
   | _=>cases h
  | BoolOp op vs pos=>
   match vs,h with
   | a::b::r,h=>
    obtain⟨q1,q2⟩:=pK (pos:=pos) hf (show iW (cL T n sc N) op (a::b::r)=some m from h)
    exact⟨q1,fun Φ=>(q2 Φ).pt,rfl⟩
   | [_],h=>cases h
   | [],h=>cases h
  | Compare a ops cs pos=>
   match ops,cs,h with
   | [op],[b],h=>
    replace h:(if isSet b=true then none else o2 (cL T n sc N a) (cL T n sc N b) (m2 (az op)))=some m:=h
    split at h
    ·cases h
    ·rename_i hs
     obtain⟨ma,mb,h1,h2,rfl⟩:=bS h;have hm:=oX (op:=op) (b:=b) (by simpa using hs)
     exact⟨fun Φ=>(sU G.hu hm ((hf a ma h1).1 Φ) ((hf b mb h2).1 Φ)).1,fun Φ=>(sU G.hu hm ((hf a ma h1).1 Φ) ((hf b mb h2).1 Φ)).2,rfl⟩
   | [op,op'],[b,c'],h=>
    replace h:(if isSet c'=true then none else o2 (cL T n sc N a) (o2 (cL T n sc N b) (cL T n sc N c') Prod.mk) fun x y=>jM op op' x y.1 y.2)=some m:=h
    split at h
    ·cases h
    ·rename_i hs
     obtain⟨ma,Y7,h1,Hv,rfl⟩:=bS h;obtain⟨mb,mc,h2,h3,rfl⟩:=bS Hv;have hm:lastMarks [op,op'] [b,c']=false:=oX (op:=op') (b:=c') (by simpa using hs)
     exact⟨fun Φ=>zz G.hu hm ((hf _ _ h1).1 Φ) ((hf _ _ h2).1 Φ) ((hf _ _ h3).1 Φ),fun Φ=>zA G.hu hm ((hf _ _ h1).1 Φ) ((hf _ _ h2).1 Φ) ((hf _ _ h3).1 Φ),rfl⟩
   | [],_,h=>cases h
   | [_],[],h=>cases h
   | [_],_::_::_,h=>cases h
   | [_,_],[],h=>cases h
   | [_,_],[_],h=>cases h
   | [_,_],_::_::_::_,h=>cases h
   | _::_::_::_,[],h=>cases h
   | _::_::_::_,[_],h=>cases h
   | _::_::_::_,_::_::_,h=>cases h
  | IfExp t a b pos=>
   obtain⟨mt,Y8,h1,Hv,rfl⟩:=bS h;obtain⟨ma,mb,h2,h3,rfl⟩:=bS Hv;exact⟨fun Φ=>zx ((hf _ _ h1).2.1 Φ) ((hf _ _ h2).1 Φ) ((hf _ _ h3).1 Φ),fun Φ=>zy ((hf _ _ h1).2.1 Φ) ((hf _ _ h2).2.1 Φ) ((hf _ _ h3).2.1 Φ),rfl⟩
  | Subscript a s pos=>
   have gen:∀ b,isSlice b=false->o2 (cL T n sc N a) (cL T n sc N b) (m2 aC)=some m->lG X κ (.Subscript a b pos) m:=fun b hb h=>by
    obtain⟨ma,mb,h1,h2,rfl⟩:=bS h;refine b_ (fun Φ=>zo (by have:=G.hu;omega) (fun o i => ?_) ((hf _ _ h1).1 Φ) ((hf _ _ h2).1 Φ)) rfl (fun _=>rfl)
    cases b<;>first | rfl | (cases hb)
   cases s with
   | Slice lo hi st p2=>
    cases st with
    | none=>
     obtain⟨ma,Y9,h1,Hv,rfl⟩:=bS h;obtain⟨⟨nl,ml⟩,⟨nh,mh⟩,h2,h3,rfl⟩:=bS Hv;exact b_ (fun Φ=>zp ((hf _ _ h1).1 Φ) (pL hf h2) (pL hf h3)) rfl (fun _=>rfl)
    | some e=>
     cases lo with
     | none=>
      cases hi with
      | none=>
       exact nomatch (show(none:Option EM)=some m from h)
      | some _=>exact nomatch (show(none:Option EM)=some m from h)
     | some _=>exact nomatch (show(none:Option EM)=some m from h)
   | _=>exact gen _ rfl h
  | List es pos=>
   obtain⟨as,h1,rfl⟩:=cG h;exact b_ (fun Φ=>zg ((cy hf h1).1 Φ)) rfl (fun _=>rfl)
  | Tuple es j pos=>
   obtain⟨as,h1,rfl⟩:=cG h;exact b_ (fun Φ=>zh ((cy hf h1).1 Φ)) rfl (fun _=>rfl)
  | Attribute o f pos=>
   replace h:(if er o=true then o2 (T.fld.lookup f) (cL T n sc N o) fun Cs m=>m1 (dO Cs f) m else none)=some m:=h
   split at h
   ·rename_i hb
    obtain⟨Cs,mo,h1,h2,rfl⟩:=bS h;exact b_ (fun Φ=>zW (G.fld f Cs h1) (dY hb) ((hf o mo h2).1 Φ)) rfl (fun _=>rfl)
   ·cases h
  | Call f args kws pos=>
   cases f with
   | Name x p=>
    cases kws with
    | nil=>
     replace h:(match pJ sc (cL T n sc N) x args with | some m=>some m | none=>jX T sc N (cL T n sc N) x args)=some m:=h
     cases hi:pJ sc (cL T n sc N) x args with
     | some m'=>
      rw[hi]at h;cases h;exact z5 G hf hi
     | none=>
      rw[hi]at h;exact xl G hf h
    | cons _ _=>cases h
   | Attribute o mm p1=>
    cases kws with
    | nil=>
     replace h:(if (p1.endLine == pos.line && er o && decide (args.length < 20))=true then (match cL T n sc N o,du (cL T n sc N) args with
   | some mo,some as=>jW T mm args.length mo as
   | _,_=>none) else none)=some m:=h
     split at h
     ·rename_i hc
      simp only[Bool.and_eq_true,decide_eq_true_eq]at hc;split at h
      ·rename_i mo as h1 h2
       exact b_ (fun Φ=>xj G hc.1.2 hc.1.1 hc.2 ((hf o mo h1).1 Φ) h2 hf h) rfl (fun _=>rfl)
      ·cases h
     ·cases h
    | cons _ _=>cases h
   | _=>cases h
  | ListComp elt gens scope pos=>
   cases hg:kH gens with
   | none=>exact k9 hg h
   | some q=>
    obtain⟨x,px,iter,ifs⟩:=q;obtain rfl:=mx hg;obtain⟨me,nc,mc,mi,cap,rfl,b1,b2,b3,b4,b5,b6⟩:=jE (fun X sc N e m G q=>ih X sc N e m G q) G h
    exact b_ (fun Φ=>wV G.calm b1 b4 (b5 Φ) b2 b3 b6) rfl (fun _=>rfl)
  | Dict ks vs pos=>
   replace h:(if emptyDict ks vs=true then some bZ else none)=some m:=h
   split at h
   ·rename_i hd
    cases h
    match ks,vs,hd with
    | [],[],_=>exact b_ (fun Φ=>uS) rfl (fun _=>rfl)
   ·cases h
  | _=>cases h
end
structure fV(X:Cx)(κ:Str->Addr->Prop)(T:bc)(k:Nat)(sc:Scope)(N:List Str):Prop extends GoodO X κ T k sc N where
 own:PassesOwn (model X.prog X.w) X.A X.env X.xe
 OF:∀ x,wt sc x=true->T.fz.contains x=false->(X.fn x=true\/X.env.scope.names.lookup x=some .local)
 sO:N.Nodup
 kind:sc.kind=.function
 vj:T.xt=false->∀ e s,¬ X.xe e s
def fH(f:Stmt->Option SM):List Stmt->Option SM
 | []=>some aj
 | s::r=>o2 (f s) (fH f r) ah
def nR(f:Expr->Option EM)(sc:Scope)(iter:Expr):Option IM:=match iter with
 | .Call (.Name g _) [a] [] _=>if g == ("enumerate":Str) then (if y_ sc g then (f a).map lO else none) else ib f sc iter
 | .Call (.Attribute o mm p1) [] [] p2=>if mm == ("items":Str) && p1.endLine == p2.line && er o then (f o).map kU else ib f sc iter
 | _=>ib f sc iter
noncomputable def DM:Expr->Bool
 | .Dict [] [] _=>true
 | _=>false
theorem xm{e:Expr}(h:DM e=true):∃ p,e=.Dict [] [] p:=by
 unfold DM at h;split at h
 ·exact⟨_,rfl⟩
 ·cases h
def k_(T:bc)(sc:Scope)(N:List Str)(x:Str):Option Nat:=if T.fz.contains x then none else oY sc N x
def lb(T:bc)(sc:Scope)(N:List Str)(nms:List (Str×Pos)):Option (List Nat):=if nms.any (fun y=>T.fz.contains y.1) then none else kJ sc N nms
def rz(T:bc)(td:List Str)(k:Nat)(sc:Scope)(N:List Str)(x:Str)(px:Pos)(e:Expr)(pos:Pos):Option SM:=match k_ T sc N x with
   | some i=>if td.contains x && DM e then some (ax i DK) else (match cL T k sc N e with
    | some m=>if oZ sc x px e then (if pos.line == px.line then some (ax i m) else none) else some (ax i m)
    | none=>none)
   | none=>none
def rA(T:bc)(k:Nat)(sc:Scope)(N:List Str)(es:List Expr)(e:Expr):Option SM:=match eM es with
   | some nms=>match lb T sc N nms,cL T k sc N e with
    | some is,some m=>if wA e then some (rh is m) else none
    | _,_=>none
   | none=>none
def jN(T:bc)(td:List Str)(k:Nat)(sc:Scope)(N:List Str):Nat->Stmt->Option SM
 | 0,_=>none
 | n + 1,st=>match st with
  | .Return (some e) _=>some (match cL T k sc N e with
   | some m=>bg m
   | none=>bI)
  | .Assign [.Name x px] e pos=>rz T td k sc N x px e pos
  | .Assign [.Tuple es _ _] e _=>rA T k sc N es e
  | .Assign [.Attribute o f _] e _=>if er o && !ij e then o2 (T.fld.lookup f) (o2 (cL T k sc N o) (cL T k sc N e) Prod.mk) fun Cs y=>cY Cs f y.1 y.2 else none
  | .Assign [.Subscript o i _] e _=>if isSlice i || ij e then none else o2 (cL T k sc N o) (o2 (cL T k sc N i) (cL T k sc N e) Prod.mk) fun x y=>ej x y.1 y.2
  | .Expr e _=>if ij e then none else (cL T k sc N e).map cm
  | .If c a b _=>o2 (cL T k sc N c) (o2 (fH (jN T td k sc N n) a) (fH (jN T td k sc N n) b) Prod.mk) fun x y=>dG x y.1 y.2
  | .While c b [] _=>o2 (cL T k sc N c) (fH (jN T td k sc N n) b) ji
  | .For (.Name x _) it b [] _=>if isSet it then none else o2 (k_ T sc N x) (o2 (ib (cL T k sc N) sc it) (fH (jN T td k sc N n) b) Prod.mk) fun i y=>cF (bV i) y.1 y.2
  | .For (.Tuple es _ _) it b [] _=>if isSet it then none else match eM es with
   | some nms=>o2 (lb T sc N nms) (o2 (nR (cL T k sc N) sc it) (fH (jN T td k sc N n) b) Prod.mk) fun is y=>cF (fF is) y.1 y.2
   | none=>none
  | .Raise _ _ _=>some bI
  | .Try b (_::_) [] [] _=>if T.xt then none else fH (jN T td k sc N n) b
  | _=>none
section
variable{X:Cx}{κ:Str->Addr->Prop}{Φ:gR}{T:bc}{td:List Str}{k:Nat}{sc:Scope}{N:List Str}{α α' aE α1:List Addr}{Z Z' Z0 Z1:Addr->Prop}{Ω ak:aG}{H H' H0 H1:Hp}
theorem z7{es:List Expr}{x1:Nat}{tpos p pos:Pos}{a:Expr}{m:EM}(hg:Gl X "enumerate")(hm:X.mg "enumerate"=none)(hs:starEach [a] X.env=[(false,eval a X.env)])(ha:bu X κ Φ a m) :
  vc X κ Φ (.Tuple es x1 tpos) (.Call (.Name "enumerate" p) [a] [] pos) (lO m):=by
 intro aE Z0 H0 ρ Ω;refine PI.imp (wD hg hm (e_ (ha aE Z0 H0 ρ Ω) mY hs) hs) ?_;rintro σ H R ⟨α,Z,S,g⟩;refine⟨α,Z,S,qh.use g fun x ab _ v H1 α1 Z1 g1 s1 r1 k1 => ?_⟩
 have fin:∀ {α2:List Addr} {Z2:Addr->Prop} {ao:aG} {H2:Hp} {i:Nat} {v:V} {d':D},bH κ α2 Z2 ao H2->au α2 Z2 H2 d' v->∀ p,H2 p=none->∃ Z3,cx α2 Z2 H2 α2 Z3 (upd H2 p (.tup [.int i,v]))/\bH κ α2 Z3 ao (upd H2 p (.tup [.int i,v]))/\au α2 Z3 (upd H2 p (.tup [.int i,v])) (.tup [.int (0 + i:Nat),d']) (.ref p):=fun {α2 Z2 ao H2 i v d'} s2 rv p hp=>by
  obtain⟨s3,g3⟩:=s2.sP (p:=p) (o:=.tup [.int i,v]) hp True;simp only[if_true]at s3 g3;refine⟨Zp Z2 p,g3,s3,?_⟩;simp only[au];refine⟨p,_,rfl,.inr rfl,aS,bp.mpr (.cons ?_ (.one (s2.dj g3 rv)))⟩;simp only[au];simp
 cases hq:eP ab x with
 | none=>simp only[hq]at k1;exact k1.elim
 | some TF=>
  simp only[hq]at k1
  by_cases ht:∃ es,x=.tup es
  ·obtain⟨es',rfl⟩:=ht
   have r1':=r1;simp only[au]at r1;obtain⟨a,F4,rfl,z1,q1,q2⟩:=r1;refine⟨a,rfl,.inr ⟨⟨F4,f_.of q1⟩,k1 _ H1 α1 Z1 (cx.refl s1.has) s1 ?_⟩⟩;intro α2 Z2 ao H2 ds g2 s2 hs2;have hs2:some (c8 0 es')=some ds:=hs2;cases hs2;have r2:=s1.dj g2 r1';simp only[au]at r2;obtain⟨a',vs,e,z3,h3,h4⟩:=r2;cases e;have h4:=bp.mp h4;refine⟨fun i d hd => ?_,fun i hi=>by rw[gQ]at hi;exact⟨vs,f_.of h3,by rw[h4.length];exact hi⟩⟩
   obtain⟨d',hd',rfl⟩:=iL es' 0 i d hd;obtain⟨v,hv,rv⟩:=h4.get hd';refine⟨⟨vs,v,f_.of h3,hv⟩,fun y H3 hy => ?_⟩
   obtain⟨p,rfl,hp,hy⟩:=hy;obtain⟨w,hw,rfl⟩:=hy vs (f_.of h3);rw[hv]at hw;cases hw
   exact fin s2 rv p hp
  ·have hseq:∀ Ω,eP Ω x=dE Ω x:=fun Ω=>by
    cases x with
    | tup es=>exact absurd ⟨es,rfl⟩ ht
    | _=>rfl
   rw[hseq]at hq;have r1':=r1;obtain⟨a,F4,rfl,q1,q2⟩:=bP s1 r1 hq;refine⟨a,rfl,.inl ⟨⟨F4,kx q1⟩,k1 _ H1 α1 Z1 (cx.refl s1.has) s1 ?_⟩⟩;intro α2 Z2 ao H2 ds g2 s2 hs2;obtain⟨es2,h2,rfl⟩:=cG hs2;rw[hseq]at h2;have r2:=s1.dj g2 r1';obtain⟨a',vs,e,h3,h4⟩:=bP s2 r2 h2;cases e;refine⟨fun i d hd => ?_,fun i hi=>by rw[gQ]at hi;exact⟨vs,kx h3,by rw[h4.length];exact hi⟩⟩
   obtain⟨d',hd',rfl⟩:=iL es2 0 i d hd;obtain⟨v,hv,rv⟩:=h4.get hd';refine⟨⟨vs,v,kx h3,hv⟩,fun y H3 hy => ?_⟩
   obtain⟨p,rfl,hp,hy⟩:=hy;obtain⟨w,hw,rfl⟩:=hy vs (kx h3);rw[hv]at hw;cases hw
   exact fin s2 rv p hp
theorem uW{es:List Expr}{x1:Nat}{tpos p1 p2:Pos}{a:Expr}{m:EM}(hb:er a=true)(hl:(p1.endLine == p2.line)=true)(ha:bu X κ Φ a m) :
  vc X κ Φ (.Tuple es x1 tpos) (.Call (.Attribute a "items" p1) [] [] p2) (kU m):=by
 intro aE Z0 H0 ρ Ω;refine PI.imp (wL (dY hb) hl (ha aE Z0 H0 ρ Ω)) ?_;rintro σ H R ⟨α,Z,S,g⟩;refine⟨α,Z,S,qh.use g fun x ab _ v H1 α1 Z1 g1 s1 r1 k1 => ?_⟩
 unfold sY at k1;split at k1
 ·rename_i k
  simp only[au]at r1;obtain⟨a,ha,rfl⟩:=r1;split at k1
  ·rename_i kvs hk
   obtain⟨a',ha',kvs',h1,h2⟩:=s1.cell hk;rw[ha]at ha';cases ha'
   refine⟨a,kvs',rfl,.inl ⟨h1,fun o => ?_⟩⟩
   obtain⟨s2,g2⟩:=s1.put (c:=.dF kvs) (o:=.dD o (.dK kvs')) ha (fun o u q=>by rw[h1]at q;cases q) fun R hR=>⟨o,kvs',aS,h2.imp hR⟩
   exact k1 _ _ _ _ g2 s2 (mI ha aS)
  ·rename_i kvs hk
   obtain⟨a',ha',of,kvs',h1,h2⟩:=s1.cell hk;rw[ha]at ha';cases ha'
   exact⟨a,kvs',rfl,.inr ⟨of,h1,k1 _ _ _ _ (cx.refl s1.has) s1 (mI ha h1)⟩⟩
  ·exact k1.elim
 ·exact k1.elim
theorem z8{body:List Stmt}{h0:ExceptHandler}{hs:List ExceptHandler}{pos:Pos}{b:SM}(hx:∀ e s,¬ X.xe e s)(hb:lP X κ Φ body b):pF X κ Φ (.Try body (h0::hs) [] [] pos) b:=by
 intro aE Z0 H0 ρ Ω pins s σ H D I h;refine wpAny_Try_except (wpAny_mono (hb aE Z0 H0 ρ Ω pins s σ H D I h) (fun f s1 q => ?_) fun e s1 q=>absurd q (hx e s1))
 cases f with
 | next=>exact wpAny_execs_nil q
 | _=>exact q
theorem z9(G:GoodO X κ T k sc N){f:Expr->Option EM}(hf:∀ e m,f e=some m->lG X κ e m){iter:Expr}{mi:IM}(h:nR f sc iter=some mi){es:List Expr}{j:Nat}{tp:Pos}:∀ Φ,vc X κ Φ (.Tuple es j tp) iter mi:=by
 intro Φ;unfold nR at h;split at h
 ·rename_i g p a pos
  split at h
  ·rename_i hr
   obtain rfl:=eq_of_beq hr;split at h
   ·rename_i hc
    obtain⟨ca,e,rfl⟩:=cG h;obtain⟨p1,_,p4⟩:=hf a ca e;exact z7 (G.gl hc) (G.fo _ (by decide)) (by rw[cw p4];rfl) (p1 Φ)
   ·cases h
  ·exact k7 G hf h Φ _
 ·rename_i o mm p1 p2
  split at h
  ·rename_i hc
   simp only[Bool.and_eq_true,beq_iff_eq]at hc;obtain⟨⟨rfl,hl⟩,hb⟩:=hc;obtain⟨ca,e,rfl⟩:=cG h;exact uW hb (by simpa using hl) ((hf o ca e).1 Φ)
  ·exact k7 G hf h Φ _
 ·exact k7 G hf h Φ _
theorem uX(G:fV X κ T k sc N){x:Str}{i:Nat}(h:oY sc N x=some i):X.N[i]?=some x/\Loc X.env.scope x:=by
 unfold oY at h;split at h
 ·rename_i hc
  simp only[Bool.and_eq_true]at hc;refine⟨by rw[G.names];exact wy h,?_⟩
  rw[G.scope];have hv:=hc.1;unfold wt at hv;unfold L2.Loc;split at hv
  ·rename_i q;exact .inl q
  ·rename_i q;exact .inr q
  ·cases hv
 ·cases h
theorem iX{f:Stmt->Option SM}(hf:∀ s c,f s=some c->pF X κ Φ s c):∀ {ss:List Stmt} {c:SM},fH f ss=some c->lP X κ Φ ss c
 | [],c,h=>by cases h;exact zS
 | s::ss,c,h=>by
  obtain⟨a,b,h1,h2,rfl⟩:=bS h;exact wW (hf s a h1) (iX hf h2)
theorem gX(G:fV X κ T k sc N){x:Str}{i:Nat}(h:k_ T sc N x=some i):X.N[i]?=some x/\Loc X.env.scope x/\(X.fn x=true\/X.env.scope.names.lookup x=some .local):=by
 unfold k_ at h;split at h
 ·cases h
 ·rename_i hz
  obtain⟨a,b⟩:=uX G h;refine⟨a,b,G.OF x ?_ (by simpa using hz)⟩
  unfold oY at h;split at h
  ·rename_i hc;simp only[Bool.and_eq_true]at hc;exact hc.1
  ·cases h
theorem lg(G:fV X κ T k sc N):∀ {nms:List (Str×Pos)} {is:List Nat},(∀ y∈nms,T.fz.contains y.1=false)->kJ sc N nms=some is->is.length=nms.length/\∀ (j i:Nat) (x:Str×Pos),is[j]?=some i->nms[j]?=some x->X.N[i]?=some x.1/\Loc X.env.scope x.1/\(X.fn x.1=true\/X.env.scope.names.lookup x.1=some .local)
 | [],is,_,h=>by cases h;exact⟨rfl,fun j i x e=>by simp at e⟩
 | x::xs,is,hz,h=>by
  simp only[kJ,Option.bind_eq_bind]at h;obtain⟨i,h1,h⟩:=Option.bind_eq_some_iff.mp h;obtain⟨is',h2,h⟩:=Option.bind_eq_some_iff.mp h;cases h;obtain⟨q1,q2⟩:=lg G (fun y hy=>hz y (by simp[hy])) h2
  refine⟨by rw[List.length_cons,List.length_cons,q1],fun j i' y e1 e2 => ?_⟩
  cases j with
  | zero=>
   simp at e1 e2;subst e1 e2
   exact gX G (by unfold k_;rw[if_neg (by rw[hz x (by simp)];simp)];exact h1)
  | succ j=>exact q2 j i' y (by simpa using e1) (by simpa using e2)
theorem pM(G:fV X κ T k sc N){es:List Expr}{j:Nat}{p:Pos}{nms:List (Str×Pos)}{is:List Nat}(h1:eM es=some nms)(h2:lb T sc N nms=some is):PG X (.Tuple es j p) (yw X.K is.length (je is)):=by
 obtain rfl:=jA h1
 have h2':(∀ y∈nms,T.fz.contains y.1=false)/\kJ sc N nms=some is:=by
  unfold lb at h2;split at h2
  ·cases h2
  ·rename_i hz
   refine⟨fun y hy => ?_,h2⟩
   cases q:T.fz.contains y.1 with
   | false=>rfl
   | true=>exact absurd (List.any_eq_true.mpr ⟨y,hy,q⟩) hz
 obtain⟨q1,q2⟩:=lg G h2'.1 h2'.2;obtain⟨t1,t2⟩:=my X.env nms;exact CM G.calm (mr (nms:=nms) (by rw[G.names];exact G.sO) is nms q1 q2) (by rw[t1,q1]) t2
theorem pN{elt:Expr}{gens:List Comprehension}{scope:Scope}{p px:Pos}{x:Str}{l:Nat}(G:fV X κ T k sc N) :
  swapsWith (.ListComp elt gens scope p) (some (.Name x px)) l X.env=pure (oZ sc x px (.ListComp elt gens scope p)):=by
 have hk:X.env.blockKind=.function:=by
  show(if X.env.scope.kind.isAnnotationScope=true then ScopeKind.function else X.env.scope.kind)=_
  rw[G.scope,G.kind];rfl
 show pure (X.env.blockKind == .function && X.env.kindOf x == some .local && px.line == p.line && !(scope.names.any fun (n,k)=>n == x && (k == .local || k == .cell)))=_
 rw[hk]
 show pure (true && X.env.scope.names.lookup x == some .local && px.line == p.line && !(scope.names.any fun (n,k)=>n == x && (k == .local || k == .cell)))=_
 rw[G.scope];rfl
theorem tq(G:fV X κ T k sc N){n i:Nat}{x:Str}{px pos:Pos}{e:Expr}{m:EM}(hi:k_ T sc N x=some i)(h:cL T n sc N e=some m)(hs:oZ sc x px e=true->pos.line=px.line):pF X κ Φ (.Assign [.Name x px] e pos) (ax i m):=by
 obtain⟨s1,s2,s3⟩:=gX G hi;have hN:X.N.Nodup:=by rw[G.names];exact G.sO
 have E:=rp n X sc N e m G.toGoodO h;have plain:swapsWith e (some (.Name x px)) pos.line X.env=pure false->pF X κ Φ (.Assign [.Name x px] e pos) (ax i m):=fun q=>tf hN s1 s2 s3 q (E.1 Φ)
 cases e with
 | ListComp elt gens scope p=>
  cases hb:oZ sc x px (.ListComp elt gens scope p) with
  | false=>exact plain (by rw[pN G,hb])
  | true=>
   cases n with
   | zero=>cases h
   | succ n=>
   cases hg:kH gens with
   | none=>exact k9 hg h
   | some q=>
    obtain⟨y,py,iter,ifs⟩:=q;obtain rfl:=mx hg;obtain⟨me,nc,mc,mi,cap,rfl,b1,b2,b3,b4,b5,b6⟩:=jE (fun X sc N e m G q=>rp n X sc N e m G q) G.toGoodO h
    have hl:X.env.scope.names.lookup x=some .local:=by
     rw[G.scope];unfold oZ at hb;simp only[Bool.and_eq_true,beq_iff_eq]at hb;exact hb.1.1
    exact wX hN s1 hl (by rw[pN G,hb]) G.calm b1 b4 (jz 1 (by decide)) (kW (cap:=cap) (b5 Φ) b2 b3 b6) (hs hb)
 | SetComp=>cases n<;>cases h
 | DictComp=>cases n<;>cases h
 | _=>exact plain rfl
theorem rC{e:Expr}{t:Option Expr}{l:Nat}{env:Env}(h:ij e=false):swapsWith e t l env=pure false:=by
 cases e<;>first | rfl | (cases h)
theorem tw(G:fV X κ T k sc N):∀ (n:Nat) (kk:Nat) (st:Stmt) (c:SM),jN T td kk sc N n st=some c->pF X κ Φ st c:=by
 intro n kk;have E:∀ e m,cL T kk sc N e=some m->lG X κ e m:=fun e m q=>rp kk X sc N e m G.toGoodO q
 induction n with
 | zero=>intro st c h;cases h
 | succ n ih=>
  intro st c h;have B:∀ ss c,fH (jN T td kk sc N n) ss=some c->lP X κ Φ ss c:=fun ss c q=>iX ih q
  have hN:X.N.Nodup:=by rw[G.names];exact G.sO
  cases st with
  | Return v pos=>
   cases v with
   | none=>cases h
   | some e=>
    replace h:some (match cL T kk sc N e with
   | some m=>bg m
   | none=>bI)=some c:=h
    cases h;split
    ·rename_i m h1
     exact zT ((E e m h1).1 Φ)
    ·exact mJ
  | Assign ts e pos=>
   cases ts with
   | nil=>cases h
   | cons t r=>
   cases r with
   | cons t2 r=>cases t<;>cases h
   | nil=>
   cases t with
   | Name x px=>
    replace h:rz T td kk sc N x px e pos=some c:=h;unfold rz at h;split at h
    ·rename_i i hi
     split at h
     ·rename_i hd
      cases h;simp only[Bool.and_eq_true]at hd;obtain⟨pd,rfl⟩:=xm hd.2;obtain⟨s1,s2,s3⟩:=gX G hi;exact tf hN s1 s2 s3 rfl uT
     ·split at h
      ·rename_i m hm
       split at h
       ·split at h
        ·rename_i hs hl
         cases h;exact tq G hi hm fun _=>eq_of_beq hl
        ·cases h
       ·rename_i hs
        cases h;exact tq G hi hm fun q=>absurd q hs
      ·cases h
    ·cases h
   | Tuple es j p=>
    replace h:rA T kk sc N es e=some c:=h;unfold rA at h;split at h
    ·rename_i nms hn
     split at h
     ·rename_i is m h1 h2
      split at h
      ·rename_i hp
       cases h;exact zV (pM G hn h1) hp ((E e m h2).1 Φ)
      ·cases h
     ·cases h
    ·cases h
   | Attribute o f p=>
    replace h:(if (er o && !ij e)=true then o2 (T.fld.lookup f) (o2 (cL T kk sc N o) (cL T kk sc N e) Prod.mk) fun Cs y=>cY Cs f y.1 y.2 else none)=some c:=h
    split at h
    ·rename_i hc
     simp only[Bool.and_eq_true,Bool.not_eq_true']at hc;obtain⟨Cs,y,h1,h2,rfl⟩:=bS h;obtain⟨mo,mv,h3,h4,rfl⟩:=bS h2;exact zY (G.fld f Cs h1) (rC hc.2) ((E o mo h3).1 Φ) ((E e mv h4).1 Φ)
    ·cases h
   | Subscript o i p=>
    replace h:(if (isSlice i || ij e)=true then none else o2 (cL T kk sc N o) (o2 (cL T kk sc N i) (cL T kk sc N e) Prod.mk) fun x y=>ej x y.1 y.2)=some c:=h
    split at h
    ·cases h
    ·rename_i hc
     simp only[Bool.or_eq_true,not_or,Bool.not_eq_true]at hc;obtain⟨md,y,h1,h2,rfl⟩:=bS h;obtain⟨mk,mv,h3,h4,rfl⟩:=bS h2;exact xf (by have:=G.hu;omega) ((E o md h1).1 Φ) ((E i mk h3).1 Φ) ((E e mv h4).1 Φ) (rC hc.2)
   | _=>cases h
  | Expr e pos=>
   replace h:(if ij e=true then none else (cL T kk sc N e).map cm)=some c:=h
   split at h
   ·cases h
   ·rename_i hc
    obtain⟨m,h1,rfl⟩:=cG h;exact zU (rC (by simpa using hc)) ((E e m h1).1 Φ)
  | If c0 a b pos=>
   obtain⟨m,y,h1,h2,rfl⟩:=bS h;obtain⟨ca,cb,h3,h4,rfl⟩:=bS h2;exact DH ((E c0 m h1).2.1 Φ) (B a ca h3) (B b cb h4)
  | While c0 b e pos=>
   cases e with
   | nil=>
    obtain⟨m,cb,h1,h2,rfl⟩:=bS h;exact uP G.own ((E c0 m h1).2.1 Φ) (B b cb h2)
   | cons _ _=>cases h
  | For tg it b e pos=>
   cases e with
   | nil=>
    cases tg with
    | Name x px=>
     replace h:(if isSet it=true then none else o2 (k_ T sc N x) (o2 (ib (cL T kk sc N) sc it) (fH (jN T td kk sc N n) b) Prod.mk) fun i y=>cF (bV i) y.1 y.2)=some c:=h
     split at h
     ·cases h
     ·rename_i hs
      obtain⟨i,y,h1,h2,rfl⟩:=bS h;obtain⟨mi,cb,h3,h4,rfl⟩:=bS h2;obtain⟨s1,s2,s3⟩:=gX G h1;exact ti G.own G.calm (k7 G.toGoodO E h3 Φ _) (mU hN s1 s2 s3) (DI i) (B b cb h4) (kI (by simpa using hs))
    | Tuple es j p=>
     replace h:(if isSet it=true then none else match eM es with
   | some nms=>o2 (lb T sc N nms) (o2 (nR (cL T kk sc N) sc it) (fH (jN T td kk sc N n) b) Prod.mk) fun is y=>cF (fF is) y.1 y.2
   | none=>none)=some c:=h
     split at h
     ·cases h
     ·rename_i hs
      split at h
      ·rename_i nms hn
       obtain⟨is,y,h1,h2,rfl⟩:=bS h;obtain⟨mi,cb,h3,h4,rfl⟩:=bS h2;exact ti G.own G.calm (z9 G.toGoodO E h3 Φ) (pM G hn h1) (wZ is) (B b cb h4) (kI (by simpa using hs))
      ·cases h
    | _=>cases h
   | cons _ _=>cases tg<;>cases h
  | Raise _ _ _=>cases h;exact mJ
  | Try b hs oe fi pos=>
   match hs,oe,fi,h with
   | h0::hs,[],[],h=>
    replace h:(if T.xt then none else fH (jN T td kk sc N n) b)=some c:=h
    split at h
    ·cases h
    ·rename_i hx
     exact z8 (G.vj (by simpa using hx)) (B b c h)
   | [],_,_,h=>cases h
   | _::_,_::_,_,h=>cases h
   | _::_,[],_::_,h=>cases h
  | _=>cases h
def eZ(mg:Str->Option Value):Str->Addr->Prop:=fun C a=>mg C=some (.ref a)
structure bC(P:Program)(w:World)(K:PySem.W.Frag)(mg:Str->Option Value)(base:Heap)(T:bc)(k:Nat):Prop where
 fo:∀ x∈ef,mg x=none
 lF:∀ x F,T.lF.lookup x=some F->∃ (f:Addr) (fd:FuncData) (ps:List Str),mg x=some (.ref f)/\PySem.W.keepIn K (.ref f)=true/\Binds K fd ps []/\cU P w K mg base jS k f fd ps (kE F)
 fn:∀ x F,T.fn.lookup x=some F->∃ (f:Addr) (fd:FuncData) (ps:List Str),mg x=some (.ref f)/\PySem.W.keepIn K (.ref f)=true/\Binds K fd ps []/\cU P w K mg base jS k f fd ps (dU (eZ mg) F)
 cst:∀ x d,T.cst.lookup x=some d->∃ v u,mg x=some u/\RelV v u/\fy d=some v
 met:∀ m C F,(m,C,F)∈T.met->∃ (Ca f:Addr) (fd:FuncData) (ps:List Str),BS P w K mg base (eZ mg) k C m F Ca f fd ps
 cls:∀ C F,T.cls.lookup C=some F->∃ j,j + 1<=k/\∃ (Ca f:Addr) (fd:FuncData) (ps:List Str),eZ mg C Ca/\Mk K Ca f/\mg C=some (.ref Ca)/\Binds K fd ps []/\cU P w K mg base jS j f fd ps (dU (eZ mg) F)
 fld:∀ f Cs,T.fld.lookup f=some Cs->jm K (eZ mg) Cs f
 clo:∀ j F,T.clo[j]?=some F->pI P w K mg base (eZ mg) k j F
def b9(T:bc)(td:List Str)(st:Stmt)(N:List Str):Option SM:=fH (jN T td 60 (aw st) N 30) (bG st)
end
section
variable{P:Program}{w:World}{K:PySem.W.Frag}{mg:Str->Option Value}{base:Heap}{T:bc}{k:Nat}
theorem bo(W:bC P w K mg base T k){x qual:Str}{st:Stmt}{f:Addr}{fd:FuncData}(F:Dj K x qual st f fd){N ps td:List Str}{c:SM}(hs:bO N ps (aw st)=true)(hc:b9 T td st N=some c) :
    cU P w K mg base jS (k + 1) f fd ps (dU (eZ mg) (bN N.length ps.length c)):=by
  refine F.ok (nz hs) (fun vs H Q E h => ?_) fun cdv A outer s H vs Q E hr h => ?_
  · obtain⟨α,Z,Ω,ds,S,r,g⟩:=h
    rw[r.length];unfold bN at g;split at g
    · rename_i hl;exact hl
    · exact g.elim
  · obtain⟨α,Z,Ω,ds,S,r,g⟩:=h
    have Sc:=nz hs
    have G:fV (oE jS P w K mg base N qual (aw st) f cdv A outer s H E).vj (eZ mg) T k (aw st) N:=
      { scope:=rfl,names:=rfl,calm:=rfl,room:=hr,fo:=W.fo,own:=PassesOwn.never,OF:=fun _ _ _=>.inl rfl,sO:=Sc.nd,kind:=Sc.kind,vj:=fun _ _ _ h=>h,fld:=W.fld,cst:=W.cst
        lF:=fun x F h=>⟨W.lF x F h⟩,fn:=fun x F h=>⟨W.fn x F h⟩,met:=fun m C F h=>⟨W.met m C F h⟩,cls:=fun C F h=>let ⟨j,h1,h2⟩:=W.cls C F h;⟨j,h1,⟨h2⟩⟩,clo:=W.clo }
    refine⟨Hr (eZ mg) pD α Z H c (a_ N.length ds) Ω,iX (tw G 30 60) hc α Z H (a_ N.length ds) Ω,α,Z,kZ S r,?_⟩;unfold bN at g;split at g
    · cases q:c (a_ N.length ds) Ω with
      | rt d ak=>rw[q]at g;exact fun v H' α' Z' gr st r=>g v H' α' Z' gr st r
      | nx ρ ak=>rw[q]at g;exact fun σ H' α' Z' S'=>g .non H' α' Z' S'.gr S'.st (aW rfl)
      | bk ρ ak=>rw[q]at g;exact g.elim
      | ct ρ ak=>rw[q]at g;exact g.elim
      | exc x ak=>rw[q]at g;exact g
      | bad=>rw[q]at g;exact g.elim
    · exact g.elim
theorem z_{F:ba}{ak:aG}{H:Hp}{a:Addr}{ns:List Int}{κ:Str->Addr->Prop}(hR:Rd H a (.lst (ns.map V.int)))(h:F [.lst (ns.map D.int)] []=.ok (.bl true) ak):dU κ F [.ref a] H (fun v _=>v=.bl true) E0:=by
 refine⟨[],fun b=>b=a,[],[.lst (ns.map D.int)],⟨List.nodup_nil,.nil,fun _ h=>by simp at h,fun b e => ?_⟩,.one ?_,?_⟩
 ·subst e
  rcases hR with e | ⟨o,e⟩<;>rw[e]<;>simp
 ·simp only[au]
  refine⟨a,ns.map V.int,rfl,rfl,hR,?_⟩;clear h hR
  induction ns with
  | nil=>exact bp.mpr .nil
  | cons n ns ih=>exact bp.mpr (.cons (by simp only[au]) (bp.mp ih))
 ·rw[h]
  intro v H' α' Z' g s r;simpa only [au] using r
theorem bC.mono(W:bC P w K mg base T k){j:Nat}(h:k<=j):bC P w K mg base T j:=
 ⟨W.fo,fun x F q=>let ⟨f,fd,ps,a,b,c,d⟩:=W.lF x F q;⟨f,fd,ps,a,b,c,d.mono h⟩,fun x F q=>let ⟨f,fd,ps,a,b,c,d⟩:=W.fn x F q;⟨f,fd,ps,a,b,c,d.mono h⟩,W.cst,
  fun m C F q=>let ⟨Ca,f,fd,ps,a,b,c,ds,gi,Dd,F1,d,d1,d2,e,g⟩:=W.met m C F q;⟨Ca,f,fd,ps,a,b,c,ds,gi,Dd,F1,d,d1,d2,e.mono h,g⟩,fun C F q=>let ⟨j',h1,h2⟩:=W.cls C F q;⟨j',Nat.le_trans h1 h,h2⟩,W.fld,fun j F q=>(W.clo j F q).mono h⟩
end
noncomputable def bc.uY(T:bc)(x:Str)(F:List D->Out Rs):bc:={ T with lF:=(x,F)::T.lF }
noncomputable def bc.cW(T:bc)(x:Str)(F:ba):bc:={ T with fn:=(x,F)::T.fn }
noncomputable def bc.fI(T:bc)(C m:Str)(F:ba):bc:={ T with met:=(m,C,F)::T.met }
noncomputable def bc.Aa(T:bc)(C:Str)(F:ba):bc:={ T with cls:=(C,F)::T.cls }
def bc.uZ(T:bc)(f:Str)(Cs:List Str):bc:={ T with fld:=(f,Cs)::T.fld }
noncomputable def bc.lQ(T:bc)(x:Str)(d:D):bc:={ T with cst:=(x,d)::T.cst }
theorem fJ{β:Type}{x y:Str}{F G:β}{l:List (Str×β)}(h:((x,F)::l).lookup y=some G):(y=x/\G=F)\/l.lookup y=some G:=by
 rw[List.lookup_cons]at h;cases e:y == x with
 | true=>rw[e]at h;cases h;exact .inl ⟨eq_of_beq e,rfl⟩
 | false=>rw[e]at h;exact .inr h
section
variable{P:Program}{w:World}{K:PySem.W.Frag}{mg:Str->Option Value}{base:Heap}{T:bc}{k:Nat}
theorem bC.start(nb:∀ x∈ef,mg x=none):bC P w K mg base {} 0:=
 ⟨nb,fun x F h=>(by cases h),fun x F h=>(by cases h),fun x d h=>(by cases h),fun m C F h=>(by cases h),fun C F h=>(by cases h),fun f Cs h=>(by cases h),fun j F h=>(by cases h)⟩
theorem bC.uY(W:bC P w K mg base T k){x:Str}{F:List D->Out Rs}{f:Addr}{fd:FuncData}{ps:List Str}{j:Nat}(hm:mg x=some (.ref f))(hk:PySem.W.keepIn K (.ref f)=true)(hb:Binds K fd ps [])(h:cU P w K mg base jS j f fd ps (kE F))(hj:j<=k) :
  bC P w K mg base (T.uY x F) k:=
 ⟨W.fo,fun y G q=>by
  rcases fJ q with ⟨rfl,rfl⟩ | q
  ·exact⟨f,fd,ps,hm,hk,hb,h.mono hj⟩
  ·exact W.lF y G q,W.fn,W.cst,W.met,W.cls,W.fld,W.clo⟩
theorem bC.cW(W:bC P w K mg base T k){x:Str}{F:ba}{f:Addr}{fd:FuncData}{ps:List Str}(hm:mg x=some (.ref f))(hk:PySem.W.keepIn K (.ref f)=true)(hb:Binds K fd ps [])(h:cU P w K mg base jS (k + 1) f fd ps (dU (eZ mg) F)) :
  bC P w K mg base (T.cW x F) (k + 1):=by
 have W':=W.mono (Nat.le_succ k)
 exact⟨W'.fo,W'.lF,fun y G q=>by
  rcases fJ q with ⟨rfl,rfl⟩ | q
  ·exact⟨f,fd,ps,hm,hk,hb,h⟩
  ·exact W'.fn y G q,W'.cst,W'.met,W'.cls,W'.fld,W'.clo⟩
theorem bC.fI(W:bC P w K mg base T k){C m:Str}{F:ba}{Ca f:Addr}{fd:FuncData}{ps:List Str}(hC:mg C=some (.ref Ca))(cl:oB K Ca)(M:Meth K Ca m f)(hb:Binds K fd ps [])(h:cU P w K mg base jS (k + 1) f fd ps (dU (eZ mg) F)) :
  bC P w K mg base (T.fI C m F) (k + 1):=by
 have W':=W.mono (Nat.le_succ k)
 exact⟨W'.fo,W'.lF,W'.fn,W'.cst,fun m' C' G q=>by
  rcases List.mem_cons.mp q with q | q
  ·cases q
   refine⟨Ca,f,fd,ps,fun a ha => ?_,cl,M,[],[],[],F,hb,.nil,fun _ _ _=>.nil,h,by funext xs;rw[List.append_nil]⟩
   have ha:mg C=some (.ref a):=ha;rw[hC]at ha;cases ha;rfl
  ·exact W'.met m' C' G q,W'.cls,W'.fld,W'.clo⟩
theorem bC.Hw(W:bC P w K mg base T k){C m:Str}{F:ba}{Ca f:Addr}{fd:FuncData}{ps:List Str}{ds:List Value}{gi:List V}{Dd:List D}(hC:mg C=some (.ref Ca))(cl:oB K Ca)(M:Meth K Ca m f)(hb:Binds K fd ps ds)(hd:Vals gi ds)(hD:∀ α Z H,aJ (au α Z H) Dd gi)(h:cU P w K mg base jS (k + 1) f fd ps (dU (eZ mg) F)) :
  bC P w K mg base (T.fI C m fun xs=>F (xs++Dd)) (k + 1):=by
 have W':=W.mono (Nat.le_succ k)
 exact⟨W'.fo,W'.lF,W'.fn,W'.cst,fun m' C' G q=>by
  rcases List.mem_cons.mp q with q | q
  ·cases q
   refine⟨Ca,f,fd,ps,fun a ha => ?_,cl,M,ds,gi,Dd,F,hb,hd,hD,h,rfl⟩
   have ha:mg C=some (.ref a):=ha;rw[hC]at ha;cases ha;rfl
  ·exact W'.met m' C' G q,W'.cls,W'.fld,W'.clo⟩
theorem bC.Aa(W:bC P w K mg base T k){C:Str}{F:ba}{Ca f:Addr}{fd:FuncData}{ps:List Str}{j:Nat}(hC:mg C=some (.ref Ca))(M:Mk K Ca f)(hb:Binds K fd ps [])(h:cU P w K mg base jS j f fd ps (dU (eZ mg) F))(hj:j<=k) :
  bC P w K mg base (T.Aa C F) (k + 1):=by
 have W':=W.mono (Nat.le_succ k)
 exact⟨W'.fo,W'.lF,W'.fn,W'.cst,W'.met,fun y G q=>by
  rcases fJ q with ⟨rfl,rfl⟩ | q
  ·exact⟨j,by omega,Ca,f,fd,ps,hC,M,hC,hb,h⟩
  ·exact W'.cls y G q,W'.fld,W'.clo⟩
theorem bC.uZ(W:bC P w K mg base T k){f:Str}{Cs:List Str}(h:jm K (eZ mg) Cs f):bC P w K mg base (T.uZ f Cs) k:=
 ⟨W.fo,W.lF,W.fn,W.cst,W.met,W.cls,fun y G q=>by
  rcases fJ q with ⟨rfl,rfl⟩ | q
  ·exact h
  ·exact W.fld y G q,W.clo⟩
theorem bC.lQ(W:bC P w K mg base T k){x:Str}{d:D}{v:V}{u:Value}(h1:mg x=some u)(h2:RelV v u)(h3:fy d=some v):bC P w K mg base (T.lQ x d) k:=
 ⟨W.fo,W.lF,W.fn,fun y G q=>by
  rcases fJ q with ⟨rfl,rfl⟩ | q
  ·exact⟨v,u,h1,h2,h3⟩
  ·exact W.cst y G q,W.met,W.cls,W.fld,W.clo⟩
theorem plain1{C f:Str}{Ca:Addr}(hC:mg C=some (.ref Ca))(cl:oB K Ca)(n:PySem.W.findIn K (.ref Ca) f=some none):jm K (eZ mg) [C] f:=fun C' a hc ha=>by
 have hc:C'=C:=by simpa using hc
 subst hc;have ha:mg C'=some (.ref a):=ha;rw[hC]at ha;cases ha;exact⟨cl,n⟩
end
def Hx(F:ba):Sp:=fun vs H Q E=>∀ κ,dU κ F vs H Q E
end Mir
namespace Mir
open PySem PySem.Spec PyProof.Rows L2
def DN:D->Bool
 | .lst ds=>ds.all fb
 | d=>fb d
section
variable{α:List Addr}{Z Z1:Addr->Prop}{H H1:Hp}
theorem tB{d:D}{v:V}(hf:fb d=true)(r:Rep Z H d v):au α Z1 H1 d v:=by
 cases d with
 | lst _=>cases hf
 | tup _=>cases hf
 | ref _=>cases hf
 | dct _ _=>cases hf
 | _=>simp only[Rep]at r;simp only[au];exact r
theorem u0{d:D}{v:V}(hf:fb d=true)(r:au α Z1 H1 d v):Rep Z H d v:=by
 cases d with
 | lst _=>cases hf
 | tup _=>cases hf
 | ref _=>cases hf
 | dct _ _=>cases hf
 | _=>simp only[au]at r;simp only[Rep];exact r
theorem pO:∀ {ds:List D} {vs:List V},ds.all fb=true->aT Z H ds vs->eg α Z1 H1 ds vs
 | [],vs,_,r=>by simp only[aT]at r;simp only[eg];exact r
 | d::ds,vs,h,r=>by
  simp only[List.all_cons,Bool.and_eq_true]at h;simp only[aT]at r;obtain⟨v,r',e,h1,h2⟩:=r;simp only[eg];exact⟨v,r',e,tB h.1 h1,pO h.2 h2⟩
theorem Hy{d:D}{v:V}(h:DN d=true)(r:Rep Z H d v):au α Z H d v:=by
 cases d with
 | lst ds=>
  simp only[Rep]at r;obtain⟨a,vs,e,z,hr,rs⟩:=r;simp only[au];exact⟨a,vs,e,z,hr,pO h rs⟩
 | tup _=>cases h
 | ref _=>cases h
 | dct _ _=>cases h
 | _=>exact tB rfl r
theorem xn:∀ {ds:List D} {vs:List V},ds.all DN=true->aT Z H ds vs->aJ (au α Z H) ds vs
 | [],vs,_,r=>by simp only[aT]at r;subst r;exact .nil
 | d::ds,vs,h,r=>by
  simp only[List.all_cons,Bool.and_eq_true]at h;simp only[aT]at r;obtain⟨v,r',rfl,h1,h2⟩:=r;exact .cons (Hy h.1 h1) (xn h.2 h2)
end
variable [aN]
def pureOf(O:ba):List D->Out Rs:=fun ds=>if ds.all DN=true then (match O ds [] with
  | .ok d _=>if fb d=true then .ok (false,d) else .bad
  | _=>.bad) else .bad
section
variable{P:Program}{w:World}{K:PySem.W.Frag}{mg:Str->Option Value}{base:Heap}{k:Nat}{f:Addr}{fd:FuncData}{ps:List Str}{O:ba}
theorem tD(h:cU P w K mg base jS k f fd ps (dU (eZ mg) O)):cU P w K mg base jS k f fd ps (kE (pureOf O)):=h.imp fun vs H Q E q=>by
 obtain⟨Z,ds,own,d,dom,r,e,g⟩:=q;unfold pureOf at e
 by_cases q1:ds.all DN=true
 ·rw[if_pos q1]at e
  refine⟨[],Z,[],ds,⟨List.nodup_nil,.nil,fun a ha=>by simp at ha,dom⟩,xn q1 r,?_⟩
  cases q2:O ds [] with
  | exc x Ω=>rw[q2]at e;cases e
  | bad=>rw[q2]at e;cases e
  | ok d1 Ω=>
   rw[q2]at e;dsimp only at e
   by_cases hf:fb d1=true
   ·rw[if_pos hf]at e
    cases e;intro v H' α' Z' gr st rv;refine g v H' Z ⟨fun b o hb=>gr.frm b o hb (by simp),fun _ h=>h,fun _ h=>.inl h,fun a ha => ?_⟩ (.rep (u0 hf rv))
    cases q3:H a with
    | none=>exact absurd q3 (dom a ha)
    | some o=>rw[gr.frm a o q3 (by simp)];simp
   ·rw[if_neg hf]at e;cases e
 ·rw[if_neg q1]at e;cases e
end
end Mir
namespace Mir
open PySem
@[simp] theorem Hz:jJ .non=some false:=rfl
@[simp] theorem Md{b:Bool}:jJ (.bl b)=some b:=rfl
@[simp] theorem HD{i:Int}:jJ (.int i)=some (i != 0):=rfl
@[simp] theorem HE{xs:List D}:jJ (.lst xs)=some (!xs.isEmpty):=rfl
@[simp] theorem HF{xs:List D}:jJ (.tup xs)=some (!xs.isEmpty):=rfl
section
variable{Γ:lL}{ρ:yT}{a b:Tg}{e:Ex}{i j:Nat}{bw:Bool}
end
section
variable{bw:Bool}{i:Nat}{a b c es:Ex}
end
section
variable{Γ:lL}{ρ:yT}{bw:Bool}{i:Nat}{a b c es:Ex}
def yX(o:Bool)(f:List D->D):D->Out Rs
 | .tup ds=>if small ds.length=true then .ok (o,f ds) else .bad
 | _=>.bad
@[simp] theorem HG{o:Bool}{f:List D->D}{ds:List D}:yX o f (.tup ds)=if small ds.length=true then .ok (o,f ds) else .bad:=rfl
end
@[simp] theorem Me{i j:Int}:fw .Add (.int i) (.int j)=.ok (false,.int (i + j)):=rfl
@[simp] theorem Mf{i j:Int}:fw .Sub (.int i) (.int j)=.ok (false,.int (i - j)):=rfl
@[simp] theorem Mh{i j:Int}:fw .Mult (.int i) (.int j)=if (kr i || kr j)=true then .ok (false,.int (i * j)) else .bad:=rfl
@[simp] theorem Mi{i j:Int}:fw .FloorDiv (.int i) (.int j)=if (decide (0 < j) && decide (j < 1073741824))=true then .ok (false,.int (i / j)) else .bad:=rfl
@[simp] theorem Mj{i j:Int}:fw .Mod (.int i) (.int j)=if decide (0 < j)=true then .ok (false,.int (i % j)) else .bad:=rfl
@[simp] theorem Ml{i j:Int}:fw .Pow (.int i) (.int j)=if (decide (0<=j) && decide (j<=1000) && decide (i.natAbs < 2 ^ 64))=true then .ok (false,.int (i ^ j.toNat)) else .bad:=rfl
@[simp] theorem HH{i j:Str}:fw .Add (.str i) (.str j)=if small (i.length + j.length)=true then .ok (false,.str (i++j)) else .bad:=rfl
@[simp] theorem HI{i j:List D}:fw .Add (.lst i) (.lst j)=if small (i.length + j.length)=true then .ok (true,.lst (i++j)) else .bad:=rfl
@[simp] theorem xo{x y:D}:dI .Eq x y=if (aI 8 x && aI 8 y)=true then .ok (eA x y) else .bad:=rfl
@[simp] theorem xp{x y:D}:dI .NotEq x y=if (aI 8 x && aI 8 y)=true then .ok (!eA x y) else .bad:=rfl
@[simp] theorem OG{i j:Int}:dI .Lt (.int i) (.int j)=.ok (decide (i < j)):=rfl
@[simp] theorem OH{i j:Int}:dI .LtE (.int i) (.int j)=.ok (decide (i<=j)):=rfl
@[simp] theorem cmp_gt{i j:Int}:dI .Gt (.int i) (.int j)=.ok (decide (j < i)):=rfl
@[simp] theorem OI{i j:Int}:dI .GtE (.int i) (.int j)=.ok (decide (j<=i)):=rfl
@[simp] theorem OJ{x y:D}:dI .In x y=inD x y:=rfl
@[simp] theorem Mm{x y:D}:dI .NotIn x y=inD x y >>= fun b=>.ok (!b):=rfl
@[simp] theorem OK{x y:D}:dI .Is x y=isD x y:=rfl
@[simp] theorem Mn{x y:D}:dI .IsNot x y=isD x y >>= fun b=>.ok (!b):=rfl
@[simp] theorem OL{n:Nat}:aI n .non=true:=by cases n<;>rfl
@[simp] theorem TH{n:Nat}{b:Bool}:aI n (.bl b)=true:=by cases n<;>rfl
@[simp] theorem OM{n:Nat}{i:Int}:aI n (.int i)=true:=by cases n<;>rfl
@[simp] theorem ON{n:Nat}{x:Str}:aI n (.str x)=true:=by cases n<;>rfl
@[simp] theorem OO{n:Nat}{xs:List D}:aI (n + 1) (.lst xs)=xs.all (aI n):=rfl
@[simp] theorem OP{n:Nat}{xs:List D}:aI (n + 1) (.tup xs)=xs.all (aI n):=rfl
@[simp] theorem eq_int{i j:Int}:eA (.int i) (.int j)=(i == j):=rfl
@[simp] theorem TJ{i j:Bool}:eA (.bl i) (.bl j)=(i == j):=rfl
@[simp] theorem eq_str{i j:Str}:eA (.str i) (.str j)=(i == j):=rfl
@[simp] theorem OQ{i j:List D}:eA (.lst i) (.lst j)=eB i j:=rfl
@[simp] theorem OR{i j:List D}:eA (.tup i) (.tup j)=eB i j:=rfl
@[simp] theorem Mo:eB [] []=true:=rfl
@[simp] theorem pP{x y:D}{xs ys:List D}:eB (x::xs) (y::ys)=(eA x y && eB xs ys):=rfl
@[simp] theorem OS{y:D}{ys:List D}:eB [] (y::ys)=false:=rfl
@[simp] theorem OT{y:D}{ys:List D}:eB (y::ys) []=false:=rfl
theorem Ab{z:Str}{i:Int}{c:Nat}(h:small z.length=true)(e:L2.jH z.cps.toList i=some c):qF (.str z) (.int i)=.ok (false,.str (bE c)):=by
 simp only[qF,h,if_pos,e]
@[simp] theorem Mp{xs:List D}{l h:Option Int}:vV (.lst xs) l h=.ok (true,.lst (cX xs l h)):=rfl
@[simp] theorem Mq{z:Str}{l h:Option Int}:vV (.str z) l h=if small z.length=true then .ok (false,.str ⟨(cX z.cps.toList l h).toArray⟩) else .bad:=rfl
@[simp] theorem Mr{xs:List D}:ie .len (.tup [.lst xs])=.ok (false,.int xs.length):=rfl
@[simp] theorem Ms{xs:List D}:ie .len (.tup [.tup xs])=.ok (false,.int xs.length):=rfl
@[simp] theorem len_str{z:Str}:ie .len (.tup [.str z])=if small z.length=true then .ok (false,.int z.length) else .bad:=rfl
def xq(f:List Bool->Bool):Option (List Bool)->Out Rs
 | some bs=>.ok (false,.bl (f bs))
 | none=>.bad
@[simp] theorem F5{f:List Bool->Bool}{bs:List Bool}:xq f (some bs)=.ok (false,.bl (f bs)):=rfl
@[simp] theorem Mt{xs:List D}:ie .all (.tup [.lst xs])=xq (fun bs=>bs.all id) (fx xs):=rfl
@[simp] theorem Mu{xs:List D}:ie .any (.tup [.lst xs])=xq (fun bs=>bs.any id) (fx xs):=rfl
@[simp] theorem HJ{xs:List D}:ie .list (.tup [.lst xs])=.ok (true,.lst xs):=rfl
@[simp] theorem HK{xs:List D}:ie .list (.tup [.tup xs])=.ok (true,.lst xs):=rfl
@[simp] theorem F6{xs:List D}:ie .tuple (.tup [.lst xs])=.ok (false,.tup xs):=rfl
@[simp] theorem F7{xs:List D}:ie .tuple (.tup [.tup xs])=.ok (false,.tup xs):=rfl
@[simp] theorem int_int{i:Int}:ie .int (.tup [.int i])=.ok (false,.int i):=rfl
@[simp] theorem OU{k:Bool}:ie .int (.tup [.bl k])=.ok (false,.int (if k then 1 else 0)):=rfl
@[simp] theorem Mv{i j:Int}:ie .min (.tup [.int i,.int j])=.ok (false,.int (if j < i then j else i)):=rfl
@[simp] theorem Mw{i j:Int}:ie .max (.tup [.int i,.int j])=.ok (false,.int (if j > i then j else i)):=rfl
@[simp] theorem OV{t:Ty}:vX .non t=some false:=rfl
@[simp] theorem TK{t:Ty}{b:Bool}:vX (.bl b) t=some (t == .bool || t == .int):=rfl
@[simp] theorem ty_int{t:Ty}{i:Int}:vX (.int i) t=some (t == .int):=rfl
@[simp] theorem ty_str{t:Ty}{x:Str}:vX (.str x) t=some (t == .str):=rfl
@[simp] theorem OW{t:Ty}{xs:List D}:vX (.lst xs) t=some (t == .list):=rfl
@[simp] theorem OX{t:Ty}{xs:List D}:vX (.tup xs) t=some (t == .tuple):=rfl
@[simp] theorem OY{t:Ty}{ks:List L2.Key}{xs:List D}:vX (.dct ks xs) t=some (t == .dict):=rfl
theorem aH{n:Nat}(h:n<=100000):small n=true:=by
 unfold small;rw[decide_eq_true_eq,sizeLine_eq];omega
theorem iY{i:Int}(h1 : -(2 ^ 64) < i)(h2:i < 2 ^ 64):kr i=true:=decide_eq_true (by omega)
theorem fg{i:Int}(h1 : -(2 ^ 62) < i)(h2:i < 2 ^ 62):lK i=true:=decide_eq_true (by omega)
theorem DO{α:Type}{xs:List α}{i:Int}(h0:0<=i)(h1:i < xs.length):∃ x,x∈xs/\L2.jH xs i=some x:=by
 have hl:i.toNat < xs.length:=by omega
 refine⟨xs[i.toNat],List.getElem_mem hl,?_⟩;have h:=L2.dm (List.getElem?_eq_getElem hl);rw[show(i.toNat:Int)=i by omega]at h
 exact h
@[simp] theorem in_str{x y:Str}:inD (.str x) (.str y)=.ok (sr x y):=rfl
theorem dP(n:Nat):∀ lo:Int,(intsFrom lo n).length=n:=by
 induction n with
 | zero=>intro lo;rfl
 | succ n ih=>intro lo;simp[intsFrom,ih]
theorem fh{n:Nat}:∀ {lo:Int} {i:Nat} {d:D},(intsFrom lo n)[i]?=some d->d=.int (lo + i)/\i < n:=by
 induction n with
 | zero=>intro lo i d h;simp[intsFrom]at h
 | succ n ih=>
  intro lo i d h;cases i with
  | zero=>simp[intsFrom]at h;subst h;exact⟨by simp,by omega⟩
  | succ i=>
   simp[intsFrom]at h;obtain⟨h1,h2⟩:=ih h;exact⟨by rw[h1];congr 1;omega,by omega⟩
noncomputable def L1(xs:List Str):D:=.lst (xs.map .str)
def LL(rs:List (List Str)):D:=.lst (rs.map L1)
theorem rD{α:Type}(xs:List α)(k:Nat):cX xs (some (k:Int)) none=xs.drop k:=by
 unfold cX;rw[HT.oG,HT.jR];rcases Nat.le_total k xs.length with h | h
 ·rw[Nat.min_eq_left h]
  exact List.take_of_length_le (by simp)
 ·rw[Nat.min_eq_right h,List.drop_eq_nil_of_le (Nat.le_refl _),List.drop_eq_nil_of_le h];simp
theorem rE{α:Type}(xs:List α)(k:Nat):cX xs none (some (k:Int))=xs.take k:=by
 unfold cX;rw[HT.oG,HT.jR,List.drop_zero,Nat.sub_zero];rcases Nat.le_total k xs.length with h | h
 ·rw[Nat.min_eq_left h]
 ·rw[Nat.min_eq_right h,List.take_of_length_le (Nat.le_refl _),List.take_of_length_le h]
theorem xr{α:Type}(xs:List α)(k m:Nat):cX xs (some (k:Int)) (some (m:Int))=(xs.drop k).take (m - k):=by
 unfold cX;rw[HT.jR,HT.jR];rcases Nat.le_total k xs.length with h | h
 ·rw[Nat.min_eq_left h]
  rcases Nat.le_total m xs.length with h' | h'
  ·rw[Nat.min_eq_left h']
  ·rw[Nat.min_eq_right h',List.take_of_length_le (by simp),List.take_of_length_le (by simp;omega)]
 ·rw[Nat.min_eq_right h,List.drop_eq_nil_of_le (Nat.le_refl _),List.drop_eq_nil_of_le h];simp
@[simp] theorem TL{α:Type}(xs:List α):cX xs (some 1) none=xs.tail:=by rw[show(1:Int)=((1:Nat):Int) from rfl,rD];simp
theorem tE(n:Nat)(xs:List Str):(xs.map D.str).all (aI n)=true:=by
 rw[List.all_eq_true];intro d hd;obtain⟨x,_,rfl⟩:=List.mem_map.mp hd;simp
theorem Ac(xs:List Str)(n:Str):((xs.map D.str).any fun y=>eA y (.str n))=decide (n∈xs):=by
 induction xs with
 | nil=>rfl
 | cons x xs ih=>
  simp only[List.map_cons,List.any_cons,ih,eq_str,List.mem_cons]
  by_cases h:n=x
  ·subst h;simp
  ·have:(x == n)=false:=by simp;exact fun e=>h e.symm
   simp[this,h]
theorem Ad(xs:List Str)(n:Str):inD (.str n) (.lst (xs.map .str))=.ok (decide (n∈xs)):=by
 have:inD (.str n) (.lst (xs.map .str))=if aI 8 (.str n) && (xs.map D.str).all (aI 8) then .ok ((xs.map D.str).any fun y=>eA y (.str n)) else .bad:=rfl
 rw[this,tE,Ac];simp
theorem nS(xs ys:List Str):eB (xs.map .str) (ys.map .str)=decide (xs=ys):=by
 induction xs generalizing ys with
 | nil=>cases ys<;>simp
 | cons x xs ih=>
  cases ys with
  | nil=>simp
  | cons y ys=>
   simp only[List.map_cons,pP,eq_str,ih,List.cons.injEq]
   by_cases h:x=y
   ·subst h;simp
   ·simp[h]
theorem HL(xs ys:List Str):eA (L1 xs) (L1 ys)=decide (xs=ys):=nS xs ys
theorem pQ(n:Nat)(xs:List Str):aI (n + 1) (L1 xs)=true:=tE n xs
theorem xu(n:Nat)(rs:List (List Str)):aI (n + 2) (LL rs)=true:=by
 show(rs.map L1).all (aI (n + 1))=true
 rw[List.all_eq_true];intro d hd;obtain⟨x,_,rfl⟩:=List.mem_map.mp hd;exact pQ n x
theorem xv(rs ts:List (List Str)):eA (LL rs) (LL ts)=decide (rs=ts):=by
 show eB (rs.map L1) (ts.map L1)=_
 induction rs generalizing ts with
 | nil=>cases ts<;>simp
 | cons x xs ih=>
  cases ts with
  | nil=>simp
  | cons y ys=>
   simp only[List.map_cons,pP,HL,ih,List.cons.injEq]
   by_cases h:x=y
   ·subst h;simp
   ·simp[h]
noncomputable def freeOf(rs:List (List Str)):List Str->Option Str
 | []=>none
 | n::_=>if ∃ t∈rs,n∈t.tail then none else some n
theorem dv{rs:List (List Str)}{n:Str}{r:List Str}(h:∃ t∈rs,n∈t.tail):freeOf rs (n::r)=none:=if_pos h
theorem dw{rs:List (List Str)}{n:Str}{r:List Str}(h:¬ ∃ t∈rs,n∈t.tail):freeOf rs (n::r)=some n:=if_neg h
def free(rs:List (List Str)):Option Str:=rs.findSome? (freeOf rs)
noncomputable def Ae:Option Str->D
 | none=>.non
 | some n=>.str n
@[simp] theorem OZ{x:Str}:isD (.str x) .non=.ok false:=rfl
@[simp] theorem Mx:isD .non .non=.ok true:=rfl
@[simp] theorem O_{x:Int}:isD (.int x) .non=.ok false:=rfl
@[simp] theorem Pa{x:List D}:isD (.lst x) .non=.ok false:=rfl
noncomputable def cB(n:Str)(r:List Str):List Str:=if r.take 1=[n] then r.tail else r
inductive Mg:List (List Str)->List Str->Prop
 | done {rs}:(∀ r∈rs,r=[])->Mg rs []
 | step {rs n o}:(∃ r∈rs,r≠[])->free rs=some n->Mg (rs.map (cB n)) o->Mg rs (n::o)
theorem any_rows(rs:List (List Str)):fx (rs.map L1)=some (rs.map fun r => !r.isEmpty):=by
 induction rs with
 | nil=>rfl
 | cons r rs ih=>
  simp only[List.map_cons,fx,ih];simp[L1]
theorem any_true{rs:List (List Str)}(h:∃ r∈rs,r≠[]):(rs.map fun r => !r.isEmpty).any id=true:=by
 obtain⟨r,hr,hn⟩:=h;rw[List.any_eq_true];exact⟨_,List.mem_map.mpr ⟨r,hr,rfl⟩,by cases r<;>simp at hn ⊢⟩
theorem any_false{rs:List (List Str)}(h:∀ r∈rs,r=[]):(rs.map fun r => !r.isEmpty).any id=false:=by
 rw[List.any_eq_false];intro b hb;obtain⟨r,hr,rfl⟩:=List.mem_map.mp hb;rw[h r hr];simp
abbrev Fn:=List D->Out Rs
def lp(μ:Int->Int->Int->Int)(F:Fn):Prop:=∀ c t m,0<=t->t < 100000->0 < m->0<=μ c t m/\μ c t m < m/\F [.int c,.int t,.int m]=.ok (false,.int (μ c t m))
noncomputable def SC(ns:List Int):D:=.lst (ns.map .int)
def jn(κ:List Int->Nat->Int)(F:Fn):Prop:=∀ ns (k:Nat),F [SC ns,.int k]=.ok (false,.int (κ ns k))
theorem ints_map(lo:Int)(n:Nat):intsFrom lo n=(List.range n).map fun (i:Nat)=>D.int (lo + i):=by
 apply List.ext_getElem?;intro i
 by_cases h:i < n
 ·have hl:i < (intsFrom lo n).length:=by rw[dP];exact h
  have e:=(fh (List.getElem?_eq_getElem hl)).1;rw[List.getElem?_eq_getElem hl,e];simp[h]
 ·rw[List.getElem?_eq_none (by rw[dP];omega),List.getElem?_eq_none (by simp;omega)]
theorem jo(n:Nat):intsFrom 0 n=(List.range n).map fun (i:Nat)=>D.int i:=by
 rw[ints_map];congr 1;funext i;simp
noncomputable def abc:Str:="abcdefghijklmnopqrstuvwxyz"
theorem DP:∀ q:Nat,q < 26->abc.cps.toList[q]?=some (97 + q):=by decide
theorem tF{q:Int}(h0:0<=q)(h1:q < 26):qF (.str abc) (.int q)=.ok (false,.str (bE (97 + q.toNat))):=by
 refine Ab (aH (by decide)) ?_
 have:=L2.dm (DP q.toNat (by omega))
 rwa[show((q.toNat:Nat):Int)=q by omega]at this
noncomputable def bs(μ:Int->Int->Int->Int)(c:Int):List D:=(List.range 8).map fun (i:Nat)=>.int (μ c i 26)
section
variable{Γ:lL}{M:Fn}{μ:Int->Int->Int->Int}{c:Int}{m:Nat}
end
theorem tG{rs:List (List Str)}{n:Str}(h:free rs=some n):(∃ r∈rs,∃ t,r=n::t)/\∀ t∈rs,n∉t.tail:=by
 unfold free at h;obtain⟨r,hr,e⟩:=List.exists_of_findSome?_eq_some h;cases r with
 | nil=>cases e
 | cons x t=>
  by_cases hb:∃ t∈rs,x∈t.tail
  ·rw[dv hb]at e;cases e
  ·rw[dw hb]at e
   cases e;exact⟨⟨_,hr,t,rfl⟩,fun t ht hn=>hb ⟨t,ht,hn⟩⟩
theorem Af{n:Str}{rs:List (List Str)}(hf:free rs=some n):∀ r∈rs.map (cB n),n∉r:=by
 intro r hr hn;obtain⟨t,ht,rfl⟩:=List.mem_map.mp hr;have hno:=(tG hf).2 t ht;unfold cB at hn;split at hn
 ·exact hno hn
 ·rename_i h
  cases t with
  | nil=>simp at hn
  | cons x t=>
   rcases List.mem_cons.mp hn with e | e
   ·subst e;exact h (by simp)
   ·exact hno e
theorem xw{n x:Str}{r:List Str}(h:x∈cB n r):x∈r:=by
 unfold cB at h;split at h
 ·exact List.mem_of_mem_tail h
 ·exact h
theorem xx{rs:List (List Str)}{o:List Str}(M:Mg rs o):∀ x∈o,∃ r∈rs,x∈r:=by
 induction M with
 | done h=>intro x hx;simp at hx
 | @step rs n o hne hf _ ih=>
  intro x hx;rcases List.mem_cons.mp hx with e | e
  ·subst e
   obtain⟨⟨r,hr,t,rfl⟩,_⟩:=tG hf;exact⟨_,hr,by simp⟩
  ·obtain⟨r,hr,hx⟩:=ih x e
   obtain⟨t,ht,rfl⟩:=List.mem_map.mp hr;exact⟨t,ht,xw hx⟩
theorem xy{rs:List (List Str)}{o:List Str}(M:Mg rs o):o.Nodup:=by
 induction M with
 | done h=>exact List.nodup_nil
 | @step rs n o hne hf M' ih=>
  refine List.nodup_cons.mpr ⟨fun h => ?_,ih⟩
  obtain⟨r,hr,hx⟩:=xx M' n h;exact Af hf r hr hx
section
variable{Γ:lL}
noncomputable def behind(rs:List (List Str)):List Str:=rs.flatMap List.tail
end
@[simp] theorem My{xs:List Str}:ie .list (.tup [L1 xs])=.ok (true,L1 xs):=rfl
@[simp] theorem Mz{xs:List (List Str)}:ie .list (.tup [LL xs])=.ok (true,LL xs):=rfl
@[simp] theorem TM{xs:List Str}{n:Str}:inD (.str n) (L1 xs)=.ok (decide (n∈xs)):=Ad xs n
@[simp] theorem TN{xs:List Str}{t:Ty}:vX (L1 xs) t=some (t == .list):=rfl
@[simp] theorem Wx{n:Nat}{xs:List (List Str)}:aI (n + 2) (LL xs)=true:=xu n xs
@[simp] theorem Wy{xs ys:List (List Str)}:eA (LL xs) (LL ys)=decide (xs=ys):=xv xs ys
@[simp] theorem TQ{a b:Bool}:isD (.bl a) (.bl b)=.ok (a == b):=rfl
open L2
section
variable{α β:Type}{Ω ak:aG}{ρ:aU}{d x y:D}{ma mb mc mi:EM}{as:AM}{a b:SM}
@[simp] theorem aq{a:α}{f:α->aG->ay β}:(ay.ok a Ω).bind f=f a Ω:=rfl
@[simp] theorem Pb{f:α->aG->ay β}:(ay.exc x Ω:ay α).bind f=.exc x Ω:=rfl
@[simp] theorem Pc{f:α->aG->ay β}:(ay.bad:ay α).bind f=.bad:=rfl
@[simp] theorem cC{a:α}{k:α->aG->gM}:bU (.ok a Ω) k=k a Ω:=rfl
@[simp] theorem Pd{k:α->aG->gM}:bU (.exc x Ω:ay α) k=.exc x Ω:=rfl
@[simp] theorem Pe{k:α->aG->gM}:bU (.bad:ay α) k=.bad:=rfl
@[simp] theorem TR{b:ay D}:gS (.ok d Ω) b=.ok d Ω:=rfl
@[simp] theorem Pf{b:ay D}:gS (.exc d Ω) b=.exc d Ω:=rfl
@[simp] theorem rF{b:ay D}:gS .bad b=b:=rfl
@[simp] theorem TU{f:D->aG->ay D}:m1 f ma ρ Ω=(ma ρ Ω).bind f:=rfl
@[simp] theorem dg{f:D->D->aG->ay D}:m2 f ma mb ρ Ω=(ma ρ Ω).bind fun x ab=>(mb ρ ab).bind fun y ao=>f x y ao:=rfl
@[simp] theorem cM{f:List D->aG->ay D}:mN f as ρ Ω=(as ρ Ω).bind f:=rfl
@[simp] theorem aZ:af ρ Ω=.ok [] Ω:=rfl
@[simp] theorem aX:aa ma as ρ Ω=(ma ρ Ω).bind fun x ab=>(as ρ ab).bind fun xs ao=>.ok (x::xs) ao:=rfl
noncomputable def vr:Option (Option D)->aG->ay D
 | some (some d),Ω=>.ok d Ω
 | _,_=>.bad
@[simp] theorem gY:vr (some (some d)) Ω=.ok d Ω:=rfl
@[simp] theorem gZ{i:Nat}:U i ρ Ω=vr ρ[i]? Ω:=by
 unfold U;cases ρ[i]? with
 | none=>rfl
 | some o=>cases o<;>rfl
@[simp] theorem jY:ae d ρ Ω=.ok d Ω:=rfl
@[simp] theorem nT{c:Cell}:hZ Ω c=.ok (.ref Ω.length) (Ω++[c]):=rfl
noncomputable def tb(Ω:aG):Option Bool->ay Bool
 | some b=>.ok b Ω
 | none=>.bad
@[simp] theorem dq{t:Bool}:tb Ω (some t)=.ok t Ω:=rfl
@[simp] theorem dc:cQ (.ok d Ω)=tb Ω (gg Ω d):=by simp only[cQ];cases gg Ω d<;>rfl
@[simp] theorem bL{t:Bool}:gg Ω (.bl t)=some t:=rfl
@[simp] theorem HM:gg Ω .non=some false:=rfl
@[simp] theorem HN{i:Int}:gg Ω (.int i)=some (i != 0):=rfl
noncomputable def By(t:Option Bool)(a b:ay D):ay D:=match t with
 | some true=>a
 | some false=>b
 | none=>.bad
@[simp] theorem tH{a b:ay D}:Mir.By (some true) a b=a:=rfl
@[simp] theorem tI{a b:ay D}:Mir.By (some false) a b=b:=rfl
@[simp] theorem iZ:eQ ma mb ρ Ω=(ma ρ Ω).bind fun x ab=>Mir.By (gg ab x) (mb ρ ab) (.ok x ab):=by
 unfold eQ;cases ma ρ Ω with
 | ok x ab=>
  simp only[aq];cases gg ab x with
  | none=>rfl
  | some t=>cases t<;>rfl
 | exc x ab=>rfl
 | bad=>rfl
@[simp] theorem nU:sW ma mb ρ Ω=(ma ρ Ω).bind fun x ab=>Mir.By (gg ab x) (.ok x ab) (mb ρ ab):=by
 unfold sW;cases ma ρ Ω with
 | ok x ab=>
  simp only[aq];cases gg ab x with
  | none=>rfl
  | some t=>cases t<;>rfl
 | exc x ab=>rfl
 | bad=>rfl
@[simp] theorem jZ:eY ma ρ Ω=(cQ (ma ρ Ω)).bind fun t ab=>.ok (.bl (!t)) ab:=rfl
@[simp] theorem nV:vb mc ma mb ρ Ω=(cQ (mc ρ Ω)).bind fun t ab=>if t=true then ma ρ ab else mb ρ ab:=rfl
@[simp] theorem MA{f g:D->aG->ay D}:zd f g x Ω=gS (f x Ω) (g x Ω):=rfl
@[simp] theorem fW{f g:D->D->aG->ay D}:fE f g x y Ω=gS (f x y Ω) (g x y Ω):=rfl
@[simp] theorem MB{f g:List D->aG->ay D}{xs:List D}:lM f g xs Ω=gS (f xs Ω) (g xs Ω):=rfl
@[simp] theorem MC{f g:EM}:kK f g ρ Ω=gS (f ρ Ω) (g ρ Ω):=rfl
@[simp] theorem MD{n:Nat}:eX Ω n .non=some .non:=by cases n<;>rfl
@[simp] theorem DQ{n:Nat}{t:Bool}:eX Ω n (.bl t)=some (.bl t):=by cases n<;>rfl
@[simp] theorem Ag{n:Nat}{i:Int}:eX Ω n (.int i)=some (.int i):=by cases n<;>rfl
@[simp] theorem j2{n:Nat}{z:Str}:eX Ω n (.str z)=some (.str z):=by cases n<;>rfl
@[simp] theorem Pg{f:α->Option β}:bB f []=some []:=rfl
noncomputable def oc:Option α->Option (List α)->Option (List α)
 | some y,some ys=>some (y::ys)
 | _,_=>none
@[simp] theorem ME{y:α}{ys:List α}:oc (some y) (some ys)=some (y::ys):=rfl
@[simp] theorem tJ{f:α->Option β}{x:α}{xs:List α}:bB f (x::xs)=oc (f x) (bB f xs):=by
 simp only[bB];cases f x<;>cases bB f xs<;>rfl
theorem jq{γ:Type}{f:β->Option γ}{g:α->β}{h:α->γ}(e:∀ x,f (g x)=some (h x)):∀ xs:List α,bB f (xs.map g)=some (xs.map h)
 | []=>rfl
 | x::xs=>by rw[List.map_cons,tJ,e,jq e xs];rfl
@[simp] theorem Ah{n:Nat}{xs:List Str}:bB (eX Ω n) (xs.map .str)=some (xs.map .str):=jq (fun _=>j2) xs
@[simp] theorem Ai{n:Nat}{xs:List Int}:bB (eX Ω n) (xs.map .int)=some (xs.map .int):=jq (fun _=>Ag) xs
theorem Aj{n:Nat}{ds es:List D}(h:bB (eX Ω n) ds=some es):eX Ω (n + 1) (.lst ds)=some (.lst es):=by simp only[eX,h,Option.map_some]
theorem j3{n k:Nat}{ds es:List D}(hk:Ω[k]?=some (.lst ds))(h:bB (eX Ω n) ds=some es):eX Ω (n + 1) (.ref k)=some (.lst es):=by simp only[eX,hk,h,Option.map_some]
theorem eT{n k:Nat}{xs:List Str}(hk:Ω[k]?=some (.lst (xs.map .str))):eX Ω (n + 1) (.ref k)=some (L1 xs):=j3 hk Ah
@[simp] theorem Ph{n:Nat}{ns:List Int}:eX Ω (n + 1) (SC ns)=some (SC ns):=Aj Ai
@[simp] theorem MF{o:Bool}{i:Int}:fP Ω (.ok (o,.int i))=.ok (.int i) Ω:=rfl
@[simp] theorem DR{o:Bool}{t:Bool}:fP Ω (.ok (o,.bl t))=.ok (.bl t) Ω:=rfl
@[simp] theorem Ak{o:Bool}{z:Str}:fP Ω (.ok (o,.str z))=.ok (.str z) Ω:=rfl
@[simp] theorem MH{o:Bool}:fP Ω (.ok (o,.non))=.ok .non Ω:=rfl
@[simp] theorem MI:fP Ω .bad=.bad:=rfl
def vN(Ω:aG)(f:List D->Out Rs):Option (List D)->ay D
 | some ds=>fP Ω (f ds)
 | none=>.bad
@[simp] theorem tK{f:List D->Out Rs}{ds:List D}:vN Ω f (some ds)=fP Ω (f ds):=rfl
@[simp] theorem tL{f:List D->Out Rs}{xs:List D}:bY f xs Ω=vN Ω f (bB (eX Ω 8) xs):=by unfold bY;cases bB (eX Ω 8) xs<;>rfl
def v1(Ω:aG)(f:D->Out Rs):Option D->ay D
 | some d=>fP Ω (f d)
 | none=>.bad
@[simp] theorem MJ{f:D->Out Rs}:v1 Ω f (some d)=fP Ω (f d):=rfl
@[simp] theorem MK{f:D->Out Rs}:uB f x Ω=v1 Ω f (eX Ω 8 x):=by unfold uB;cases eX Ω 8 x<;>rfl
def v2(Ω:aG)(f:D->D->Out Rs):Option D->Option D->ay D
 | some d,some e=>fP Ω (f d e)
 | _,_=>.bad
@[simp] theorem i0{f:D->D->Out Rs}{e:D}:v2 Ω f (some d) (some e)=fP Ω (f d e):=rfl
@[simp] theorem nW{f:D->D->Out Rs}:fQ f x y Ω=v2 Ω f (eX Ω 8 x) (eX Ω 8 y):=by unfold fQ;cases eX Ω 8 x<;>cases eX Ω 8 y<;>rfl
@[simp] theorem HP{z:Str}:wM .len [.str z]=if small z.length=true then .ok (false,.int z.length) else .bad:=rfl
@[simp] theorem xA{xs:List D}:wM .all [.lst xs]=xq (fun bs=>bs.all id) (fx xs):=rfl
@[simp] theorem HQ{xs:List D}:wM .any [.lst xs]=xq (fun bs=>bs.any id) (fx xs):=rfl
@[simp] theorem fK{F:ba}{xs:List D}:aK F xs Ω=lE (F xs Ω):=rfl
@[simp] theorem lr:lE (.ok d Ω)=.ok d Ω:=rfl
@[simp] theorem g_{op:CmpOp}:cR op x y Ω=v2 Ω (fun x y=>do let r ← dI op x y;Out.ok (false,D.bl r)) (eX Ω 8 x) (eX Ω 8 y):=by unfold cR;rw[nW]
@[simp] theorem j4:az .Eq x y Ω=cR .Eq x y Ω:=rfl
@[simp] theorem tN:az .NotEq x y Ω=cR .NotEq x y Ω:=rfl
@[simp] theorem ML:az .Lt x y Ω=cR .Lt x y Ω:=rfl
@[simp] theorem MM:az .LtE x y Ω=cR .LtE x y Ω:=rfl
@[simp] theorem MN:az .Gt x y Ω=cR .Gt x y Ω:=rfl
@[simp] theorem MO:az .GtE x y Ω=cR .GtE x y Ω:=rfl
@[simp] theorem nX:az .In x y Ω=gS (cR .In x y Ω) (gh false x y Ω):=rfl
@[simp] theorem lu:az .NotIn x y Ω=gS (cR .NotIn x y Ω) (gh true x y Ω):=rfl
@[simp] theorem MP:az .Is x y Ω=gS (fk false x y Ω) (cR .Is x y Ω):=rfl
@[simp] theorem DS:az .IsNot x y Ω=gS (fk true x y Ω) (cR .IsNot x y Ω):=rfl
@[simp] theorem HR{n:Bool}{k:Nat}:fk n (.ref k) .non Ω=.ok (.bl n) Ω:=rfl
@[simp] theorem F8{n:Bool}{i:Int}:fk n (.int i) y Ω=.bad:=rfl
@[simp] theorem F9{n:Bool}:fk n .non y Ω=.bad:=rfl
@[simp] theorem HS{n:Bool}{t:Bool}:fk n (.bl t) y Ω=.bad:=rfl
@[simp] theorem F_{n:Bool}{z:Str}:fk n (.str z) y Ω=.bad:=rfl
@[simp] theorem xB:aP .Add x y Ω=gS (qS x y Ω) (gS (nA x y Ω) (fQ (fw .Add) x y Ω)):=rfl
@[simp] theorem HU{i:Int}:nA (.int i) y Ω=.bad:=rfl
@[simp] theorem HV{z:Str}:nA (.str z) y Ω=.bad:=rfl
@[simp] theorem HW{k:Nat}:nA (.ref k) y Ω=.bad:=rfl
@[simp] theorem HX{xs ys:List D}:nA (.tup xs) (.tup ys) Ω=if small (xs.length + ys.length) then .ok (.tup (xs++ys)) Ω else .bad:=rfl
@[simp] theorem HY:aP .Sub x y Ω=fQ (fw .Sub) x y Ω:=rfl
@[simp] theorem Ga:aP .Mult x y Ω=fQ (fw .Mult) x y Ω:=rfl
@[simp] theorem HZ:aP .Mod x y Ω=fQ (fw .Mod) x y Ω:=rfl
@[simp] theorem MQ:aP .FloorDiv x y Ω=fQ (fw .FloorDiv) x y Ω:=rfl
@[simp] theorem MR{i:Int}:dE Ω (.int i)=none:=rfl
@[simp] theorem MS{z:Str}:dE Ω (.str z)=none:=rfl
@[simp] theorem MT{ds:List D}:dE Ω (.tup ds)=none:=rfl
@[simp] theorem MU{ds:List D}:dE Ω (.lst ds)=some ds:=rfl
theorem aA{k:Nat}{ds:List D}(h:Ω[k]?=some (.lst ds)):dE Ω (.ref k)=some ds:=by simp only[dE,h]
theorem i4{k:Nat}{ds:List D}(h:Ω[k]?=some (.lst ds)):nM Ω (.ref k)=some (k,ds):=by simp only[nM,h]
theorem nY{k:Nat}{C:Str}{fs:List (Str×D)}(h:Ω[k]?=some (.ins C fs)):pG Ω (.ref k)=some (k,C,fs):=by simp only[pG,h]
def ct(Ω:aG):Option (List D)->Option (List D)->ay D
 | some xs,some ys=>if small (xs.length + ys.length) then .ok (.ref Ω.length) (Ω++[.lst (xs++ys)]) else .bad
 | _,_=>.bad
@[simp] theorem Al{xs ys:List D}:ct Ω (some xs) (some ys)=if small (xs.length + ys.length) then .ok (.ref Ω.length) (Ω++[.lst (xs++ys)]) else .bad:=rfl
@[simp] theorem TV{o:Option (List D)}:ct Ω none o=.bad:=rfl
@[simp] theorem Am:qS x y Ω=ct Ω (dE Ω x) (dE Ω y):=by unfold qS;cases dE Ω x<;>cases dE Ω y<;>rfl
@[simp] theorem MV{ds:List D}:eP Ω (.tup ds)=some ds:=rfl
@[simp] theorem aD{k:Nat}:eP Ω (.ref k)=dE Ω (.ref k):=rfl
@[simp] theorem MW{ds:List D}:eP Ω (.lst ds)=some ds:=rfl
def ixs(Ω:aG):Option (List D)->D->ay D
 | some ds,.int i=>match L2.jH ds i with
  | some d=>.ok d Ω
  | none=>.bad
 | _,_=>.bad
theorem j5:zk x y Ω=ixs Ω (eP Ω x) y:=by unfold zk;cases eP Ω x<;>cases y<;>rfl
theorem xC{ds:List D}{i:Int}(h:L2.jH ds i=some d):ixs Ω (some ds) (.int i)=.ok d Ω:=by simp only[ixs,h]
theorem cN{k:Nat}{ds:List D}{i:Int}(h:Ω[k]?=some (.lst ds))(hi:L2.jH ds i=some d):aC (.ref k) (.int i) Ω=.ok d Ω:=by
 unfold aC;rw[fW,j5,aD,aA h,xC hi];rfl
@[simp] theorem cH{xs:List D}:aR xs Ω=if small xs.length then .ok (.ref Ω.length) (Ω++[.lst xs]) else .bad:=rfl
@[simp] theorem j7{xs:List D}:iQ xs Ω=if small xs.length then .ok (.tup xs) Ω else .bad:=rfl
def fl(Ω:aG)(Cs:List Str)(f:Str):Option (Nat×Str×List (Str×D))->ay D
 | some (_,C,fs)=>if Cs.contains C then (match fs.lookup f with
  | some d=>.ok d Ω
  | none=>.bad) else .bad
 | none=>.bad
theorem tP{Cs:List Str}{f C:Str}{k:Nat}{fs:List (Str×D)}(h:Ω[k]?=some (.ins C fs))(hc:Cs.contains C=true)(hf:fs.lookup f=some d):dO Cs f (.ref k) Ω=.ok d Ω:=by
 unfold dO;rw[nY h];simp only[hc,if_true,hf]
noncomputable def sq(r:gM)(b:SM):gM:=match r with
 | .nx cz ak=>b cz ak
 | r=>r
@[simp] theorem aB:sq (.nx ρ Ω) b=b ρ Ω:=rfl
@[simp] theorem TY:sq (.rt d Ω) b=.rt d Ω:=rfl
@[simp] theorem TZ:sq (.bk ρ Ω) b=.bk ρ Ω:=rfl
@[simp] theorem T6:sq (.ct ρ Ω) b=.ct ρ Ω:=rfl
@[simp] theorem Pj:sq (.exc d Ω) b=.exc d Ω:=rfl
@[simp] theorem Pk:sq .bad b=.bad:=rfl
@[simp] theorem ai:ah a b ρ Ω=sq (a ρ Ω) b:=by unfold ah;cases a ρ Ω<;>rfl
@[simp] theorem H_:aj ρ Ω=.nx ρ Ω:=rfl
@[simp] theorem bj{i:Nat}:ax i ma ρ Ω=bU (ma ρ Ω) fun d ab=>.nx (ρ.set i (some d)) ab:=rfl
@[simp] theorem cI:cm ma ρ Ω=bU (ma ρ Ω) fun _ ab=>.nx ρ ab:=rfl
@[simp] theorem de:bg ma ρ Ω=bU (ma ρ Ω) fun d ab=>.rt d ab:=rfl
@[simp] theorem cZ:dG ma a b ρ Ω=bU (cQ (ma ρ Ω)) fun t ab=>if t=true then a ρ ab else b ρ ab:=rfl
@[simp] theorem MX{is:List Nat}:rh is ma ρ Ω=bU (ma ρ Ω) fun d ab=>match fF is d ρ with | some cz=>.nx cz ab | none=>.bad:=rfl
@[simp] theorem Gb{is:List Nat}{ds:List D}:fF is (.tup ds) ρ=if ds.length=is.length then some (fU is ds ρ) else none:=rfl
@[simp] theorem An{i:Nat}{is:List Nat}{ds:List D}:fU (i::is) (d::ds) ρ=fU is ds (ρ.set i (some d)):=rfl
@[simp] theorem BW{ds:List D}:fU [] ds ρ=ρ:=by cases ds<;>rfl
@[simp] theorem MY:kY (.rt d Ω)=.ok d Ω:=rfl
@[simp] theorem MZ:kY (.nx ρ Ω)=.ok .non Ω:=rfl
theorem bD{n k:Nat}{c:SM}{ds:List D}(h:ds.length=k):bN n k c ds Ω=kY (c (a_ n ds) Ω):=by unfold bN;rw[if_pos h]
@[simp] theorem br:aM ma ρ Ω=(ma ρ Ω).bind fun x ab=>srcOf ab x:=rfl
theorem aY{ds:List D}(h:eP Ω x=some ds):srcOf Ω x=.ok (.seq x) Ω:=by unfold srcOf;rw[h]
@[simp] theorem pR:cK as ρ Ω=(as ρ Ω).bind sZ:=rfl
@[simp] theorem tQ{j:Int}:sZ [.int j] Ω=if lK j then .ok (.ints 0 j.toNat) Ω else .bad:=rfl
@[simp] theorem cf:eR (.seq x) Ω=eP Ω x:=rfl
@[simp] theorem Ia{lo:Int}{n:Nat}:eR (.ints lo n) Ω=some (intsFrom lo n):=rfl
@[simp] theorem df{put:D->aU->Option aU}{mi:IM}:cF put mi b ρ Ω=bU (mi ρ Ω) fun s ab=>fG put s b fuel 0 ρ ab:=rfl
def BX(r:gM)(I:aU->aG->Prop)(R:gM->Prop):Prop:=match r with
 | .nx ρ Ω=>I ρ Ω
 | .ct ρ Ω=>I ρ Ω
 | .bk ρ Ω=>R (.nx ρ Ω)
 | r=>R r
theorem cp{put:D->aU->Option aU}{src:Src}{b:SM}{ds:List D}(I:Nat->aU->aG->Prop){R:gM->Prop}(Pl:∀ i ρ Ω,I i ρ Ω->eR src Ω=some ds)
  (h:∀ (i:Nat) (d:D) ρ Ω,ds[i]?=some d->I i ρ Ω->∃ yk,put d ρ=some yk/\BX (b yk Ω) (I (i + 1)) R) (hR:∀ ρ Ω,I ds.length ρ Ω->R (.nx ρ Ω)) :
  ∀ (f i:Nat) ρ Ω,ds.length - i < f->i<=ds.length->I i ρ Ω->R (fG put src b f i ρ Ω):=by
 intro f
 induction f with
 | zero=>intro i ρ Ω hf;omega
 | succ f ih=>
  intro i ρ Ω hf hi h0;simp only[fG,Pl i ρ Ω h0]
  by_cases hlt:i < ds.length
  ·have hd:ds[i]?=some ds[i]:=List.getElem?_eq_getElem hlt
   rw[hd];dsimp only;obtain⟨yk,e1,e2⟩:=h i ds[i] ρ Ω hd h0;rw[e1];dsimp only;cases q:b yk Ω with
   | nx cz ak=>rw[q]at e2;exact ih (i + 1) cz ak (by omega) hlt e2
   | ct cz ak=>rw[q]at e2;exact ih (i + 1) cz ak (by omega) hlt e2
   | bk cz ak=>rw[q]at e2;exact e2
   | rt d ak=>rw[q]at e2;exact e2
   | exc x ak=>rw[q]at e2;exact e2
   | bad=>rw[q]at e2;exact e2
  ·have hd:ds[i]?=none:=List.getElem?_eq_none (by omega)
   rw[hd];have:i=ds.length:=by omega
   subst this;exact hR ρ Ω h0
theorem Ao{nc:Bool}{mc me:EM}{τ:aU}{src:Src}{ds:List D}{p:D->Bool}{g:D->D}(hs:eR src Ω=some ds)(hc:∀ d∈ds,h_ nc mc ([some d]++τ) Ω=.ok (p d) Ω)(he:∀ d∈ds,p d=true->me ([some d]++τ) Ω=.ok (g d) Ω) :
  ∀ (f i:Nat) (acc:List D),ds.length - i < f->i<=ds.length->acc.length + ds.length<=100000 + i->s_ nc mc me 0 τ src f i acc Ω=.ok (acc++((ds.drop i).filter p).map g) Ω:=by
 intro f
 induction f with
 | zero=>intro i acc hf;omega
 | succ f ih=>
  intro i acc hf hi ha;simp only[s_,hs]
  by_cases hlt:i < ds.length
  ·have hd:ds[i]?=some ds[i]:=List.getElem?_eq_getElem hlt
   have hm:ds[i]∈ds:=List.getElem_mem hlt;rw[hd];have ht:nO 0 ds[i]=some [some ds[i]]:=rfl;simp only[ht];rw[if_pos (aH (n:=acc.length + 1) (by omega)),hc _ hm,List.drop_eq_getElem_cons hlt,List.filter_cons]
   cases hp:p ds[i] with
   | true=>
    dsimp only;rw[he _ hm hp];dsimp only;rw[ih (i + 1) _ (by omega) hlt (by rw[List.length_append];simp;omega)]
    simp
   | false=>
    dsimp only;rw[ih (i + 1) _ (by omega) hlt (by omega)]
    simp
  ·have hd:ds[i]?=none:=List.getElem?_eq_none (by omega)
   rw[hd,List.drop_of_length_le (by omega)]
   simp
theorem dk{me mc:EM}{nc:Bool}{mi:IM}{cap:List Nat}{src:Src}{ds:List D}{p:D->Bool}{g:D->D}(hi:mi ρ Ω=.ok src ak)(hs:eR src ak=some ds)(hc:∀ d∈ds,h_ nc mc ([some d]++dS cap ρ) ak=.ok (p d) ak)(he:∀ d∈ds,p d=true->me ([some d]++dS cap ρ) ak=.ok (g d) ak)(hl:ds.length<=90000) :
  bf me nc mc mi 0 cap ρ Ω=.ok (.ref ak.length) (ak++[.lst ((ds.filter p).map g)]):=by
 unfold bf;rw[hi];dsimp only;rw[Ao hs hc he fuel 0 [] (by unfold fuel;omega) (Nat.zero_le _) (by simp;omega)]
 rfl
theorem dZ{k:Nat}{c:Cell}{l:aG}(h:Ω[k]?=some c):(Ω++l)[k]?=some c:=by rw[List.getElem?_append_left (List.getElem?_eq_some_iff.mp h).1];exact h
theorem av{c:Cell}{l:aG}:(Ω++c::l)[Ω.length]?=some c:=by rw[List.getElem?_append_right (Nat.le_refl _)];simp
theorem cJ{j k:Nat}{c e:Cell}(h:Ω[k]?=some c)(hn:k≠j):(Ω.set j e)[k]?=some c:=by rw[List.getElem?_set_ne (Ne.symm hn)];exact h
theorem bh{k:Nat}{c e:Cell}(h:Ω[k]?=some c):(Ω.set k e)[k]?=some e:=List.getElem?_set_self (List.getElem?_eq_some_iff.mp h).1
theorem bF{k:Nat}{c:Cell}(h:Ω[k]?=some c):k < Ω.length:=(List.getElem?_eq_some_iff.mp h).1
structure ag(fp:List Nat)(Ω ak:aG):Prop where
 len:Ω.length<=ak.length
 get:∀ k c,Ω[k]?=some c->k∉fp->ak[k]?=some c
theorem ag.refl{fp:List Nat}:ag fp Ω Ω:=⟨Nat.le_refl _,fun _ _ h _=>h⟩
theorem ag.trans{fp:List Nat}{ab ao aO:aG}(h:ag fp ab ao)(h':ag fp ao aO):ag fp ab aO:=⟨Nat.le_trans h.len h'.len,fun k c q n=>h'.get k c (h.get k c q n) n⟩
theorem ag.app{fp:List Nat}{l:aG}:ag fp Ω (Ω++l):=⟨by simp,fun k c h _=>dZ h⟩
theorem ag.set{fp:List Nat}{j:Nat}{c:Cell}(h:j∈fp):ag fp Ω (Ω.set j c):=⟨by simp,fun k e q n=>cJ q fun z=>n (z▸h)⟩
theorem ag.sub{fp fq:List Nat}(h:ag fp Ω ak)(hs:∀ k∈fp,k∈fq):ag fq Ω ak:=⟨h.len,fun k c q n=>h.get k c q fun z=>n (hs k z)⟩
end
section
variable{Ω ak:aG}{ρ:aU}{d x y:D}{k:Nat}{ws:List Str}{w:Str}{L:List (List Str)}{rs:List Nat}
theorem i5{ds:List D}(h:Ω[k]?=some (.lst ds)):aQ .len [.ref k] Ω=.ok (.int ds.length) Ω:=by
 show gS (nK [.ref k] Ω) _=_
 simp only[nK,aD,aA h];rfl
theorem dX{ds:List D}{d:D}(h:Ω[k]?=some (.lst ds))(hs:ds.length<=1000):bq (.ref k) [d] Ω=.ok .non (Ω.set k (.lst (ds++[d]))):=by
 simp only[bq,i4 h];rw[if_pos (aH (by omega))]
theorem eF{ds:List D}(h:Ω[k]?=some (.lst ds)):ik Ω (.ref k)=true:=by simp only[ik,aA h];rfl
theorem rG(h:Ω[k]?=some (.lst (ws.map .str))):az .In (.str w) (.ref k) Ω=.ok (.bl (decide (w∈ws))) Ω:=by
 simp[eT (n:=7) h]
theorem n0(h:Ω[k]?=some (.lst (ws.map .str))):az .NotIn (.str w) (.ref k) Ω=.ok (.bl (!decide (w∈ws))) Ω:=by
 simp[eT (n:=7) h]
theorem eU{n:Nat}(hk:Ω[k]?=some (.lst (rs.map .ref)))(h:aJ (fun j row=>Ω[j]?=some (.lst (row.map .str))) rs L):eX Ω (n + 2) (.ref k)=some (LL L):=by
 refine j3 (es:=L.map L1) hk ?_;clear hk
 induction h with
 | nil=>rfl
 | cons h1 h2 ih=>rw[List.map_cons,tJ,eT h1,ih];rfl
theorem Ap{C m:Str}{F:ba}{mo:EM}{as:AM}{fs:List (Str×D)}(ho:mo ρ Ω=.ok (.ref k) ak)(hc:ak[k]?=some (.ins C fs))(hf:fs.lookup m=none):aV C m F mo as ρ Ω=(as ρ ak).bind fun xs ao=>lE (F (.ref k::xs) ao):=by
 unfold aV;rw[ho]
 show(match pG ak (.ref k) with | some (_,C',fs)=>_ | none=>_)=_
 rw[nY hc];simp only[hf,and_self,if_true];rfl
theorem ft{yj:aG->D->Bool}{f:D->List D->aG->ay D}{mo:EM}{as:AM}(ho:mo ρ Ω=.ok x ak)(h:yj ak x=true):cV yj f mo as ρ Ω=(as ρ ak).bind fun xs ao=>f x xs ao:=by
 unfold cV;rw[ho]
 show(if yj ak x=true then _ else _)=_
 rw[if_pos h]
end
variable [aN]
section
variable{Ω ak ab ao:aG}{ρ:aU}{k q:Nat}{x y:D}
theorem ag.new{fp:List Nat}(h:ag [] Ω ab)(h':ag fp ab ao)(hf:∀ j∈fp,Ω.length<=j):ag [] Ω ao:=⟨Nat.le_trans h.len h'.len,fun k c e _=>h'.get k c (h.get k c e (by simp)) fun z=>by have:=hf k z;have:=bF e;omega⟩
theorem eV.up{fp:List Nat}(h:ag [] Ω ak):ag fp Ω ak:=h.sub (by simp)
@[simp] theorem Ib{z:Str}:aC (.str z) y Ω=v2 Ω qF (some (.str z)) (eX Ω 8 y):=by
 unfold aC;rw[fW,fW,j5,nW];simp[eP,dE,ixs,zl,qT]
@[simp] theorem Ic{z:Str}{l h:Option Int}:jL (.str z) l h Ω=fP Ω (vV (.str z) l h):=rfl
@[simp] theorem i6{ma ml mh:EM}{nl nh:Bool}:cj ma nl ml nh mh ρ Ω=(ma ρ Ω).bind fun x ab=>(gF nl ml ρ ab).bind fun l ao=>(gF nh mh ρ ao).bind fun h aO=>jL x l h aO:=rfl
@[simp] theorem Aq{m:EM}:gF true m ρ Ω=.ok none Ω:=rfl
noncomputable def T7(Ω:aG):D->ay (Option Int)
 | .int i=>.ok (some i) Ω
 | _=>.bad
@[simp] theorem Ar{m:EM}:gF false m ρ Ω=(m ρ Ω).bind fun d ab=>T7 ab d:=by
 simp only[gF,Bool.false_eq_true,if_false]
 congr 1
@[simp] theorem As{i:Int}:T7 Ω (.int i)=.ok (some i) Ω:=rfl
theorem pS{ds:List D}(h:Ω[k]?=some (.lst ds)):ei (.ref k) [] Ω=.ok .non (Ω.set k (.lst ds.reverse)):=by
 simp only[ei,i4 h]
end
def nC:EM:=bf (m2 aC (U 2) (m2 (aP .Mod) (m2 (aP .Add) (U 1) (m2 (aP .Mult) (U 0) (U 3))) (ae (.int 26)))) true (ae .non) (cK (aa (ae (.int 8)) af)) 0 [4,3,5]
def nD:EM:=bf (cj (U 1) true (ae .non) false (m2 (aP .Add) (U 0) (ae (.int 1)))) true (ae .non) (cK (aa (U 2) af)) 0 [6]
section
variable{Ω:aG}{F:List D->Out Rs}{δ:List Int->Int->Int->Int}{ns:List Int}
def T8(x:Str):Prop:=x.length<=17/\∃ c∈x.cps.toList,97<=c
theorem T8.ne{x:Str}(h:T8 x):x≠"-":=fun e=>by
 obtain⟨_,c,hc,h9⟩:=h;subst e;have:c∈[45]:=hc;simp at this;omega
end
section
variable{κ β:Type}[DecidableEq κ]
theorem dA{p:κ×β}{kvs:List (κ×β)}{k:κ}:cq (p::kvs) k=if p.1=k then some p.2 else cq kvs k:=by
 unfold cq;rw[List.find?_cons]
 by_cases h:p.1=k<;>simp[h]
theorem pT{k k':κ}{v:β}:∀ {kvs:List (κ×β)},cq (kvs.map fun kv=>if kv.1=k then (kv.1,v) else kv) k'=if k'=k then (cq kvs k).map fun _=>v else cq kvs k'
 | []=>by simp[cq]
 | p::kvs=>by
  rw[List.map_cons,dA,dA,dA,pT]
  by_cases h:p.1=k
  ·rw[if_pos h]
   by_cases h':k'=k
   ·subst h';simp[h]
   ·have:¬ k=k':=fun e=>h' e.symm
    simp[h,h',this]
  ·rw[if_neg h]
   by_cases h':k'=k
   ·subst h';simp[h]
   ·simp[h']
theorem pU{k k':κ}{v:β}:∀ {kvs:List (κ×β)},cq (kvs++[(k,v)]) k'=match cq kvs k' with | some d=>some d | none=>if k'=k then some v else none
 | []=>by
  rw[List.nil_append,dA]
  by_cases h:k=k'
  ·subst h;simp[cq]
  ·have:¬ k'=k:=fun e=>h e.symm
   simp[cq,h,this]
 | p::kvs=>by
  rw[List.cons_append,dA,dA,pU]
  by_cases h:p.1=k'<;>simp[h]
theorem ly{k:κ}:∀ {kvs:List (κ×β)},(kvs.any fun kv=>decide (kv.1=k))=(cq kvs k).isSome
 | []=>rfl
 | p::kvs=>by
  rw[List.any_cons,dA,ly]
  by_cases h:p.1=k<;>simp[h]
theorem u3{kvs:List (κ×β)}{k k':κ}{v:β}:cq (dR kvs k v) k'=if k'=k then some v else cq kvs k':=by
 unfold dR;rw[ly];cases h:cq kvs k with
 | none=>
  rw[Option.isSome_none,if_neg (by simp),pU]
  by_cases h':k'=k
  ·subst h';simp[h]
  ·cases q:cq kvs k'<;>simp[h']
 | some d=>
  rw[Option.isSome_some,if_pos rfl,pT,h]
  by_cases h':k'=k<;>simp[h']
theorem xD{kvs:List (κ×β)}{k:κ}{v:β}:(dR kvs k v).length<=kvs.length + 1:=by
 unfold dR;split<;>simp
end
section
variable{Ω ak:aG}{F:List D->Out Rs}{δ:List Int->Int->Int->Int}{ns:List Int}{t:Nat}{kvs:List (List Key×D)}
theorem eW{xs:List Str}{i:Nat}{d:D}(h:(xs.map D.str)[i]?=some d):∃ x,xs[i]?=some x/\d=.str x:=by
 rw[List.getElem?_map]at h;obtain⟨x,h1,h2⟩:=Option.map_eq_some_iff.mp h;exact⟨x,h1,h2.symm⟩
end
theorem mM{O:ba}{ds:List D}{d:D}{ak:aG}(h1:ds.all DN=true)(h:O ds []=.ok d ak)(hf:fb d=true):pureOf O ds=.ok (false,d):=by
 unfold pureOf;rw[if_pos h1,h];dsimp only;rw[if_pos hf]
def Ie:SM:=(ah (ax 3 (m2 (aP .FloorDiv) (U 3) (ae (.int 840)))) aj)
def Ig:SM:=(dG (eQ (m2 (az .Eq) (m2 (aP .Mod) (U 0) (ae (.int 2))) (ae (.int 1))) (m2 (az .Gt) (U 0) (m2 (aP .Pow) (ae (.int 10)) (ae (.int 18)))))
 (ah (cF (bV 4) (cK (aa (U 1) af)) Ie)
 (ah (bg (m2 (aP .Mod) (m2 (aP .Mod) (U 3) (ae (.int 840))) (U 2)))
 aj))
 aj)
def T9:SM:=(ah (ax 5 (mN aR (aa (ae (.int 48271)) (aa (ae (.int 69621)) (aa (ae (.int 40692)) (aa (ae (.int 39373)) (aa (ae (.int 16807)) (aa (ae (.int 30323)) (aa (ae (.int 21403)) (aa (ae (.int 62089)) (aa (ae (.int 45742)) (aa (ae (.int 37907)) (aa (ae (.int 53611)) (aa (ae (.int 28411)) (aa (ae (.int 59393)) (aa (ae (.int 33391)) af))))))))))))))))
 (ah (ax 6 (m2 (aP .Mod) (m2 (aP .Mult) (m2 (aP .Add) (m2 (aP .Mod) (U 0) (ae (.int 1000000007))) (ae (.int 11))) (m2 aC (U 5) (m2 (aP .Mod) (U 1) (ae (.int 14))))) (ae (.int 2147483629))))
 (ah (ax 7 (m2 (aP .Mod) (m2 (aP .Mult) (U 6) (m2 (aP .Add) (U 6) (U 1))) (ae (.int 1999999973))))
 (ah (bg (m2 (aP .Mod) (m2 (aP .FloorDiv) (m2 (aP .Mod) (m2 (aP .Mult) (U 7) (ae (.int 16807))) (ae (.int 998244353))) (ae (.int 1000))) (U 2)))
 aj))))
def mO:SM:=
 (ah (ax 3 (m2 (aP .FloorDiv) (U 0) (ae (.int 2))))
 (ah Ig T9))
@[simp] theorem Ih{x y:D}{Ω:aG}:aP .Pow x y Ω=fQ (fw .Pow) x y Ω:=rfl
theorem Au{c t m:Int}(ht:0<=t)(ht':t < 100000)(hm:0 < m):∃ r,0<=r/\r < m/\pureOf (bN 8 3 mO) [.int c,.int t,.int m]=.ok (false,.int r):=by
 have key:∃ r ak,0<=r/\r < m/\bN 8 3 mO [.int c,.int t,.int m] []=.ok (.int r) ak:=by
  rw[bD (by rfl)]
  have e0:a_ 8 [D.int c,.int t,.int m]=[some (.int c),some (.int t),some (.int m),none,none,none,none,none]:=rfl;rw[e0];unfold mO;have r1:(ax 3 (m2 (aP .FloorDiv) (U 0) (ae (.int 2)))) [some (.int c),some (.int t),some (.int m),none,none,none,none,none] []=.nx [some (.int c),some (.int t),some (.int m),some (.int (c / 2)),none,none,none,none] []:=by simp
  rw[ai,r1,aB,ai]
  by_cases hc:c % 2=1/\1000000000000000000 < c
  ·have hin:lK t=true:=fg (by omega) (by omega)
   have hL:∃ x s4,fG (bV 4) (.ints 0 t.toNat) Ie fuel 0 [some (.int c),some (.int t),some (.int m),some (.int (c / 2)),none,none,none,none] []=.nx [some (.int c),some (.int t),some (.int m),some (.int x),s4,none,none,none] []:=by
    refine cp (R:=fun r=>∃ x s4,r=.nx [some (.int c),some (.int t),some (.int m),some (.int x),s4,none,none,none] []) (ds:=intsFrom 0 t.toNat) (fun _ ρ Ω=>∃ x s4,ρ=[some (.int c),some (.int t),some (.int m),some (.int x),s4,none,none,none]/\Ω=[]) (fun _ _ _ _=>rfl) ?_ ?_ fuel 0 _ _ (by rw[dP];unfold fuel;omega) (Nat.zero_le _) ⟨_,_,rfl,rfl⟩
    ·rintro i d ρ Ω hd ⟨x,s4,rfl,rfl⟩
     refine⟨_,rfl,?_⟩;have e:Ie [some (.int c),some (.int t),some (.int m),some (.int x),some d,none,none,none] []=.nx [some (.int c),some (.int t),some (.int m),some (.int (x / 840)),some d,none,none,none] []:=by simp[Ie]
     show BX (Ie [some (.int c),some (.int t),some (.int m),some (.int x),some d,none,none,none] []) _ _
     rw[e];exact⟨_,_,rfl,rfl⟩
    ·rintro ρ Ω ⟨x,s4,rfl,rfl⟩
     exact⟨x,s4,rfl⟩
   obtain⟨x,s4,hL⟩:=hL;refine⟨x % 840 % m,[],Int.emod_nonneg _ (by omega),Int.emod_lt_of_pos _ hm,?_⟩
   simp[Ig,hc.1,hc.2,hin,hL,hm]
  ·obtain⟨d,hd,e⟩:=DO (xs:=[D.int 48271,.int 69621,.int 40692,.int 39373,.int 16807,.int 30323,.int 21403,.int 62089,.int 45742,.int 37907,.int 53611,.int 28411,.int 59393,.int 33391]) (i:=t % 14) (Int.emod_nonneg _ (by omega)) (Int.emod_lt_of_pos _ (by omega))
   obtain⟨v,rfl⟩:∃ v,d=.int v:=by
    simp only[List.mem_cons,List.not_mem_nil,or_false]at hd;rcases hd with h | h | h | h | h | h | h | h | h | h | h | h | h | h<;>exact⟨_,h⟩
   have hg:([]++[Cell.lst [D.int 48271,.int 69621,.int 40692,.int 39373,.int 16807,.int 30323,.int 21403,.int 62089,.int 45742,.int 37907,.int 53611,.int 28411,.int 59393,.int 33391]]:aG)[0]?=some (.lst [D.int 48271,.int 69621,.int 40692,.int 39373,.int 16807,.int 30323,.int 21403,.int 62089,.int 45742,.int 37907,.int 53611,.int 28411,.int 59393,.int 33391]):=rfl;have hx:=cN hg e;have i1:kr (c % 1000000007 + 11)=true:=iY (by omega) (by omega)
   have i2:kr ((c % 1000000007 + 11) * v % 2147483629)=true:=iY (by omega) (by omega)
   have i3:kr ((c % 1000000007 + 11) * v % 2147483629 * ((c % 1000000007 + 11) * v % 2147483629 + t) % 1999999973)=true:=iY (by omega) (by omega)
   have rI:Ig [some (.int c),some (.int t),some (.int m),some (.int (c / 2)),none,none,none,none] []=.nx [some (.int c),some (.int t),some (.int m),some (.int (c / 2)),none,none,none,none] []:=by
    by_cases h1:c % 2=1
    ·have h2:¬ 1000000000000000000 < c:=fun z=>hc ⟨h1,z⟩
     simp[Ig,h1,h2]
    ·have hb:(c % 2 == 1)=false:=by simpa using h1
     simp[Ig,hb]
   refine⟨(c % 1000000007 + 11) * v % 2147483629 * ((c % 1000000007 + 11) * v % 2147483629 + t) % 1999999973 * 16807 % 998244353 / 1000 % m,([]++[Cell.lst [D.int 48271,.int 69621,.int 40692,.int 39373,.int 16807,.int 30323,.int 21403,.int 62089,.int 45742,.int 37907,.int 53611,.int 28411,.int 59393,.int 33391]]:aG),Int.emod_nonneg _ (by omega),Int.emod_lt_of_pos _ hm,?_⟩
   rw[rI,aB];have r5:(ax 5 (mN aR (aa (ae (.int 48271)) (aa (ae (.int 69621)) (aa (ae (.int 40692)) (aa (ae (.int 39373)) (aa (ae (.int 16807)) (aa (ae (.int 30323)) (aa (ae (.int 21403)) (aa (ae (.int 62089)) (aa (ae (.int 45742)) (aa (ae (.int 37907)) (aa (ae (.int 53611)) (aa (ae (.int 28411)) (aa (ae (.int 59393)) (aa (ae (.int 33391)) af)))))))))))))))) [some (.int c),some (.int t),some (.int m),some (.int (c / 2)),none,none,none,none] []=.nx [some (.int c),some (.int t),some (.int m),some (.int (c / 2)),none,some (.ref 0),none,none] ([]++[Cell.lst [D.int 48271,.int 69621,.int 40692,.int 39373,.int 16807,.int 30323,.int 21403,.int 62089,.int 45742,.int 37907,.int 53611,.int 28411,.int 59393,.int 33391]]):=rfl;unfold T9;rw[ai,r5,aB];generalize ([]++[Cell.lst [D.int 48271,.int 69621,.int 40692,.int 39373,.int 16807,.int 30323,.int 21403,.int 62089,.int 45742,.int 37907,.int 53611,.int 28411,.int 59393,.int 33391]]:aG)=ab at hx;simp[hx,i1,i2,i3,hm]
 obtain⟨r,ak,h0,h1,e⟩:=key;exact⟨r,h0,h1,mM rfl e rfl⟩
section
variable{Ω ak:aG}{ρ:aU}
theorem DT{mc me:EM}{τ:aU}{src:Src}{ds:List D}(I:Nat->List D->aG->Prop)(hs:∀ i acc Ω,I i acc Ω->eR src Ω=some ds)(he:∀ i d acc Ω,ds[i]?=some d->I i acc Ω->∃ y ak,me ([some d]++τ) Ω=.ok y ak/\I (i + 1) (acc++[y]) ak) :
  ∀ (f i:Nat) (acc:List D) Ω,I i acc Ω->ds.length - i < f->i<=ds.length->acc.length + ds.length<=100000 + i->∃ ys ak,s_ true mc me 0 τ src f i acc Ω=.ok ys ak/\I ds.length ys ak:=by
 intro f
 induction f with
 | zero=>intro i acc Ω h0 hf;omega
 | succ f ih=>
  intro i acc Ω h0 hf hi ha;simp only[s_,hs i acc Ω h0]
  by_cases hlt:i < ds.length
  ·have hd:ds[i]?=some ds[i]:=List.getElem?_eq_getElem hlt
   rw[hd];have ht:nO 0 ds[i]=some [some ds[i]]:=rfl;obtain⟨y,ab,e1,h1⟩:=he i ds[i] acc Ω hd h0;have hc:h_ true mc ([some ds[i]]++τ) Ω=.ok true Ω:=rfl;simp only[ht];rw[if_pos (aH (n:=acc.length + 1) (by omega)),hc]
   dsimp only;rw[e1];dsimp only;exact ih (i + 1) (acc++[y]) ab h1 (by omega) hlt (by rw[List.length_append];simp;omega)
  ·have hd:ds[i]?=none:=List.getElem?_eq_none (by omega)
   rw[hd];have:i=ds.length:=by omega
   subst this;exact⟨acc,Ω,rfl,h0⟩
theorem hG{me mc:EM}{mi:IM}{cap:List Nat}{src:Src}{ds:List D}(I:Nat->List D->aG->Prop)(hi:mi ρ Ω=.ok src ak)(h0:I 0 [] ak)(hs:∀ i acc Ω,I i acc Ω->eR src Ω=some ds)(he:∀ i d acc Ω,ds[i]?=some d->I i acc Ω->∃ y ak,me ([some d]++dS cap ρ) Ω=.ok y ak/\I (i + 1) (acc++[y]) ak)(hl:ds.length<=90000) :
  ∃ ys ao,bf me true mc mi 0 cap ρ Ω=.ok (.ref ao.length) (ao++[.lst ys])/\I ds.length ys ao:=by
 obtain⟨ys,ao,e2,h2⟩:=DT (mc:=mc) I hs he fuel 0 [] ak h0 (by unfold fuel;omega) (Nat.zero_le _) (by simp;omega)
 refine⟨ys,ao,?_,h2⟩;unfold bf;rw[hi];dsimp only;rw[e2];rfl
def M0(Ω:aG)(j:Nat)(row:List Str):Prop:=Ω[j]?=some (.lst (row.map .str))
def iw(Ω:aG)(js:List Nat)(rs:List (List Str)):Prop:=aJ (M0 Ω) js rs
structure Rw(Ω:aG)(k:Nat)(js:List Nat)(rs:List (List Str)):Prop where
 ce:Ω[k]?=some (.lst (js.map .ref))
 al:iw Ω js rs
section
variable{k:Nat}{js:List Nat}{rs:List (List Str)}{row:List Str}{n:Str}
theorem iw.keep:∀ {js:List Nat} {rs:List (List Str)},iw Ω js rs->∀ {fp:List Nat},ag fp Ω ak->(∀ j∈js,j∉fp)->iw ak js rs
 | _,_,.nil,_,_,_=>.nil
 | _,_,.cons r t,fp,K,h=>.cons (K.get _ _ r (h _ (by simp))) (iw.keep t K fun j hj=>h j (by simp[hj]))
theorem Rw.keep(R:Rw Ω k js rs)(K:ag [] Ω ak):Rw ak k js rs:=⟨K.get _ _ R.ce (by simp),R.al.keep K (by simp)⟩
theorem Rw.pV(R:Rw Ω k js rs){fp:List Nat}(K:ag fp Ω ak)(hk:k∉fp)(hj:∀ j∈js,j∉fp):Rw ak k js rs:=⟨K.get _ _ R.ce hk,R.al.keep K hj⟩
theorem iw.len(h:iw Ω js rs):rs.length=js.length:=aJ.length h
theorem Rw.len(R:Rw Ω k js rs):rs.length=js.length:=R.al.len
theorem iw.at{i:Nat}{row:List Str}(h:iw Ω js rs)(hr:rs[i]?=some row):∃ j,js[i]?=some j/\Ω[j]?=some (.lst (row.map .str)):=aJ.Dt (R:=M0 Ω) h hr
theorem iw.at'{i j:Nat}(h:iw Ω js rs)(hj:js[i]?=some j):∃ row,rs[i]?=some row/\Ω[j]?=some (.lst (row.map .str)):=aJ.get (R:=M0 Ω) h hj
theorem iw.lt(h:iw Ω js rs):∀ j∈js,j < Ω.length:=fun j hj=>by
 obtain⟨i,hi⟩:=List.mem_iff_getElem?.mp hj;obtain⟨row,_,h2⟩:=h.at' hi;exact bF h2
theorem gN{js:List Nat}{i:Nat}{d:D}(h:(js.map D.ref)[i]?=some d):∃ j,js[i]?=some j/\d=.ref j:=by
 rw[List.getElem?_map]at h;obtain⟨x,h1,h2⟩:=Option.map_eq_some_iff.mp h;exact⟨x,h1,h2.symm⟩
def M1:SM:=(ah (dG (m2 (az .In) (U 1) (cj (U 3) false (ae (.int 1)) true (ae .non))) (ah (bg (U 2)) aj) aj) aj)
def rH:SM:=(ah (cF (fF [2,3]) (lO (U 0)) M1) (ah (bg (ae .non)) aj))
theorem rJ{j:Nat}(h:Ω[j]?=some (.lst (row.map .str))):jL (.ref j) (some 1) none Ω=.ok (.ref Ω.length) (Ω++[.lst (row.tail.map .str)]):=by
 have e:cX (row.map D.str) (some 1) none=row.tail.map .str:=by
  have:=rD (row.map D.str) 1;rw[show((1:Nat):Int)=1 by rfl]at this
  rw[this,← List.map_drop,List.drop_one]
 simp only[jL,aA h,nT,e]
theorem DU{j i:Nat}(h:Ω[j]?=some (.lst (row.map .str))):∃ ak,ag [] Ω ak/\M1 [some (.ref k),some (.str n),some (.int i),some (.ref j)] Ω=if n∈row.tail then .rt (.int i) ak else .nx [some (.ref k),some (.str n),some (.int i),some (.ref j)] ak:=by
 have hs:=rJ h;have g1:(Ω++[Cell.lst (row.tail.map .str)])[Ω.length]?=some (.lst (row.tail.map .str)):=av;have K1:ag [] Ω (Ω++[Cell.lst (row.tail.map .str)]):=ag.app;generalize Ω++[Cell.lst (row.tail.map .str)]=ab at *;have hi:=rG (w:=n) g1;refine⟨ab,K1,?_⟩
 by_cases hm:n∈row.tail
 ·rw[if_pos hm,decide_eq_true hm]at *
  simp[M1,hs,hi,-nX]
 ·rw[if_neg hm,decide_eq_false hm]at *
  simp[M1,hs,hi,-nX]
theorem DV(R:Rw Ω k js rs)(hl:rs.length<=1000):∃ d ak,bN 4 2 rH [.ref k,.str n] Ω=.ok d ak/\ag [] Ω ak/\((d=.non/\∀ r∈rs,n∉r.tail)\/∃ i:Nat,d=.int i/\∃ r,rs[i]?=some r/\n∈r.tail):=by
 rw[bD (by rfl)]
 have e0:a_ 4 [D.ref k,.str n]=[some (.ref k),some (.str n),none,none]:=rfl;rw[e0];have hL:=R.len
 have eG:lO (U 0) [some (.ref k),some (.str n),none,none] Ω=.ok (.Mb (.ref k)) Ω:=by
  unfold lO;simp[aA R.ce]
 unfold rH;rw[ai,df,eG,cC]
 refine cp (R:=fun r=>∃ d ak,kY (sq r _)=.ok d ak/\ag [] Ω ak/\((d=.non/\∀ r∈rs,n∉r.tail)\/∃ i:Nat,d=.int i/\∃ r,rs[i]?=some r/\n∈r.tail)) (ds:=c8 0 (js.map .ref))
  (fun i ρ ao=>∃ a2 a3,ρ=[some (.ref k),some (.str n),a2,a3]/\(∀ r∈rs.take i,n∉r.tail)/\ag [] Ω ao) ?_ ?_ ?_ fuel 0 _ _ (by rw[gQ];unfold fuel;simp;omega) (Nat.zero_le _) ⟨none,none,rfl,by simp,ag.refl⟩
 ·rintro i ρ ao ⟨_,_,_,_,K⟩
  show(eP ao (.ref k)).map (c8 0)=_
  rw[aD,aA (R.keep K).ce];rfl
 ·rintro i d ρ ao hd ⟨a2,a3,rfl,hz,K⟩
  obtain⟨d',hd',rfl⟩:=iL _ 0 i d hd;obtain⟨j,hj,rfl⟩:=gN hd';obtain⟨row,hr,hrow⟩:=(R.keep K).al.at' hj;rw[Nat.zero_add];refine⟨[some (.ref k),some (.str n),some (.int i),some (.ref j)],rfl,?_⟩;obtain⟨aO,K3,e⟩:=DU (k:=k) (n:=n) (i:=i) hrow;rw[e]
  by_cases hm:n∈row.tail
  ·rw[if_pos hm]
   exact⟨.int i,aO,rfl,K.trans K3,.inr ⟨i,rfl,row,hr,hm⟩⟩
  ·rw[if_neg hm]
   refine⟨_,_,rfl,fun r hr' => ?_,K.trans K3⟩
   rw[List.take_succ,hr]at hr';simp at hr';rcases hr' with h | rfl
   ·exact hz r h
   ·exact hm
 ·rintro ρ ao ⟨a2,a3,rfl,hz,K⟩
  rw[gQ,List.length_map,← hL,List.take_length]at hz;exact⟨.non,ao,rfl,K,.inl ⟨rfl,hz⟩⟩
def Ii(PB:ba):SM:=(ah (dG (eQ (U 1) (m2 (az .Is) (mN (aK PB) (aa (U 0) (aa (m2 aC (U 1) (ae (.int 0))) af))) (ae .non))) (ah (bg (m2 aC (U 1) (ae (.int 0)))) aj) aj) aj)
def Av(PB:ba):SM:=(ah (cF (bV 1) (aM (U 0)) (Ii PB)) (ah (bg (ae .non)) aj))
theorem i7{j:Nat}{ds:List D}(h:Ω[j]?=some (.lst ds)):gg Ω (.ref j)=some (!ds.isEmpty):=by simp only[gg,h]
theorem DW{j:Nat}(R:Rw Ω k js rs)(hl:rs.length<=1000)(h:Ω[j]?=some (.lst (row.map .str))):∃ ak,ag [] Ω ak/\Ii (bN 4 2 rH) [some (.ref k),some (.ref j)] Ω=match freeOf rs row with | some m=>.rt (.str m) ak | none=>.nx [some (.ref k),some (.ref j)] ak:=by
 cases row with
 | nil=>
  have ht:=i7 h;refine⟨Ω,ag.refl,?_⟩;simp[Ii,freeOf,ht]
 | cons m t=>
  have ht:=i7 h;have ht:gg Ω (.ref j)=some true:=ht;have hix:aC (.ref j) (.int 0) Ω=.ok (.str m) Ω:=cN h (L2.dm (j:=0) rfl);obtain⟨d,ab,e1,K1,hc⟩:=DV (n:=m) R hl;have h1:=K1.get _ _ h (by simp)
  have Pm:aC (.ref j) (.int 0) ab=.ok (.str m) ab:=cN h1 (L2.dm (j:=0) rfl);refine⟨ab,K1,?_⟩;generalize bN 4 2 rH=PB at *;rcases hc with ⟨rfl,hz⟩ | ⟨i,rfl,r,hr,hz⟩
  ·rw[dw (by rintro⟨r,hr,hm⟩;exact hz r hr hm)]
   simp[Ii,ht,hix,e1,Pm]
  ·rw[dv ⟨r,List.mem_of_getElem? hr,hz⟩]
   simp[Ii,ht,hix,e1]
theorem DX(R:Rw Ω k js rs)(hl:rs.length<=1000):∃ ak,bN 2 1 (Av (bN 4 2 rH)) [.ref k] Ω=.ok (Ae (free rs)) ak/\ag [] Ω ak:=by
 rw[bD (by rfl)]
 have e0:a_ 2 [D.ref k]=[some (.ref k),none]:=rfl;rw[e0];have hL:=R.len;have eG:aM (U 0) [some (.ref k),none] Ω=.ok (.seq (.ref k)) Ω:=by simp[aY (x:=.ref k) (by rw[aD,aA R.ce])]
 unfold Av;rw[ai,df,eG,cC]
 refine cp (R:=fun r=>∃ ak,kY (sq r _)=.ok (Ae (free rs)) ak/\ag [] Ω ak) (ds:=js.map .ref)
  (fun i ρ ao=>∃ a1,ρ=[some (.ref k),a1]/\(rs.take i).findSome? (freeOf rs)=none/\ag [] Ω ao) ?_ ?_ ?_ fuel 0 _ _ (by unfold fuel;simp;omega) (Nat.zero_le _) ⟨none,rfl,rfl,ag.refl⟩
 ·rintro i ρ ao ⟨_,_,_,K⟩
  rw[cf,aD,aA (R.keep K).ce]
 ·rintro i d ρ ao hd ⟨a1,rfl,hz,K⟩
  obtain⟨j,hj,rfl⟩:=gN hd;have R2:=R.keep K;obtain⟨row,hr,hrow⟩:=R2.al.at' hj;refine⟨[some (.ref k),some (.ref j)],rfl,?_⟩;obtain⟨aO,K3,e⟩:=DW R2 hl hrow;rw[e];have ht:rs.take (i + 1)=rs.take i++[row]:=by rw[List.take_succ,hr];rfl
  cases hf:freeOf rs row with
  | some m=>
   refine⟨aO,?_,K.trans K3⟩
   have:free rs=some m:=by
    unfold free
    have hd:rs=rs.take i++(row::rs.drop (i + 1)):=by
     have hlt:i < rs.length:=(List.getElem?_eq_some_iff.mp hr).1;rw[List.getElem?_eq_getElem hlt]at hr;cases hr;rw[← List.drop_eq_getElem_cons hlt,List.take_append_drop]
    conv=>lhs;arg 2;rw[hd]
    rw[List.findSome?_append,hz,List.findSome?_cons,hf];rfl
   rw[this];rfl
  | none=>
   refine⟨_,rfl,?_,K.trans K3⟩;rw[ht,List.findSome?_append,hz,List.findSome?_cons,hf];rfl
 ·rintro ρ ao ⟨a1,rfl,hz,K⟩
  rw[List.length_map,← hL,List.take_length]at hz;refine⟨ao,?_,K⟩;unfold free;rw[hz];rfl
end
end
open PySem.Spec PyProof.Rows
section
variable{P:Program}{w:World}{K:PySem.W.Frag}{mg:Str->Option Value}{base:Heap}{T:bc}{k:Nat}
end
end Mir
namespace Mir
open PySem PySem.Spec PyProof.Rows L2
section
variable{X:Cx}{pins:List (Addr×Obj)}{σ:L2.St}{s:Shared}
end
variable [aN]
section
variable{κ:Str->Addr->Prop}{α aE:List Addr}{Z Z0:Addr->Prop}{Ω:aG}{H H0 H2:Hp}{ρ:aU}{σ:L2.St}
end
section
variable{P:Program}{w:World}{K:PySem.W.Frag}{mg:Str->Option Value}{base:Heap}{T T2:bc}{k:Nat}
end
section
variable{P:Program}{w:World}{K:PySem.W.Frag}{mg:Str->Option Value}{base:Heap}{T:bc}{k:Nat}
end
end Mir
namespace Mir
open PySem L2
variable [aN]
section
variable{Ω ak:aG}{ρ:aU}{σ:Str->Int}{t kl:Nat}{kvs:List (List Key×D)}{line:List Str}{w x:Str}
theorem Aw{ds:List D}{n:Nat}:cX ds none (some (n:Int))=ds.take n:=rE ds n
theorem n5{n:Nat}(h:Ω[kl]?=some (.lst (line.map .str))):jL (.ref kl) none (some (n:Int)) Ω=.ok (.ref Ω.length) (Ω++[.lst ((line.take n).map .str)]):=by
 simp only[jL,aA h,nT,Aw,List.map_take]
@[simp] theorem M5{ty:Ty}{ds:List D}:fm ty (.tup ds) Ω=.ok (.bl (ty == .tuple)) Ω:=rfl
@[simp] theorem M6{ty:Ty}{z:Str}:fm ty (.str z) Ω=.ok (.bl (ty == .str)) Ω:=rfl
@[simp] theorem M7{ty:Ty}:fm ty .non Ω=.ok (.bl false) Ω:=rfl
@[simp] theorem Ij{ds:List D}:aQ .len [.tup ds] Ω=.ok (.int ds.length) Ω:=rfl
end
section
variable{Ω ak:aG}{ρ:aU}
theorem DY{nc:Bool}{mc me:EM}{τ:aU}{src:Src}{ds:List D}{p:D->Bool}{g:D->D}(I:Nat->aG->Prop)(hs:∀ i Ω,I i Ω->eR src Ω=some ds)
  (hc:∀ i d Ω,ds[i]?=some d->I i Ω->∃ ak,h_ nc mc ([some d]++τ) Ω=.ok (p d) ak/\I (i + 1) ak/\(p d=true->me ([some d]++τ) ak=.ok (g d) ak)) :
  ∀ (f i:Nat) (acc:List D) (Ω:aG),ds.length - i < f->i<=ds.length->acc.length + ds.length<=100000 + i->I i Ω->∃ ak,s_ nc mc me 0 τ src f i acc Ω=.ok (acc++((ds.drop i).filter p).map g) ak/\I ds.length ak:=by
 intro f
 induction f with
 | zero=>intro i acc Ω hf;omega
 | succ f ih=>
  intro i acc Ω hf hi ha h0;simp only[s_,hs i Ω h0]
  by_cases hlt:i < ds.length
  ·have hd:ds[i]?=some ds[i]:=List.getElem?_eq_getElem hlt
   rw[hd];have ht:nO 0 ds[i]=some [some ds[i]]:=rfl;simp only[ht];obtain⟨ab,e1,h1,e2⟩:=hc i ds[i] Ω hd h0;rw[if_pos (aH (n:=acc.length + 1) (by omega)),e1,List.drop_eq_getElem_cons hlt,List.filter_cons]
   cases hp:p ds[i] with
   | true=>
    dsimp only;rw[e2 hp];dsimp only;obtain⟨ao,e3,h3⟩:=ih (i + 1) (acc++[g ds[i]]) ab (by omega) hlt (by rw[List.length_append];simp;omega) h1
    exact⟨ao,by rw[e3];simp,h3⟩
   | false=>
    dsimp only;obtain⟨ao,e3,h3⟩:=ih (i + 1) acc ab (by omega) hlt (by omega) h1
    exact⟨ao,by rw[e3];simp,h3⟩
  ·have hd:ds[i]?=none:=List.getElem?_eq_none (by omega)
   rw[hd,List.drop_of_length_le (by omega)]
   have:i=ds.length:=by omega
   subst this;exact⟨Ω,by simp,h0⟩
theorem Ax{me mc:EM}{nc:Bool}{mi:IM}{cap:List Nat}{src:Src}{ds:List D}{p:D->Bool}{g:D->D}(I:Nat->aG->Prop)(hi:mi ρ Ω=.ok src ak)(hs:∀ i Ω,I i Ω->eR src Ω=some ds)
  (hc:∀ i d Ω,ds[i]?=some d->I i Ω->∃ ak,h_ nc mc ([some d]++dS cap ρ) Ω=.ok (p d) ak/\I (i + 1) ak/\(p d=true->me ([some d]++dS cap ρ) ak=.ok (g d) ak)) (hl:ds.length<=90000) (h0:I 0 ak) :
  ∃ ao,bf me nc mc mi 0 cap ρ Ω=.ok (.ref ao.length) (ao++[.lst ((ds.filter p).map g)])/\I ds.length ao:=by
 unfold bf;rw[hi];dsimp only;obtain⟨ao,e,h⟩:=DY I hs hc fuel 0 [] ak (by unfold fuel;omega) (Nat.zero_le _) (by simp;omega) h0
 refine⟨ao,?_,h⟩;rw[e];rfl
end
section
variable{Ω ak:aG}{ρ:aU}{σ:Str->Int}{kl fn b:Nat}{line ys:List Str}{w:Str}{M:List (List D->ba)}{fp:List Nat}{I:List Str->aG->Prop}
theorem j9{k j:Nat}{us vs:List Str}(h:Ω[k]?=some (.lst (us.map .str)))(h':Ω[j]?=some (.lst (vs.map .str))):az .Eq (.ref k) (.ref j) Ω=.ok (.bl (decide (us=vs))) Ω:=by
 rw[j4,g_,eT (n:=7) h,eT (n:=7) h',i0]
 have e:dI .Eq (L1 us) (L1 vs)=.ok (decide (us=vs)):=by
  rw[xo,pQ 7,pQ 7]
  show(if (true && true)=true then Out.ok (eB (us.map .str) (vs.map .str)) else .bad)=_
  rw[nS];rfl
 rw[e];rfl
theorem n6{k j:Nat}{us vs:List Str}(h:Ω[k]?=some (.lst (us.map .str)))(h':Ω[j]?=some (.lst (vs.map .str))):az .NotEq (.ref k) (.ref j) Ω=.ok (.bl (!decide (us=vs))) Ω:=by
 rw[tN,g_,eT (n:=7) h,eT (n:=7) h',i0]
 have e:dI .NotEq (L1 us) (L1 vs)=.ok (!decide (us=vs)):=by
  rw[xp,pQ 7,pQ 7]
  show(if (true && true)=true then Out.ok (!eB (us.map .str) (vs.map .str)) else .bad)=_
  rw[nS];rfl
 rw[e];rfl
theorem DZ{i:Nat}{us:List Str}(h:Ω[kl]?=some (.lst (us.map .str))):jL (.ref kl) (some (i:Int)) none Ω=.ok (.ref Ω.length) (Ω++[.lst ((us.drop i).map .str)]):=by
 simp only[jL,aA h,nT,rD,List.map_drop]
end
section
variable{Ω ak:aG}{ρ:aU}{k:Nat}{js:List Nat}{rs:List (List Str)}{row:List Str}{n:Str}
theorem iw.snoc{j:Nat}(h:iw Ω js rs)(h1:Ω[j]?=some (.lst (row.map .str))):iw Ω (js++[j]) (rs++[row]):=aJ.append (R:=M0 Ω) h (.cons h1 .nil)
theorem dB{ds:List D}(h:Ω[k]?=some (.lst ds)):aQ .list [.ref k] Ω=.ok (.ref Ω.length) (Ω++[.lst ds]):=by
 show gS (iT [.ref k] Ω) (jC [.ref k] Ω)=_
 simp only[iT,aD,aA h];rfl
theorem lA{me mc:EM}{mi:IM}{cap:List Nat}{f:List Str->List Str}{P:Nat->Prop}(hi:mi ρ Ω=.ok (.seq (.ref k)) Ω)(R:Rw Ω k js rs)(hl:rs.length<=1000)
  (he:∀ j row ab,ag [] Ω ab->j∈js->row∈rs->ab[j]?=some (.lst (row.map .str))->∃ j' ao,me ([some (.ref j)]++dS cap ρ) ab=.ok (.ref j') ao/\ag [] ab ao/\ao[j']?=some (.lst ((f row).map .str))/\P j') :
  ∃ dQ ao,bf me true mc mi 0 cap ρ Ω=.ok (.ref ao.length) (ao++[.lst (dQ.map .ref)])/\ag [] Ω ao/\iw ao dQ (rs.map f)/\∀ j∈dQ,P j:=by
 have hL:=R.len
 obtain⟨ys,ao,e,dQ,rfl,h1,h2,h3⟩:=hG (me:=me) (mc:=mc) (cap:=cap) (ds:=js.map .ref) (fun i acc ao=>∃ dQ,acc=dQ.map .ref/\iw ao dQ ((rs.take i).map f)/\ag [] Ω ao/\∀ j∈dQ,P j) hi ⟨[],rfl,.nil,ag.refl,by simp⟩
  (fun i acc ao h=>by
   obtain⟨_,_,_,K,_⟩:=h;rw[cf,aD,aA (R.keep K).ce])
  (fun i d acc ab hd h=>by
   obtain⟨dQ,rfl,h1,K,h3⟩:=h;obtain⟨j,hj,rfl⟩:=gN hd;obtain⟨row,hr,hrow⟩:=(R.keep K).al.at' hj;obtain⟨j',ao,e,K2,h4,h5⟩:=he j row ab K (List.mem_of_getElem? hj) (List.mem_of_getElem? hr) hrow;refine⟨.ref j',ao,e,dQ++[j'],by simp,?_,K.trans K2,?_⟩
   ·rw[List.take_succ,hr,List.map_append]
    exact(h1.keep K2 (by simp)).snoc h4
   ·intro x hx
    rcases List.mem_append.mp hx with h | h
    ·exact h3 x h
    ·rw[List.mem_singleton.mp h];exact h5) (by simp;omega)
 refine⟨dQ,ao,e,h2,?_,h3⟩;rw[List.length_map,← hL,List.take_length]at h1;exact h1
def pW(i:Nat):EM:=bf (mN (aQ .list) (aa (U 0) af)) true (ae .non) (aM (U i)) 0 []
theorem tR{i:Nat}(hi:ρ[i]?=some (some (.ref k)))(R:Rw Ω k js rs)(hl:rs.length<=1000):∃ dQ k' ak,pW i ρ Ω=.ok (.ref k') ak/\ag [] Ω ak/\Rw ak k' dQ rs/\(∀ j∈dQ,Ω.length<=j)/\Ω.length<=k'/\k'∉dQ:=by
 have eG:aM (U i) ρ Ω=.ok (.seq (.ref k)) Ω:=by
  rw[br,gZ,hi,gY,aq];exact aY (by rw[aD,aA R.ce])
 obtain⟨dQ,ao,e,K,h1,h2⟩:=lA (me:=mN (aQ .list) (aa (U 0) af)) (mc:=ae .non) (cap:=[]) (f:=fun r=>r) (P:=fun j=>Ω.length<=j) eG R hl (fun j row ab K _ _ h=>by
  refine⟨ab.length,ab++[.lst (row.map .str)],?_,ag.app,av,K.len⟩;have:=dB h;simp[dS,this])
 rw[List.map_id']at h1;refine⟨dQ,ao.length,_,e,K.trans ag.app,⟨av,h1.keep (fp:=[]) ag.app (by simp)⟩,h2,K.len,fun h => ?_⟩
 have:=h1.lt _ h;omega
def stC:EM:=(vb (m2 (az .Eq) (cj (U 0) true (ae .non) false (ae (.int 1))) (mN aR (aa (U 1) af))) (cj (U 0) false (ae (.int 1)) true (ae .non)) (U 0))
theorem D1{j:Nat}(h:Ω[j]?=some (.lst (row.map .str))):jL (.ref j) none (some 1) Ω=.ok (.ref Ω.length) (Ω++[.lst ((row.take 1).map .str)]):=n5 (n:=1) h
theorem D2{j:Nat}(h:Ω[j]?=some (.lst (row.map .str))):∃ j' ak,stC [some (.ref j),some (.str n)] Ω=.ok (.ref j') ak/\ag [] Ω ak/\ak[j']?=some (.lst ((cB n row).map .str))/\(j'=j\/Ω.length<=j'):=by
 have s1:=D1 h;have g1:(Ω++[Cell.lst ((row.take 1).map .str)])[Ω.length]?=some (.lst ((row.take 1).map .str)):=av;have K1:ag [] Ω (Ω++[Cell.lst ((row.take 1).map .str)]):=ag.app;generalize Ω++[Cell.lst ((row.take 1).map .str)]=ab at *;have g2:(ab++[Cell.lst [.str n]])[ab.length]?=some (.lst ([n].map .str)):=av;have K2:ag [] ab (ab++[Cell.lst [.str n]]):=ag.app;have Wz:=K2.get _ _ g1 (by simp)
 have h2:=K2.get _ _ (K1.get _ _ h (by simp)) (by simp)
 have hq:=j9 Wz g2
 have e0:(m2 (az .Eq) (cj (U 0) true (ae .non) false (ae (.int 1))) (mN aR (aa (U 1) af))) [some (.ref j),some (.str n)] Ω=.ok (.bl (decide (row.take 1=[n]))) (ab++[Cell.lst [.str n]]):=by
  simp[s1,aH,hq,-j4]
 generalize ab++[Cell.lst [.str n]]=ao at *;have K:=K1.trans K2;have s2:=rJ h2;unfold stC;rw[nV,e0,dc,bL,dq,aq]
 by_cases hq:row.take 1=[n]
 ·rw[if_pos (by rw[decide_eq_true hq])]
  refine⟨ao.length,ao++[.lst (row.tail.map .str)],?_,K.trans ag.app,?_,.inr K.len⟩
  ·simp[s2]
  ·unfold cB;rw[if_pos hq];exact av
 ·rw[if_neg (by rw[decide_eq_false hq];simp)]
  refine⟨j,ao,by simp,K,?_,.inl rfl⟩
  unfold cB;rw[if_neg hq];exact h2
def FnAt(FN:ba):Prop:=∀ Ω k js rs,Rw Ω k js rs->rs.length<=1000->∃ ak,FN [.ref k] Ω=.ok (Ae (free rs)) ak/\ag [] Ω ak
theorem Ik:FnAt (bN 2 1 (Av (bN 4 2 rH))):=fun _ _ _ _ R hl=>DX R hl
def tM:EM:=(mN (aQ .any) (aa (U 1) af))
def stM:EM:=(bf stC true (ae .non) (aM (U 1)) 0 [3])
def bM(st:SM)(FN:ba):SM:=(ah (ax 3 (mN (aK FN) (aa (U 1) af)))
 (ah (dG (m2 (az .Is) (U 3) (ae .non))
 (ah st
 aj)
 aj)
 (ah (cm (cV ik bq (U 2) (aa (U 3) af)))
 (ah (ax 1 stM)
 aj))))
def D3(st:SM)(FN:ba):SM:=
 (ah (ax 1 (pW 0))
 (ah (ax 2 (mN aR af))
 (ah (ji tM (bM st FN))
 (ah (bg (U 2))
 aj))))
theorem tS(R:Rw Ω k js rs):aQ .any [.ref k] Ω=.ok (.bl ((rs.map fun r => !r.isEmpty).any id)) Ω:=by
 show lN .any [.ref k] Ω=_
 unfold lN;rw[tL];have h:=eU (n:=6) (rs:=js) (L:=rs) R.ce R.al;have:bB (eX Ω 8) [.ref k]=some [LL rs]:=by simp[h]
 rw[this,tK];have:wM .any [LL rs]=.ok (false,.bl ((rs.map fun r => !r.isEmpty).any id)):=by simp[LL,any_rows,-List.any_map]
 rw[this,DR]
theorem Il{st:SM}{FN:ba}(hF:FnAt FN){R0:D}{q:Nat}{a3:Option D}{pre:List Str}(R:Rw Ω k js rs)(hr:rs.length<=1000)(hf:free rs=some n)(hq:Ω[q]?=some (.lst (pre.map .str)))(D4:q≠k)(xE:q∉js)(hp:pre.length<=900) :
  ∃ k' dQ ak,bM st FN [some R0,some (.ref k),some (.ref q),a3] Ω=.nx [some R0,some (.ref k'),some (.ref q),some (.str n)] ak/\Rw ak k' dQ (rs.map (cB n))/\ak[q]?=some (.lst ((pre++[n]).map .str))/\q≠k'/\q∉dQ/\ag [q] Ω ak:=by
 obtain⟨ab,e1,K1⟩:=hF Ω k js rs R hr;rw[hf]at e1;have q1:=K1.get _ _ hq (by simp)
 have R1:=R.keep K1;have hap:=dX (d:=.str n) q1 (by simp;omega)
 have hL:=eF q1;have K2:ag [q] ab (ab.set q (.lst (pre.map .str++[.str n]))):=ag.set (by simp)
 have q2:(ab.set q (.lst (pre.map .str++[.str n])))[q]?=some (.lst ((pre++[n]).map .str)):=by rw[bh q1];simp
 generalize ab.set q (.lst (pre.map .str++[.str n]))=ao at *;have R2:Rw ao k js rs:=R1.pV K2 (by simpa using Ne.symm D4) (fun j hj h=>xE (by rw[← List.mem_singleton.mp h];exact hj))
 have eG:aM (U 1) [some R0,some (.ref k),some (.ref q),some (.str n)] ao=.ok (.seq (.ref k)) ao:=by
  rw[br];exact aY (by rw[aD,aA R2.ce])
 have ql:=bF q2
 obtain⟨dQ,aO,e3,K3,h3,h4⟩:=lA (ρ:=[some R0,some (.ref k),some (.ref q),some (.str n)]) (me:=stC) (mc:=ae .non) (cap:=[3]) (f:=cB n) (P:=fun j=>j≠q) eG R2 hr (fun j row aO K hj _ h=>by
  obtain⟨j',bR,e,K4,h4,h5⟩:=D2 (n:=n) h;refine⟨j',bR,e,K4,h4,?_⟩;rcases h5 with rfl | h5
  ·exact fun z=>xE (z▸hj)
  ·have:=K.len
   omega)
 have Y_:=K3.len;refine⟨aO.length,dQ,aO++[.lst (dQ.map .ref)],?_,⟨av,h3.keep (fp:=[]) ag.app (by simp)⟩,dZ (K3.get _ _ q2 (by simp)),by omega,fun h=>h4 q h rfl,?_⟩
 ·have e3':stM [some R0,some (.ref k),some (.ref q),some (.str n)] ao=.ok (.ref aO.length) (aO++[.lst (dQ.map .ref)]):=e3
  have r1:(ax 3 (mN (aK FN) (aa (U 1) af))) [some R0,some (.ref k),some (.ref q),a3] Ω=.nx [some R0,some (.ref k),some (.ref q),some (.str n)] ab:=by simp[e1,Ae]
  have r2:(dG (m2 (az .Is) (U 3) (ae .non)) (ah st aj) aj) [some R0,some (.ref k),some (.ref q),some (.str n)] ab=.nx [some R0,some (.ref k),some (.ref q),some (.str n)] ab:=by simp
  have r3:(cm (cV ik bq (U 2) (aa (U 3) af))) [some R0,some (.ref k),some (.ref q),some (.str n)] ab=.nx [some R0,some (.ref k),some (.ref q),some (.str n)] ao:=by
   rw[cI,ft (x:=.ref q) (ak:=ab) (by simp) hL]
   simp[hap]
  unfold bM;rw[ai,r1,aB,ai,r2,aB,ai,r3,aB,ai,bj,e3'];rfl
 ·exact((eV.up K1).trans K2).trans (eV.up (K3.trans ag.app))
theorem xF{st:SM}{FN:ba}(hF:FnAt FN){R0:D}{rs:List (List Str)}{o:List Str}(M:Mg rs o) :
  ∀ (Ω:aG) (pre:List Str) (q k:Nat) (js:List Nat) (a3:Option D) (m:Nat),Rw Ω k js rs->Ω[q]?=some (.lst (pre.map .str))->q≠k->q∉js->rs.length<=1000->pre.length + o.length<=900->o.length < m ->
   ∃ a1 Pn ak,eS tM (bM st FN) m [some R0,some (.ref k),some (.ref q),a3] Ω=.nx [some R0,a1,some (.ref q),Pn] ak/\ak[q]?=some (.lst ((pre++o).map .str))/\ag [q] Ω ak:=by
 induction M with
 | @done rs h=>
  intro Ω pre q k js a3 m R hq _ _ _ _ hm;obtain⟨m,rfl⟩:∃ k,m=k + 1:=⟨m - 1,by simp at hm;omega⟩
  refine⟨some (.ref k),a3,Ω,?_,by rw[List.append_nil];exact hq,ag.refl⟩
  have e:=tS R;rw[any_false h]at e;have e':tM [some R0,some (.ref k),some (.ref q),a3] Ω=.ok (.bl false) Ω:=by simp[tM,e]
  simp only[eS,e'];rfl
 | @step rs n o h hf _ ih=>
  intro Ω pre q k js a3 m R hq D4 xE hr hp hm;obtain⟨m,rfl⟩:∃ k,m=k + 1:=⟨m - 1,by simp at hm;omega⟩
  rw[List.length_cons]at hp hm;obtain⟨k',dQ,ab,e1,R1,q1,h1,h2,K1⟩:=Il (st:=st) hF (R0:=R0) (a3:=a3) R hr hf hq D4 xE (by omega)
  obtain⟨a1,Pn,ao,e2,q2,K2⟩:=ih ab (pre++[n]) q k' dQ (some (.str n)) m R1 q1 h1 h2 (by simpa using hr) (by simp;omega) (by omega)
  refine⟨a1,Pn,ao,?_,by rw[q2];simp,K1.trans K2⟩
  have e:=tS R;rw[any_true h]at e;have e':tM [some R0,some (.ref k),some (.ref q),a3] Ω=.ok (.bl true) Ω:=by simp[tM,e]
  simp only[eS,e']
  show(match bM st FN [some R0,some (.ref k),some (.ref q),a3] Ω with | .nx cz ak=>eS tM (bM st FN) m cz ak | .ct cz ak=>eS tM (bM st FN) m cz ak | .bk cz ak=>.nx cz ak | r=>r)=_
  rw[e1];exact e2
def rK(MG:ba):Prop:=∀ (Ω:aG) (k:Nat) (js:List Nat) (rs:List (List Str)) (o:List Str),Rw Ω k js rs->Mg rs o->rs.length<=1000->o.length<=900->∃ q ak,MG [.ref k] Ω=.ok (.ref q) ak/\ak[q]?=some (.lst (o.map .str))/\Ω.length<=q/\ag [] Ω ak
theorem Im{st:SM}{FN:ba}(hF:FnAt FN):rK (bN 4 1 (D3 st FN)):=by
 intro Ω k js rs o R M hr ho;rw[bD (by rfl)]
 have e0:a_ 4 [D.ref k]=[some (.ref k),none,none,none]:=rfl;rw[e0];obtain⟨dQ,k',ab,e1,K1,R1,h1,h2,h3⟩:=tR (ρ:=[some (.ref k),none,none,none]) (i:=0) rfl R hr;have r1:(ax 1 (pW 0)) [some (.ref k),none,none,none] Ω=.nx [some (.ref k),some (.ref k'),none,none] ab:=by rw[bj,e1];rfl
 have K2:ag [] ab (ab++[Cell.lst []]):=ag.app;have q2:(ab++[Cell.lst []])[ab.length]?=some (.lst (([]:List Str).map .str)):=av;have r2:(ax 2 (mN aR af)) [some (.ref k),some (.ref k'),none,none] ab=.nx [some (.ref k),some (.ref k'),some (.ref ab.length),none] (ab++[Cell.lst []]):=by simp[aH]
 have lk:=bF R1.ce;have lj:=R1.al.lt;obtain⟨a1,a3,aO,e3,q3,K3⟩:=xF (st:=st) hF (R0:=.ref k) M (ab++[Cell.lst []]) [] ab.length k' dQ none fuel (R1.keep K2) q2 (by omega) (fun h=>by have:=lj _ h;omega) hr (by simpa using ho) (by unfold fuel;omega)
 refine⟨ab.length,aO,?_,q3,K1.len,ag.new (K1.trans K2) K3 (by simpa using K1.len)⟩
 unfold D3;rw[ai,r1,aB,ai,r2,aB,ai];unfold ji;rw[e3];rfl
def D5(MG:ba):SM:=
 (ah (ah (ax 2 (mN (aK MG) (aa (U 0) af)))
 aj)
 (ah (bg (m2 (az .Eq) (U 2) (U 1)))
 aj))
def Ay(IM:ba):Prop:=∀ (Ω:aG) (k t:Nat) (js:List Nat) (rs:List (List Str)) (o w:List Str),Rw Ω k js rs->Ω[t]?=some (.lst (w.map .str))->Mg rs o->rs.length<=1000->o.length<=900->∃ ak,IM [.ref k,.ref t] Ω=.ok (.bl (decide (o=w))) ak/\ag [] Ω ak
theorem Io{MG:ba}(hM:rK MG):Ay (bN 3 2 (D5 MG)):=by
 intro Ω k t js rs o w R ht M hr ho;rw[bD (by rfl)]
 have e0:a_ 3 [D.ref k,.ref t]=[some (.ref k),some (.ref t),none]:=rfl;rw[e0];obtain⟨q,ab,e1,q1,_,K1⟩:=hM Ω k js rs o R M hr ho;have hq:=j9 q1 (K1.get _ _ ht (by simp))
 refine⟨ab,?_,K1⟩;simp[D5,e1,hq,-j4]
end
end Mir
namespace Mir
open PySem
open PySem.Spec PyProof.Rows L2
structure dC(K:PySem.W.Frag)(x:Str)(st:Stmt)(f:Addr)(fd:FuncData):Prop where
 ns:PySem.W.nsIn K mainGlobals x=some (some (.ref f))
 fn:Dj K x x st f fd
theorem lB{K:PySem.W.Frag}{x:Str}{st:Stmt}{f:Addr}{oc:Value}{od an:Option Addr}{osl:Array (Option Value)}{kV doc pm cdv ct:Value}(a:PySem.W.nsIn K mainGlobals x=some (some (.ref f)))
  (l:K.lookup f=some ⟨oc,od,.func (PySem.W.fnOf x x (bK st) (bG st) (aw st) .none kV doc pm an cdv ct),osl⟩) (c:PySem.W.codeIn K cdv x=true) (k:PySem.W.keepIn K (.ref f)=true):dC K x st f (PySem.W.fnOf x x (bK st) (bG st) (aw st) .none kV doc pm an cdv ct):=⟨a,fj l c k⟩
variable [aN]
structure Ip(K:PySem.W.Frag)(x qual:Str)(st:Stmt)(dV:Value)(f:Addr)(fd:FuncData):Prop where
 ex:∃ (oc:Value) (od:Option Addr) (kV doc pm:Value) (an:Option Addr) (cdv ct:Value) (osl:Array (Option Value)),
  fd=PySem.W.fnOf x qual (bK st) (bG st) (aw st) dV kV doc pm an cdv ct/\K.lookup f=some ⟨oc,od,.func fd,osl⟩/\PySem.W.codeIn K cdv qual=true
 kp:PySem.W.keepIn K (.ref f)=true
section
variable{P:Program}{w:World}{K:PySem.W.Frag}{mg:Str->Option Value}{base:Heap}{T:bc}{k:Nat}
theorem Az(W:bC P w K mg base T k){x qual:Str}{st:Stmt}{dV:Value}{f:Addr}{fd:FuncData}(F:Ip K x qual st dV f fd){N ps td:List Str}{c:SM}(hs:bO N ps (aw st)=true)(hc:b9 T td st N=some c) :
    cU P w K mg base jS (k + 1) f fd ps (dU (eZ mg) (bN N.length ps.length c)):=by
  obtain⟨oc,od,kV,doc,pm,an,cdv,ct,osl,rfl,lk,hcd⟩:=F.ex;have Sc:=nz hs;refine BE lk hcd Sc (fun vs H Q E h => ?_) fun A outer s H vs Q E hr h => ?_
  · obtain⟨α,Z,Ω,ds,S,r,g⟩:=h
    rw[r.length];unfold bN at g;split at g
    · rename_i hl;exact hl
    · exact g.elim
  · obtain⟨α,Z,Ω,ds,S,r,g⟩:=h
    have G:fV (oE jS P w K mg base N qual (aw st) f cdv A outer s H E).vj (eZ mg) T k (aw st) N:=
      { scope:=rfl,names:=rfl,calm:=rfl,room:=hr,fo:=W.fo,own:=PassesOwn.never,OF:=fun _ _ _=>.inl rfl,sO:=Sc.nd,kind:=Sc.kind,vj:=fun _ _ _ h=>h,fld:=W.fld,cst:=W.cst
        lF:=fun x F h=>⟨W.lF x F h⟩,fn:=fun x F h=>⟨W.fn x F h⟩,met:=fun m C F h=>⟨W.met m C F h⟩,cls:=fun C F h=>let ⟨j,h1,h2⟩:=W.cls C F h;⟨j,h1,⟨h2⟩⟩,clo:=W.clo }
    refine⟨Hr (eZ mg) pD α Z H c (a_ N.length ds) Ω,(iX (tw G 30 60) hc α Z H (a_ N.length ds) Ω).vj,α,Z,kZ S r,?_⟩;unfold bN at g;split at g
    · cases q:c (a_ N.length ds) Ω with
      | rt d ak=>rw[q]at g;exact fun v H' α' Z' gr st r=>g v H' α' Z' gr st r
      | nx ρ ak=>rw[q]at g;exact fun σ H' α' Z' S'=>g .non H' α' Z' S'.gr S'.st (aW rfl)
      | bk ρ ak=>rw[q]at g;exact g.elim
      | ct ρ ak=>rw[q]at g;exact g.elim
      | exc x ak=>rw[q]at g;exact g
      | bad=>rw[q]at g;exact g.elim
    · exact g.elim
end
end Mir
namespace Mir
open PySem L2
variable [aN]
abbrev oR(k:Nat):Option D:=some (.ref k)
abbrev oI(i:Int):Option D:=some (.int i)
abbrev oS(x:Str):Option D:=some (.str x)
def cA(Ω:aG)(e:Nat)(kvs:List (Key×D)):Prop:=Ω[e]?=some (.dK kvs)\/Ω[e]?=some (.dF kvs)
abbrev f7:=List (Str×List Str)
noncomputable def nms(E:f7):List Str:=E.map (·.1)
noncomputable def bt(E:f7)(n:Str):List Str:=(E.lookup n).getD []
def aL(P:Nat->Prop)(Ω:aG)(kvs:List (Key×D))(E:f7):Prop:=aJ (fun kv p=>kv.1=.inr p.1/\∃ j,kv.2=.ref j/\P j/\Ω[j]?=some (.lst (p.2.map .str))) kvs E
section
variable{Ω ak:aG}{ρ:aU}{e q j:Nat}{kvs:List (Key×D)}{E:f7}{P P':Nat->Prop}{n:Str}{r:List Str}{fp:List Nat}{ord:List Str}
theorem cA.keep(h:cA Ω e kvs)(K:ag fp Ω ak)(hn:e∉fp):cA ak e kvs:=h.imp (fun z=>K.get _ _ z hn) fun z=>K.get _ _ z hn
theorem cA.lt(h:cA Ω e kvs):e < Ω.length:=h.elim bF bF
theorem cA.nl(h:cA Ω e kvs):∀ ds,Ω[e]?≠some (.lst ds):=fun ds z=>by rcases h with h | h<;>rw[h]at z<;>cases z
theorem cA.ni(h:cA Ω e kvs):∀ C fs,Ω[e]?≠some (.ins C fs):=fun C fs z=>by rcases h with h | h<;>rw[h]at z<;>cases z
theorem BY(h:cA Ω e kvs){m:Nat}:eX Ω (m + 1) (.ref e)=none:=by rcases h with h | h<;>simp only[eX,h]
theorem pX(h:cA Ω e kvs):dE Ω (.ref e)=none:=by rcases h with h | h<;>simp only[dE,h]
theorem xG(h:cA Ω e kvs):qT Ω (.ref e) (.str n)=some (cq kvs (.inr n)):=by rcases h with h | h<;>simp only[qT,h,nB,Option.map_some]
theorem D6(h:cA Ω e kvs):az .In (.str n) (.ref e) Ω=.ok (.bl (cq kvs (.inr n)).isSome) Ω:=by
 rw[nX,g_,j2,BY h]
 show gS .bad _=_
 rw[rF];simp only[gh,xG h];rfl
theorem Iq(h:cA Ω e kvs):az .NotIn (.str n) (.ref e) Ω=.ok (.bl (!(cq kvs (.inr n)).isSome)) Ω:=by
 rw[lu,g_,j2,BY h]
 show gS .bad _=_
 rw[rF];simp only[gh,xG h];rfl
theorem gO{d:D}(h:cA Ω e kvs)(hv:cq kvs (.inr n)=some d):aC (.ref e) (.str n) Ω=.ok d Ω:=by
 unfold aC;rw[fW,j5,aD,pX h]
 show gS .bad _=_
 rw[rF,fW];simp only[zl,xG h,hv];rfl
theorem Ir(h:cA Ω e kvs):aQ .len [.ref e] Ω=.ok (.int kvs.length) Ω:=by
 show gS (nK [.ref e] Ω) (gS (q_ [.ref e] Ω) _)=_
 have h1:nK [.ref e] Ω=.bad:=by simp only[nK,aD,pX h]
 have h2:q_ [.ref e] Ω=.ok (.int kvs.length) Ω:=by rcases h with h | h<;>simp only[q_,h]
 rw[h1,h2];rfl
theorem BZ(h:cA Ω e kvs):uI Ω (.ref e)=some kvs:=by rcases h with h | h<;>simp only[uI,h]
theorem D7(h:cA Ω e kvs):aQ .list [.ref e] Ω=.ok (.ref Ω.length) (Ω++[.lst (kvs.map fun kv=>jh kv.1)]):=by
 show gS (iT [.ref e] Ω) (jC [.ref e] Ω)=_
 have h1:iT [.ref e] Ω=.bad:=by simp only[iT,aD,pX h]
 have h2:jC [.ref e] Ω=.ok (.ref Ω.length) (Ω++[.lst (kvs.map fun kv=>jh kv.1)]):=by simp only[jC,BZ h];rfl
 rw[h1,h2];rfl
theorem xH(h:cA Ω e kvs):ff [.ref e] Ω=.ok (.ref Ω.length) (Ω++[.dK kvs]):=by
 show gS (gH [.ref e] Ω) (kQ [.ref e] Ω)=_
 have h1:gH [.ref e] Ω=.bad:=by simp only[gH,pX h]
 have h2:kQ [.ref e] Ω=.ok (.ref Ω.length) (Ω++[.dK kvs]):=by simp only[kQ,BZ h];rfl
 rw[h1,h2];rfl
theorem set_same{c:Cell}(h:Ω[e]?=some c):Ω.set e c=Ω:=by
 apply List.ext_getElem?;intro i;rw[List.getElem?_set];split
 ·rename_i z;subst z;rw[if_pos (bF h),h]
 ·rfl
theorem tT(h:cA Ω e kvs):srcOf Ω (.ref e)=.ok (.keys e) (Ω.set e (.dF kvs)):=by
 unfold srcOf;rw[aD,pX h];rcases h with h | h
 ·simp only[h]
 ·simp only[h,set_same h]
theorem Iu(h:cA Ω e kvs):sY Ω (.ref e)=.ok (.items e) (Ω.set e (.dF kvs)):=by
 unfold sY;rcases h with h | h
 ·simp only[h]
 ·simp only[h,set_same h]
theorem xI(h:cA Ω e kvs):(Ω.set e (.dF kvs))[e]?=some (.dF kvs):=by rcases h with h | h<;>exact bh h
theorem n8(h:Ω[e]?=some (.dF kvs)):eR (.keys e) Ω=some (kvs.map fun kv=>jh kv.1):=by simp only[eR,h]
theorem aL.imp(h:aL P Ω kvs E)(hp:∀ j,P j->P' j):aL P' Ω kvs E:=aJ.imp (fun _ _ ⟨a,j,b,c,d⟩=>⟨a,j,b,hp j c,d⟩) h
theorem aL.keep(h:aL P Ω kvs E)(K:ag fp Ω ak)(hn:∀ j∈fp,¬ P j):aL P ak kvs E:=aJ.imp (fun _ _ ⟨a,j,b,c,d⟩=>⟨a,j,b,c,K.get _ _ d fun z=>hn j z c⟩) h
theorem aL.cT(h:aL P Ω kvs E)(K:ag fp Ω ak)(hn:∀ j∈fp,∀ ds,Ω[j]?≠some (.lst ds)):aL P ak kvs E:=aJ.imp (fun _ _ ⟨a,j,b,c,d⟩=>⟨a,j,b,c,K.get _ _ d fun z=>hn j z _ d⟩) h
theorem aL.lt(h:aL P Ω kvs E):aL (fun j=>P j/\j < Ω.length) Ω kvs E:=aJ.imp (fun _ _ ⟨a,j,b,c,d⟩=>⟨a,j,b,⟨c,bF d⟩,d⟩) h
theorem aL.len(h:aL P Ω kvs E):E.length=kvs.length:=aJ.length h
theorem aL.keys(h:aL P Ω kvs E):(kvs.map fun kv=>jh kv.1)=(nms E).map .str:=by
 unfold aL at h
 induction h with
 | nil=>rfl
 | cons r _ ih=>
  simp only[List.map_cons,nms]at ih ⊢;rw[ih,r.1];rfl
theorem aL.look(h:aL P Ω kvs E)(n:Str):(∀ r,E.lookup n=some r->∃ j,cq kvs (.inr n)=oR j/\P j/\Ω[j]?=some (.lst (r.map .str)))/\(E.lookup n=none->cq kvs (.inr n)=none):=by
 unfold aL at h
 induction h with
 | nil=>exact⟨fun r h=>by simp at h,fun _=>rfl⟩
 | @cons kv p kvs E hr _ ih=>
  obtain⟨h1,j,h2,h3,h4⟩:=hr;rw[List.lookup_cons,dA,h1]
  by_cases z:n=p.1
  ·subst z
   rw[if_pos rfl,h2];simp;exact⟨h3,h4⟩
  ·rw[if_neg (fun q=>z (by cases q;rfl)),beq_eq_false_iff_ne.mpr z]
   exact ih
theorem n9(h:E.lookup n=some r):(n,r)∈E:=by
 induction E with
 | nil=>simp at h
 | cons p E ih=>
  rw[List.lookup_cons]at h;split at h
  ·rename_i z
   cases h;rw[eq_of_beq z];simp
  ·exact List.mem_cons_of_mem _ (ih h)
theorem lookup_some(h:n∈nms E):∃ r,E.lookup n=some r:=by
 unfold nms at h
 induction E with
 | nil=>simp at h
 | cons p E ih=>
  rw[List.lookup_cons];split
  ·exact⟨_,rfl⟩
  ·rename_i z
   refine ih ?_;rw[List.map_cons]at h;rcases List.mem_cons.mp h with q | q
   ·rw[q]at z;simp at z
   ·exact q
theorem iq(h:n∈nms E):E.lookup n=some (bt E n):=by
 obtain⟨r,hr⟩:=lookup_some h;unfold bt;rw[hr];rfl
theorem lookup_none(h:n∉nms E):E.lookup n=none:=by
 cases q:E.lookup n with
 | none=>rfl
 | some r=>exact absurd (List.mem_map_of_mem (f:=(·.1)) (n9 q)) h
theorem aL.at(h:aL P Ω kvs E)(hn:n∈nms E):∃ j,cq kvs (.inr n)=oR j/\P j/\Ω[j]?=some (.lst ((bt E n).map .str)):=(h.look n).1 _ (iq hn)
theorem aL.is(h:aL P Ω kvs E):(cq kvs (.inr n)).isSome=decide (n∈nms E):=by
 by_cases q:n∈nms E
 ·obtain⟨j,h1,_⟩:=h.at q
  rw[h1,decide_eq_true q];rfl
 ·rw[(h.look n).2 (lookup_none q),decide_eq_false q];rfl
theorem xJ{k:Key}(h:cq kvs k=none):(kvs.any fun kv=>decide (kv.1=k))=false:=by rw[ly,h];rfl
theorem aL.put(h:aL P Ω kvs E)(hn:n∉nms E)(hp:P j)(hj:Ω[j]?=some (.lst (r.map .str))):aL P Ω (dR kvs (.inr n) (.ref j)) (E++[(n,r)]):=by
 have:=xJ ((h.look n).2 (lookup_none hn));unfold dR;rw[if_neg (by rw[this];simp)]
 exact aJ.append (R:=fun (kv:Key×D) (p:Str×List Str)=>kv.1=.inr p.1/\∃ j,kv.2=.ref j/\P j/\Ω[j]?=some (.lst (p.2.map .str))) h (.cons ⟨rfl,j,rfl,hp,hj⟩ .nil)
def n_(E:f7)(ord:List Str):List Str:=(nms E).filter fun n => !decide (n∈ord) && (bt E n).all fun x=>decide (x∈ord)
def Po:EM:=(bf (m2 (az .In) (U 0) (U 1)) true (ae .non) (aM (m2 aC (U 1) (U 0))) 0 [2])
def Iv:EM:=(eQ (m2 (az .NotIn) (U 0) (U 2)) (mN (aQ .all) (aa Po af)))
def Pp:SM:=(ah (bg (bf (U 0) false Iv (aM (U 0)) 0 [0,1])) aj)
theorem oa{ts:List Bool}(h:Ω[q]?=some (.lst (ts.map .bl))):aQ .all [.ref q] Ω=.ok (.bl (ts.all id)) Ω:=by
 show lN .all [.ref q] Ω=_
 unfold lN;rw[tL];have h1:bB (eX Ω 7) (ts.map .bl)=some (ts.map .bl):=jq (fun _=>DQ) ts
 have:bB (eX Ω 8) [.ref q]=some [.lst (ts.map .bl)]:=by simp[j3 h h1]
 rw[this,tK,xA]
 have h2:fx (ts.map D.bl)=some ts:=by
  clear h h1 this
  induction ts with
  | nil=>rfl
  | cons b ts ih=>simp[fx,ih]
 rw[h2];rfl
theorem rL{a:Nat}{xs:List Str}{me:EM}{mi:IM}{cap:List Nat}(hx:Ω[a]?=some (.lst (xs.map .str)))(hi:mi ρ Ω=.ok (.seq (.ref a)) Ω){p:Str->Bool}(he:∀ x∈xs,me ([oS x]++dS cap ρ) Ω=.ok (.bl (p x)) Ω)(hl:xs.length<=90000) :
  ∃ ak,mN (aQ .all) (aa (bf me true (ae .non) mi 0 cap) af) ρ Ω=.ok (.bl (xs.all p)) ak/\ag [] Ω ak:=by
 have e:=dk (ρ:=ρ) (Ω:=Ω) (ak:=Ω) (me:=me) (mc:=ae .non) (nc:=true) (mi:=mi) (cap:=cap) (src:=.seq (.ref a)) (ds:=xs.map .str) (p:=fun _=>true) (g:=fun d=>match d with | .str x=>.bl (p x) | d=>d) hi (by rw[cf,aD,aA hx]) (fun d _=>rfl) (fun d hd _=>by
  obtain⟨x,hx',rfl⟩:=List.mem_map.mp hd;exact he x hx') (by simpa using hl)
 have e2:((xs.map D.str).filter fun _=>true).map (fun d=>match d with | .str x=>D.bl (p x) | d=>d)=(xs.map p).map .bl:=by
  rw[List.filter_eq_self.mpr (fun _ _=>rfl),List.map_map,List.map_map]
  rfl
 rw[e2]at e;refine⟨Ω++[.lst ((xs.map p).map .bl)],?_,ag.app⟩;rw[cM,aX,e,aq,aZ,aq,aq,oa av];simp[List.all_map]
def AA(RK:ba):Prop:=∀ (Ω:aG) (e q:Nat) (kvs:List (Key×D)) (E:f7) (ord:List Str) (P:Nat->Prop),cA Ω e kvs->aL P Ω kvs E->Ω[q]?=some (.lst (ord.map .str))->(∀ n∈nms E,(bt E n).length<=1000)->E.length<=1000 ->
 ∃ z ak,RK [.ref e,.ref q] Ω=.ok (.ref z) ak/\ak[z]?=some (.lst ((n_ E ord).map .str))/\ag [e] Ω ak/\ak[e]?=some (.dF kvs)/\Ω.length<=z
theorem Iw:AA (bN 2 2 Pp):=by
 intro Ω e q kvs E ord P hd hr hq hrl hl;rw[bD (by rfl)]
 have e0:a_ 2 [D.ref e,.ref q]=[oR e,oR q]:=rfl;rw[e0];have hne:q≠e:=fun z=>hd.nl _ (z▸hq)
 have K0:ag [e] Ω (Ω.set e (.dF kvs)):=ag.set (by simp)
 have f0:=xI hd;have hr0:=hr.cT K0 (fun j hj=>by rw[List.mem_singleton.mp hj];exact hd.nl)
 have hq0:=K0.get _ _ hq (by simpa using hne)
 have l0:(Ω.set e (.dF kvs)).length=Ω.length:=by simp
 have eG:aM (U 0) [oR e,oR q] Ω=.ok (.keys e) (Ω.set e (.dF kvs)):=by
  rw[br];exact tT hd
 generalize Ω.set e (.dF kvs)=ir at *
 obtain⟨ao,e2,K2⟩:=Ax (ρ:=[oR e,oR q]) (me:=U 0) (mc:=Iv) (nc:=false) (cap:=[0,1]) (ds:=(nms E).map .str) (p:=fun d=>match d with | .str n => !decide (n∈ord) && (bt E n).all fun x=>decide (x∈ord) | _=>false) (g:=fun d=>d) (fun _ ab=>ag [] ir ab) eG
  (fun i ab K=>by rw[n8 (K.get _ _ f0 (by simp)),hr.keys])
  (fun i d ab hd1 K=>by
   obtain⟨n,hn,rfl⟩:=eW hd1;have hm:n∈nms E:=List.mem_of_getElem? hn;have q1:=K.get _ _ hq0 (by simp)
   have f1:=K.get _ _ f0 (by simp)
   have r1:=hr0.keep K (by simp)
   obtain⟨j,hv,_,hj⟩:=r1.at hm;have hni:=n0 (w:=n) q1;have hix:=gO (n:=n) (.inr f1) hv
   show ∃ ak,cQ (Iv [oS n,oR e,oR q] ab)=.ok (!decide (n∈ord) && (bt E n).all fun x=>decide (x∈ord)) ak/\_
   by_cases ho:n∈ord
   ·refine⟨ab,?_,K,fun _=>rfl⟩
    rw[decide_eq_true ho]at hni ⊢;simp[Iv,hni,-lu]
   ·rw[decide_eq_false ho]at hni
    obtain⟨aO,e3,K3⟩:=rL (ρ:=[oS n,oR e,oR q]) (me:=m2 (az .In) (U 0) (U 1)) (mi:=aM (m2 aC (U 1) (U 0))) (cap:=[2]) (p:=fun x=>decide (x∈ord)) hj (by
     rw[br]
     show(aC (.ref e) (.str n) ab).bind _=_
     rw[hix,aq];exact aY (by rw[aD,aA hj])) (fun x _=>by
     show az .In (.str x) (.ref q) ab=_
     exact rG q1) (by have:=hrl n hm;omega)
    refine⟨aO,?_,K.trans K3,fun _=>rfl⟩
    have e3:mN (aQ .all) (aa Po af) [oS n,oR e,oR q] ab=_:=e3;unfold Iv;rw[iZ]
    show cQ ((az .NotIn (.str n) (.ref q) ab).bind _)=_
    rw[hni,aq,bL]
    show cQ (mN (aQ .all) (aa Po af) [oS n,oR e,oR q] ab)=_
    rw[e3,dc,bL,dq];simp[ho]) (by simp[nms];omega) ag.refl
 refine⟨ao.length,ao++[.lst ((n_ E ord).map .str)],?_,av,?_,dZ (K2.get _ _ f0 (by simp)),by have:=K2.len;omega⟩
 ·unfold Pp
  rw[ai,de,e2]
  have e4:(((nms E).map D.str).filter (fun d=>match d with | .str n => !decide (n∈ord) && (bt E n).all fun x=>decide (x∈ord) | _=>false)).map (fun d=>d)=(n_ E ord).map .str:=by
   unfold n_;rw[List.map_id',List.filter_map];rfl
  rw[e4];rfl
 ·exact(K0.trans (eV.up K2)).trans ag.app
end
theorem og{xs:List Str}:∀ {o:List Str},o.Nodup->(∀ x∈o,x∈xs)->o.length<=xs.length:=by
 intro o hn hs
 induction o generalizing xs with
 | nil=>simp
 | cons a o ih=>
  have ha:=hs a (by simp)
  have h1:=List.nodup_cons.mp hn
  have:=ih (xs:=xs.erase a) h1.2 (fun x hx=>by
   have hne:x≠a:=fun z=>h1.1 (by rw[← z];exact hx)
   exact(List.mem_erase_of_ne hne).mpr (hs x (by simp[hx])))
  rw[List.length_erase_of_mem ha]at this;have hp:0 < xs.length:=List.length_pos_of_mem ha;simp only[List.length_cons];omega
structure Ef(E:f7)(ord:List Str):Prop where
 nd:ord.Nodup
 sub:∀ n∈ord,n∈nms E
 pre:∀ (i:Nat) (n:Str),ord[i]?=some n->∀ x∈bt E n,x∈ord.take i
structure Acy(E:f7):Prop where
 nd:(nms E).Nodup
 el:∀ n∈nms E,∀ x∈bt E n,x∈nms E
 rk:∃ rk:Str->Nat,∀ n∈nms E,∀ x∈bt E n,rk x < rk n
section
variable{Ω ak:aG}{ρ:aU}{e q j:Nat}{kvs:List (Key×D)}{E:f7}{P P':Nat->Prop}{n:Str}{r:List Str}{fp:List Nat}{ord:List Str}
theorem j_:n∈n_ E ord↔n∈nms E/\n∉ord/\∀ x∈bt E n,x∈ord:=by
 unfold n_;simp[List.mem_filter]
theorem Ef.step(h:Ef E ord)(hn:(nms E).Nodup):Ef E (ord++n_ E ord) where
 nd:=List.nodup_append.mpr ⟨h.nd,hn.filter _,fun a ha b hb z=>(j_.mp hb).2.1 (z▸ha)⟩
 sub:=fun n hm=>(List.mem_append.mp hm).elim (h.sub n) fun z=>(j_.mp z).1
 pre:=fun i n hi x hx=>by
  by_cases hl:i < ord.length
  ·rw[List.getElem?_append_left hl]at hi
   rw[List.take_append_of_le_length (Nat.le_of_lt hl)];exact h.pre i n hi x hx
  ·rw[List.getElem?_append_right (by omega)]at hi
   have:=(j_.mp (List.mem_of_getElem? hi)).2.2 x hx;rw[List.take_append,List.take_of_length_le (by omega)]
   exact List.mem_append_left _ this
theorem D8(A:Acy E)(hz:n_ E ord=[]):∀ n∈nms E,n∈ord:=by
 obtain⟨rk,hr⟩:=A.rk
 have key:∀ (k:Nat) n,rk n < k->n∈nms E->n∈ord:=by
  intro k
  induction k with
  | zero=>intro n h;omega
  | succ k ih=>
   intro n hk hn
   by_cases q:n∈ord
   ·exact q
   ·have:n∈n_ E ord:=j_.mpr ⟨hn,q,fun x hx=>ih x (by have:=hr n hn x hx;omega) (A.el n hn x hx)⟩
    rw[hz]at this;simp at this
 exact fun n hn=>key _ n (Nat.lt_succ_self _) hn
theorem rM{k a:Nat}{xs ys:List Str}(h:Ω[k]?=some (.lst (xs.map .str)))(h2:Ω[a]?=some (.lst (ys.map .str)))(hl:xs.length + ys.length<=10000):fT (.ref k) [.ref a] Ω=.ok .non (Ω.set k (.lst ((xs++ys).map .str))):=by
 simp only[fT,i4 h,i4 h2];rw[if_pos (aH (by simp;omega)),List.map_append]
def D9(RK:ba):SM:=(ah (cm (cV ik fT (U 1) (aa (U 2) af)))
 (ah (ax 2 (mN (aK RK) (aa (U 0) (aa (U 1) af))))
 aj))
def Pq(RK:ba):SM:=
 (ah (ax 1 (mN aR af))
 (ah (ax 2 (mN (aK RK) (aa (U 0) (aa (U 1) af))))
 (ah (ji (U 2)
 (D9 RK))
 (ah (bg (U 1))
 aj))))
structure Gd(E:f7):Prop extends Acy E where
 few:E.length<=100
 short:∀ n∈nms E,(bt E n).length<=100
theorem xK{RK:ba}(hR:AA RK)(G:Gd E) :
  ∀ (m:Nat) (Ω:aG) (ord:List Str) (q z:Nat),Ω[e]?=some (.dF kvs)->aL P Ω kvs E->Ef E ord->Ω[q]?=some (.lst (ord.map .str))->Ω[z]?=some (.lst ((n_ E ord).map .str))->q≠z->¬ P q->E.length - ord.length < m ->
   ∃ ord' a2 ak,eS (U 2) (D9 RK) m [oR e,oR q,oR z] Ω=.nx [oR e,oR q,a2] ak/\ak[q]?=some (.lst (ord'.map .str))/\Ef E ord'/\(∀ n∈nms E,n∈ord')/\ag [q] Ω ak:=by
 intro m
 induction m with
 | zero=>intro Ω ord q z _ _ _ _ _ _ _ h;omega
 | succ m ih=>
  intro Ω ord q z he hr F hq hz Za hP hm;have ht:=i7 hz
  have hfl:ord.length<=E.length:=by
   have:=og F.nd F.sub;simpa[nms] using this
  by_cases hd:n_ E ord=[]
  ·refine⟨ord,oR z,Ω,?_,hq,F,D8 G.toAcy hd,ag.refl⟩
   have e':U 2 [oR e,oR q,oR z] Ω=.ok (.ref z) Ω:=rfl;rw[hd]at ht;simp only[eS,e',dc,ht];rfl
  ·have e':U 2 [oR e,oR q,oR z] Ω=.ok (.ref z) Ω:=rfl
   have ht:gg Ω (.ref z)=some true:=by
    rw[ht];cases hc:n_ E ord with
    | nil=>exact absurd hc hd
    | cons a b=>rfl
   have F2:=F.step G.nd
   have Iy:(ord++n_ E ord).length<=E.length:=by
    have:=og F2.nd F2.sub;simpa[nms] using this
   have hfw:=G.few;have hx:=rM hq hz (by rw[List.length_append]at Iy;omega)
   have hL:=eF hq;have K1:ag [q] Ω (Ω.set q (.lst ((ord++n_ E ord).map .str))):=ag.set (by simp)
   have hq1:=bh (e:=.lst ((ord++n_ E ord).map .str)) hq;have hqe:q≠e:=fun z=>by rw[z,he]at hq;cases hq
   have vd:=K1.get _ _ he (by simpa using Ne.symm hqe)
   have hr1:=hr.keep K1 (fun j hj=>by rw[List.mem_singleton.mp hj];exact hP)
   generalize Ω.set q (.lst ((ord++n_ E ord).map .str))=ab at *;obtain⟨z',ao,e2,hz2,K2,he2,lz⟩:=hR ab e q kvs E (ord++n_ E ord) P (.inr vd) hr1 hq1 (fun n hn=>by have:=G.short n hn;omega) (by omega)
   have WA:ag [q] ab ao:=⟨K2.len,fun k c hk hn=>by
    by_cases h:k=e
    ·subst h;rw[vd]at hk;cases hk;exact he2
    ·exact K2.get k c hk (by simpa using h)⟩
   have hr2:=hr1.cT K2 (fun j hj ds=>by rw[List.mem_singleton.mp hj,vd];simp)
   have hq2:=K2.get _ _ hq1 (by simpa using hqe)
   have lq:=bF hq1
   obtain⟨ord',a2,aO,e3,h3,F3,h4,K3⟩:=ih ao (ord++n_ E ord) q z' he2 hr2 F2 hq2 hz2 (by omega) hP (by
    have:0 < (n_ E ord).length:=List.length_pos_iff.mpr hd;rw[List.length_append]at Iy ⊢;omega)
   refine⟨ord',a2,aO,?_,h3,F3,h4,(K1.trans WA).trans K3⟩
   have r1:D9 RK [oR e,oR q,oR z] Ω=.nx [oR e,oR q,oR z'] ao:=by
    unfold D9;rw[ai,cI,ft (x:=.ref q) (ak:=Ω) (by rfl) hL]
    have:(aa (U 2) af:AM) [oR e,oR q,oR z] Ω=.ok [.ref z] Ω:=rfl;rw[this,aq,hx,cC,aB];simp[e2]
   simp only[eS,e',dc,ht,dq]
   show(match D9 RK [oR e,oR q,oR z] Ω with | .nx cz ak=>eS (U 2) (D9 RK) m cz ak | .ct cz ak=>eS (U 2) (D9 RK) m cz ak | .bk cz ak=>.nx cz ak | r=>r)=_
   rw[r1];exact e3
def AB(EF:ba):Prop:=∀ (Ω:aG) (e:Nat) (kvs:List (Key×D)) (E:f7) (P:Nat->Prop),cA Ω e kvs->aL P Ω kvs E->Gd E ->
 ∃ ord z ak,EF [.ref e] Ω=.ok (.ref z) ak/\ak[z]?=some (.lst (ord.map .str))/\Ef E ord/\(∀ n∈nms E,n∈ord)/\ag [e] Ω ak/\ak[e]?=some (.dF kvs)/\Ω.length<=z
theorem Iz{RK:ba}(hR:AA RK):AB (bN 3 1 (Pq RK)):=by
 intro Ω e kvs E P hd hr G;rw[bD (by rfl)]
 have e0:a_ 3 [D.ref e]=[oR e,none,none]:=rfl;rw[e0];have g1:(Ω++[Cell.lst []])[Ω.length]?=some (.lst (([]:List Str).map .str)):=av;have K1:ag [] Ω (Ω++[Cell.lst []]):=ag.app;have r1:(ax 1 (mN aR af)) [oR e,none,none] Ω=.nx [oR e,oR Ω.length,none] (Ω++[Cell.lst []]):=by simp[aH]
 have hd1:=hd.keep K1 (by simp)
 have hr1:=(hr.lt.keep K1 (by simp))
 have le:=hd.lt;have l1:(Ω++[Cell.lst []]).length=Ω.length + 1:=by simp
 generalize Ω++[Cell.lst []]=ab at *;have hfw:=G.few;obtain⟨z,ao,e2,hz2,K2,he2,lz⟩:=hR ab e Ω.length kvs E [] _ hd1 hr1 g1 (fun n hn=>by have:=G.short n hn;omega) (by omega)
 have hq2:=K2.get _ _ g1 (by simp;omega)
 have hr2:=hr1.cT K2 (fun j hj ds=>by rw[List.mem_singleton.mp hj];exact hd1.nl ds)
 obtain⟨ord,a2,aO,e3,h3,F,h4,K3⟩:=xK hR G fuel ao [] Ω.length z he2 hr2 ⟨List.nodup_nil,by simp,fun i n h=>by simp at h⟩ hq2 hz2 (by omega) (fun h=>by omega) (by unfold fuel;omega)
 refine⟨ord,Ω.length,aO,?_,h3,F,h4,?_,K3.get _ _ he2 (by simp;omega),Nat.le_refl _⟩
 ·unfold Pq
  rw[ai,r1,aB,ai];have r2:(ax 2 (mN (aK RK) (aa (U 0) (aa (U 1) af)))) [oR e,oR Ω.length,none] ab=.nx [oR e,oR Ω.length,oR z] ao:=by simp[e2]
  rw[r2,aB,ai];unfold ji;rw[e3];rfl
 ·refine⟨by have:=K1.len;have:=K2.len;have:=K3.len;omega,fun k c hk hn=>K3.get k c (K2.get k c (K1.get k c hk (by simp)) hn) ?_⟩
  have:=bF hk;simp;omega
def Pr:EM:=(bf (U 0) false (m2 (az .NotIn) (U 0) (U 1)) (aM (U 0)) 0 [1])
def Pt(EF:ba)(rest:SM):SM:=
 (ah (ax 1 (mN (aK EF) (aa (U 0) af)))
 (ah (ax 3 Pr)
 (ah (dG (eY (U 3))
 (ah (bg (ae .non))
 aj)
 aj)
 rest)))
def D_(LO:ba):Prop:=∀ (Ω:aG) (e:Nat) (kvs:List (Key×D)) (E:f7) (P:Nat->Prop),cA Ω e kvs->aL P Ω kvs E->Gd E ->
 ∃ ak,LO [.ref e] Ω=.ok .non ak/\ag [e] Ω ak/\ak[e]?=some (.dF kvs)
theorem ID{EF:ba}(hE:AB EF){rest:SM}:D_ (bN 5 1 (Pt EF rest)):=by
 intro Ω e kvs E P hd hr G;rw[bD (by rfl)]
 have e0:a_ 5 [D.ref e]=[oR e,none,none,none,none]:=rfl;rw[e0];obtain⟨ord,z,ab,e1,hz,F,hall,K1,vd,lz⟩:=hE Ω e kvs E P hd hr G;have hfw:=G.few
 have eG:aM (U 0) [oR e,oR z,none,none,none] ab=.ok (.keys e) ab:=by
  rw[br]
  show srcOf ab (.ref e)=_
  rw[tT (.inr vd),set_same vd]
 have e2:=dk (ρ:=[oR e,oR z,none,none,none]) (Ω:=ab) (ak:=ab) (me:=U 0) (mc:=m2 (az .NotIn) (U 0) (U 1)) (nc:=false) (mi:=aM (U 0)) (cap:=[1]) (src:=.keys e) (ds:=(nms E).map .str) (p:=fun _=>false) (g:=fun d=>d) eG (by rw[n8 vd,hr.keys]) (fun d hd=>by
  obtain⟨n,hn,rfl⟩:=List.mem_map.mp hd
  show cQ (az .NotIn (.str n) (.ref z) ab)=_
  rw[n0 hz,decide_eq_true (hall n hn)];rfl) (fun d _ h=>by cases h) (by simp[nms];omega)
 have e3:Pr [oR e,oR z,none,none,none] ab=.ok (.ref ab.length) (ab++[.lst []]):=by
  have:(((nms E).map D.str).filter (fun _=>false)).map (fun d:D=>d)=[]:=by simp
  rw[this]at e2;exact e2
 refine⟨ab++[.lst []],?_,K1.trans ag.app,dZ vd⟩;have ht:=i7 (Ω:=ab++[Cell.lst []]) (j:=ab.length) (ds:=[]) av;unfold Pt;have r1:(ax 1 (mN (aK EF) (aa (U 0) af))) [oR e,none,none,none,none] Ω=.nx [oR e,oR z,none,none,none] ab:=by simp[e1]
 have r2:(ax 3 Pr) [oR e,oR z,none,none,none] ab=.nx [oR e,oR z,none,oR ab.length,none] (ab++[.lst []]):=by rw[bj,e3];rfl
 rw[ai,r1,aB,ai,r2,aB,ai];simp[ht]
end
noncomputable def dH(ns:List Str)(L:Str->List Str):f7:=ns.map fun n=>(n,L n)
def M8(E:f7)(L:Str->List Str):Prop:=∀ n∈nms E,∃ o,Mg ((bt E n).map L++[bt E n]) o/\L n=n::o
section
variable{Ω ak:aG}{ρ:aU}{e q j:Nat}{kvs:List (Key×D)}{E:f7}{P P':Nat->Prop}{n:Str}{r:List Str}{fp:List Nat}{ord:List Str}{L:Str->List Str}
theorem eI{ns:List Str}:nms (dH ns L)=ns:=by
 unfold nms dH;rw[List.map_map];exact(List.map_congr_left fun x _=>rfl).trans (List.map_id _)
theorem hU{ns:List Str}(h:n∈ns):bt (dH ns L) n=L n:=by
 unfold bt dH
 induction ns with
 | nil=>simp at h
 | cons a ns ih=>
  rw[List.map_cons,List.lookup_cons]
  by_cases z:n=a
  ·subst z;simp
  ·rw[beq_eq_false_iff_ne.mpr z]
   refine ih ?_;rcases List.mem_cons.mp h with q | q
   ·exact absurd q z
   ·exact q
theorem i8{a b:Nat}{xs ys:List D}(h:Ω[a]?=some (.lst xs))(h2:Ω[b]?=some (.lst ys))(hl:xs.length + ys.length<=10000):aP .Add (.ref a) (.ref b) Ω=.ok (.ref Ω.length) (Ω++[.lst (xs++ys)]):=by
 rw[xB,Am,aA h,aA h2,Al,if_pos (aH (by omega))]
 rfl
def T_:EM:=(bf (mN (aQ .list) (aa (m2 aC (U 1) (U 0)) af)) true (ae .non) (aM (U 1)) 0 [0])
def Pu:EM:=(mN aR (aa (mN (aQ .list) (aa (U 1) af)) af))
def Pw:SM:=(ah (bg (m2 (aP .Add) T_ Pu)) aj)
def xM(RB:ba):Prop:=∀ (Ω:aG) (l a:Nat) (ck:List (Key×D)) (Ls:f7) (P:Nat->Prop) (own:List Str),cA Ω l ck->aL P Ω ck Ls->Ω[a]?=some (.lst (own.map .str))->(∀ x∈own,x∈nms Ls)->own.length<=100 ->
 ∃ js k ak,RB [.ref l,.ref a] Ω=.ok (.ref k) ak/\Rw ak k js (own.map (bt Ls)++[own])/\ag [] Ω ak/\Ω.length<=k/\(∀ j∈js,Ω.length<=j)/\k∉js
theorem IE:xM (bN 2 2 Pw):=by
 intro Ω l a ck Ls P own hd hr ha hs hl;rw[bD (by rfl)]
 have e0:a_ 2 [D.ref l,.ref a]=[oR l,oR a]:=rfl;rw[e0]
 have eG:aM (U 1) [oR l,oR a] Ω=.ok (.seq (.ref a)) Ω:=by
  rw[br];exact aY (by rw[aD,aA ha])
 obtain⟨ys,ab,e1,js,rfl,h1,K1,h2⟩:=hG (ρ:=[oR l,oR a]) (me:=mN (aQ .list) (aa (m2 aC (U 1) (U 0)) af)) (mc:=ae .non) (cap:=[0]) (ds:=own.map .str) (fun i acc ao=>∃ js,acc=js.map .ref/\iw ao js ((own.take i).map (bt Ls))/\ag [] Ω ao/\∀ j∈js,Ω.length<=j) eG ⟨[],rfl,.nil,ag.refl,by simp⟩
  (fun i acc ao h=>by
   obtain⟨_,_,_,K,_⟩:=h;rw[cf,aD,aA (K.get _ _ ha (by simp))])
  (fun i d acc ao hdi h=>by
   obtain⟨js,rfl,h1,K,h2⟩:=h;obtain⟨x,hx,rfl⟩:=eW hdi;have hd2:=hd.keep K (by simp)
   obtain⟨j,hv,_,hj⟩:=(hr.keep K (by simp)).at (hs x (List.mem_of_getElem? hx))
   have hix:=gO (n:=x) hd2 hv;have hls:=dB hj;refine⟨.ref ao.length,ao++[.lst ((bt Ls x).map .str)],?_,js++[ao.length],by simp,?_,K.trans ag.app,?_⟩
   ·show((aC (.ref l) (.str x) ao).bind _).bind _=_
    rw[hix,aq]
    show aQ .list [.ref j] ao=_
    exact hls
   ·rw[List.take_succ,hx,List.map_append]
    exact(h1.keep (fp:=[]) ag.app (by simp)).snoc av
   ·intro y hy
    rcases List.mem_append.mp hy with h | h
    ·exact h2 y h
    ·rw[List.mem_singleton.mp h];exact K.len) (by simp;omega)
 rw[List.length_map,List.take_length]at h1;have e1':T_ [oR l,oR a] Ω=.ok (.ref ab.length) (ab++[.lst (js.map .ref)]):=e1;have g2:(ab++[Cell.lst (js.map .ref)])[ab.length]?=some (.lst (js.map .ref)):=av;have K2:ag [] Ω (ab++[Cell.lst (js.map .ref)]):=K1.trans ag.app;have h1':iw (ab++[Cell.lst (js.map .ref)]) js (own.map (bt Ls)):=h1.keep (fp:=[]) ag.app (by simp)
 have l2:(ab++[Cell.lst (js.map .ref)]).length=ab.length + 1:=by simp
 have jl:=h1.lt;have kl:=K1.len;have ln:=h1.len;generalize ab++[Cell.lst (js.map .ref)]=ao at *;have hls:=dB (K2.get _ _ ha (by simp))
 have e3:Pu [oR l,oR a] ao=.ok (.ref (ao.length + 1)) ((ao++[.lst (own.map .str)])++[.lst [.ref ao.length]]):=by
  unfold Pu
  have:(mN (aQ .list) (aa (U 1) af)) [oR l,oR a] ao=.ok (.ref ao.length) (ao++[.lst (own.map .str)]):=by
   show aQ .list [.ref a] ao=_
   exact hls
  rw[cM,aX,this,aq,aZ,aq,aq,cH,if_pos (aH (by simp))]
  simp
 have ka:ag [] ao ((ao++[Cell.lst (own.map .str)])++[Cell.lst [.ref ao.length]]):=ag.app.trans ag.app
 have gb:((ao++[Cell.lst (own.map .str)])++[Cell.lst [.ref ao.length]])[ao.length + 1]?=some (.lst [.ref ao.length]):=by
  have:=av (Ω:=ao++[Cell.lst (own.map .str)]) (c:=.lst [.ref ao.length]) (l:=[]);simpa using this
 have gc:((ao++[Cell.lst (own.map .str)])++[Cell.lst [.ref ao.length]])[ao.length]?=some (.lst (own.map .str)):=dZ av;have l3:((ao++[Cell.lst (own.map .str)])++[Cell.lst [.ref ao.length]]).length=ao.length + 2:=by simp
 generalize (ao++[Cell.lst (own.map .str)])++[Cell.lst [.ref ao.length]]=aO at *;have g3:=ka.get _ _ g2 (by simp)
 have h13:=h1'.keep ka (by simp)
 have hc:=i8 g3 gb (by simp at ln ⊢;omega)
 refine⟨js++[ao.length],aO.length,aO++[.lst (js.map .ref++[.ref ao.length])],?_,⟨?_,?_⟩,(K2.trans ka).trans ag.app,by omega,?_,?_⟩
 ·unfold Pw
  rw[ai,de,dg,e1',aq,e3,aq,hc];rfl
 ·have:=av (Ω:=aO) (c:=.lst (js.map .ref++[.ref ao.length])) (l:=[])
  simpa using this
 ·exact(h13.snoc gc).keep (fp:=[]) ag.app (by simp)
 ·intro y hy
  rcases List.mem_append.mp hy with h | h
  ·exact h2 y h
  ·rw[List.mem_singleton.mp h];omega
 ·intro h
  rcases List.mem_append.mp h with h | h
  ·have:=jl _ h;omega
  ·have:=List.mem_singleton.mp h;omega
theorem AE{kvs:List (Key×D)}{k:Key}{v:D}(h:k∉kvs.map (·.1)):dR kvs k v=kvs++[(k,v)]:=by
 unfold dR;rw[if_neg];intro z;obtain⟨kv,h1,h2⟩:=List.any_eq_true.mp z;exact h (List.mem_map.mpr ⟨kv,h1,of_decide_eq_true h2⟩)
theorem jr:∀ (ps acc:List (Key×D)),((acc++ps).map (·.1)).Nodup->ps.foldl (fun a p=>dR a p.1 p.2) acc=acc++ps
 | [],acc,_=>by simp
 | p::ps,acc,h=>by
  have h1:p.1∉acc.map (·.1):=by
   rw[List.map_append,List.map_cons]at h;have:=(List.nodup_append.mp h).2.2;exact fun z=>this _ z _ (by simp) rfl
  rw[List.foldl_cons,AE h1,jr ps _ (by simpa using h)]
  simp
theorem xN{ns:List Str}{f:Str->D}(h:∀ n∈ns,∃ j,f n=.ref j/\P j/\Ω[j]?=some (.lst ((L n).map .str))):aL P Ω (ns.map fun n=>(.inr n,f n)) (dH ns L):=by
 unfold aL dH
 induction ns with
 | nil=>exact .nil
 | cons a ns ih=>exact .cons ⟨rfl,h a (by simp)⟩ (ih fun n hn=>h n (by simp[hn]))
theorem rN{me:EM}{mi:IM}{cap:List Nat}{src:Src}{ns:List Str}{f:Str->D}(hi:mi ρ Ω=.ok src Ω)(hs:eR src Ω=some (ns.map .str))(he:∀ n∈ns,me ([oS n]++dS cap ρ) Ω=.ok (.tup [.str n,f n]) Ω)(hl:ns.length<=1000)(hn:ns.Nodup) :
  ∃ q ak,mN ff (aa (bf me true (ae .non) mi 0 cap) af) ρ Ω=.ok (.ref q) ak/\ak[q]?=some (.dK (ns.map fun n=>(.inr n,f n)))/\ag [] Ω ak/\Ω.length<=q:=by
 have e:=dk (ρ:=ρ) (Ω:=Ω) (ak:=Ω) (me:=me) (mc:=ae .non) (nc:=true) (mi:=mi) (cap:=cap) (src:=src) (ds:=ns.map .str) (p:=fun _=>true) (g:=fun d=>match d with | .str n=>.tup [.str n,f n] | d=>d) hi hs (fun d _=>rfl) (fun d hd _=>by
  obtain⟨x,hx',rfl⟩:=List.mem_map.mp hd;exact he x hx') (by simp;omega)
 have e2:((ns.map D.str).filter fun _=>true).map (fun d=>match d with | .str n=>D.tup [.str n,f n] | d=>d)=ns.map fun n=>.tup [.str n,f n]:=by
  rw[List.filter_eq_self.mpr (fun _ _=>rfl),List.map_map]
  rfl
 rw[e2]at e;have g1:(Ω++[Cell.lst (ns.map fun n=>.tup [.str n,f n])])[Ω.length]?=some (.lst (ns.map fun n=>.tup [.str n,f n])):=av
 have K1:ag [] Ω (Ω++[Cell.lst (ns.map fun n=>.tup [.str n,f n])]):=ag.app
 generalize Ω++[Cell.lst (ns.map fun n=>.tup [.str n,f n])]=ab at *
 have hp:bB kR (ns.map fun n=>D.tup [.str n,f n])=some (ns.map fun n=>(.inr n,f n)):=jq (f:=kR) (g:=fun n=>D.tup [.str n,f n]) (h:=fun n=>(.inr n,f n)) (fun n=>rfl) ns
 have hf:=jr (ns.map fun n=>((.inr n:Key),f n)) [] (by
  rw[List.nil_append,List.map_map];have:(ns.map ((fun p:Key×D=>p.1) ∘ fun n=>((.inr n:Key),f n)))=ns.map Sum.inr:=rfl
  rw[this];exact List.Pairwise.map _ (fun a b hab z=>hab (by cases z;rfl)) hn)
 rw[List.nil_append]at hf;refine⟨ab.length,ab++[.dK (ns.map fun n=>(.inr n,f n))],?_,av,K1.trans ag.app,K1.len⟩
 rw[cM,aX,e,aq,aZ,aq,aq]
 show gS (gH [.ref Ω.length] ab) _=_
 simp only[gH,aA g1,hp,hf];rfl
def Ua:EM:=(mN (aQ .all) (aa (bf (m2 (az .In) (U 0) (U 1)) true (ae .non) (aM (m2 aC (U 0) (U 4))) 0 [2]) af))
def M9(MG RB:ba):EM:=(m2 (aP .Add) (mN aR (aa (U 4) af)) (mN (aK MG) (aa (mN (aK RB) (aa (U 2) (aa (m2 aC (U 0) (U 4)) af))) af)))
def M_(MG RB:ba):SM:=(ah (dG Ua
 (ah (ah (ej (U 2) (U 4) (M9 MG RB))
 aj)
 aj)
 aj)
 aj)
def Na:SM:=(ah (dG (m2 (az .In) (U 4) (U 3))
 (ah bI
 aj)
 aj)
 aj)
def Ub:EM:=(mN ff (aa (bf (mN iQ (aa (U 0) (aa (m2 aC (U 1) (U 0)) af))) true (ae .non) (aM (U 0)) 0 [2]) af))
def Px(LO EF MG RB:ba):SM:=
 (ah (ax 1 (mN (aK LO) (aa (U 0) af)))
 (ah (dG (m2 (az .IsNot) (U 1) (ae .non))
 (ah bI
 aj)
 aj)
 (ah (ax 2 bZ)
 (ah (ax 3 bZ)
 (ah (cF (bV 4) (aM (mN (aK EF) (aa (U 0) af)))
 (M_ MG RB))
 (ah (cF (bV 4) (aM (U 0))
 Na)
 (ah (bg Ub)
 aj)))))))
theorem rO{k:Nat}{d:D}(h:Ω[k]?=some (.dK kvs))(hl:kvs.length<=1000):jD (.ref k) (.str n) d Ω=some (Ω.set k (.dK (dR kvs (.inr n) d))):=by
 simp only[jD,h,nB];rw[if_pos (aH (by omega))]
theorem Ea{MG RB:ba}(hM:rK MG)(hB:xM RB){l:Nat}{ck:List (Key×D)}{pre:List Str}{a1 a3 a5:Option D}{o:List Str}(he:Ω[e]?=some (.dF kvs))(hr:aL P Ω kvs E)(hl:Ω[l]?=some (.dK ck))(hrl:aL P' Ω ck (dH pre L))(hn:n∈nms E)(hpn:n∉pre)
  (hsub:∀ x∈bt E n,x∈pre) (hM':Mg ((bt E n).map L++[bt E n]) o) (hL:L n=n::o) (hrow:(bt E n).length<=100) (hpre:pre.length<=100) (ho:o.length<=900) (hP':∀ j,Ω.length<=j->P' j) :
  ∃ pY ak,M_ MG RB [oR e,a1,oR l,a3,oS n,a5] Ω=.nx [oR e,a1,oR l,a3,oS n,a5] ak/\ak[l]?=some (.dK pY)/\aL P' ak pY (dH (pre++[n]) L)/\ag [l] Ω ak:=by
 obtain⟨a,hv,_,Py⟩:=hr.at hn;have hix:=gO (n:=n) (.inr he) hv
 obtain⟨ab,e1,K1⟩:=rL (ρ:=[oR e,a1,oR l,a3,oS n,a5]) (me:=m2 (az .In) (U 0) (U 1)) (mi:=aM (m2 aC (U 0) (U 4))) (cap:=[2]) (p:=fun x=>true) Py (by
  rw[br]
  show(aC (.ref e) (.str n) Ω).bind _=_
  rw[hix,aq];exact aY (by rw[aD,aA Py])) (fun x hx=>by
  show az .In (.str x) (.ref l) Ω=_
  rw[D6 (.inl hl),hrl.is,eI,decide_eq_true (hsub x hx)]) (by omega)
 have e1:Ua [oR e,a1,oR l,a3,oS n,a5] Ω=.ok (.bl true) ab:=by
  have:((bt E n).all fun _=>true)=true:=by simp
  rw[this]at e1;exact e1
 have g2:(ab++[Cell.lst [.str n]])[ab.length]?=some (.lst [.str n]):=av;have K2:ag [] Ω (ab++[Cell.lst [.str n]]):=K1.trans ag.app
 have hv1:(mN aR (aa (U 4) af)) [oR e,a1,oR l,a3,oS n,a5] ab=.ok (.ref ab.length) (ab++[Cell.lst [.str n]]):=by
  show aR [.str n] ab=_
  rw[cH,if_pos (aH (by simp))]
 generalize ab++[Cell.lst [.str n]]=ao at *;have hl2:=K2.get _ _ hl (by simp)
 have Pz:=hrl.keep K2 (by simp)
 have ha2:=K2.get _ _ Py (by simp)
 have PC:=gO (n:=n) (.inr (K2.get _ _ he (by simp))) hv
 obtain⟨js,k,aO,e3,R3,K3,h3,_,_⟩:=hB ao l a ck _ _ _ (.inl hl2) Pz ha2 (by rw[eI];exact hsub) hrow
 have hmap:(bt E n).map (bt (dH pre L))=(bt E n).map L:=List.map_congr_left fun x hx=>hU (hsub x hx)
 rw[hmap]at R3;obtain⟨q,bR,e4,AF,lq,K4⟩:=hM aO k js _ o R3 hM' (by simp;omega) ho
 have PD:=i8 (K4.get _ _ (K3.get _ _ g2 (by simp)) (by simp)) AF (by simp;omega)
 have K5:ag [] Ω (bR++[Cell.lst ([.str n]++o.map .str)]):=((K2.trans K3).trans K4).trans ag.app;have g5:(bR++[Cell.lst ([.str n]++o.map .str)])[bR.length]?=some (.lst ((L n).map .str)):=by rw[hL];exact av
 have l4:Ω.length<=bR.length:=((K2.trans K3).trans K4).len
 have e5:M9 MG RB [oR e,a1,oR l,a3,oS n,a5] ab=.ok (.ref bR.length) (bR++[Cell.lst ([.str n]++o.map .str)]):=by
  unfold M9;rw[dg,hv1,aq]
  have:(mN (aK MG) (aa (mN (aK RB) (aa (U 2) (aa (m2 aC (U 0) (U 4)) af))) af)) [oR e,a1,oR l,a3,oS n,a5] ao=.ok (.ref q) bR:=by
   have h1:(aa (U 2) (aa (m2 aC (U 0) (U 4)) af):AM) [oR e,a1,oR l,a3,oS n,a5] ao=.ok [.ref l,.ref a] ao:=by
    show(((aC (.ref e) (.str n) ao).bind _).bind _)=_
    rw[PC];rfl
   rw[cM,aX,cM,h1,aq,fK,e3,lr,aq,aZ,aq,aq,fK,e4,lr]
  rw[this,aq,PD]
 generalize bR++[Cell.lst ([.str n]++o.map .str)]=cg at *;have PF:=K5.get _ _ hl (by simp)
 have PH:=hrl.keep K5 (by simp)
 have hlen:=hrl.len;have hkl:ck.length<=1000:=by rw[← hlen];simp[dH];omega
 have hdp:=rO (n:=n) (d:=.ref bR.length) PF hkl;have K6:ag [l] cg (cg.set l (.dK (dR ck (.inr n) (.ref bR.length)))):=ag.set (by simp)
 refine⟨dR ck (.inr n) (.ref bR.length),cg.set l (.dK (dR ck (.inr n) (.ref bR.length))),?_,bh PF,?_,(eV.up K5).trans K6⟩
 ·unfold M_
  rw[ai,cZ,e1,dc,bL,dq,cC,if_pos rfl,ai,ai]
  have:ej (U 2) (U 4) (M9 MG RB) [oR e,a1,oR l,a3,oS n,a5] ab=.nx [oR e,a1,oR l,a3,oS n,a5] (cg.set l (.dK (dR ck (.inr n) (.ref bR.length)))):=by
   unfold ej;rw[e5]
   show(match jD (.ref l) (.str n) (.ref bR.length) cg with | some ak=>gM.nx _ ak | none=>.bad)=_
   rw[hdp]
  rw[this];rfl
 ·have:=PH.put (n:=n) (r:=L n) (by rw[eI];exact hpn) (hP' _ l4) g5
  have h6:=this.cT K6 (fun j hj ds=>by rw[List.mem_singleton.mp hj,PF];simp)
  have:dH pre L++[(n,L n)]=dH (pre++[n]) L:=by simp[dH]
  rw[this]at h6;exact h6
def Eb(LI:ba):Prop:=∀ (Ω:aG) (e:Nat) (kvs:List (Key×D)) (E:f7) (P:Nat->Prop) (L:Str->List Str),cA Ω e kvs->aL P Ω kvs E->Gd E->M8 E L->(∀ n∈nms E,(L n).length<=900) ->
 ∃ l ck ak,LI [.ref e] Ω=.ok (.ref l) ak/\ak[l]?=some (.dK ck)/\aL (fun j=>Ω.length<=j) ak ck (dH (nms E) L)/\ag [e] Ω ak/\ak[e]?=some (.dF kvs)/\Ω.length<=l
theorem IF{LO EF MG RB:ba}(hO:D_ LO)(hE:AB EF)(hM:rK MG)(hB:xM RB):Eb (bN 6 1 (Px LO EF MG RB)):=by
 intro Ω e kvs E P L hd hr G hL IG;rw[bD (by rfl)]
 have e0:a_ 6 [D.ref e]=[oR e,none,none,none,none,none]:=rfl;rw[e0];have hfw:=G.few;have Uc:(nms E).length=E.length:=by simp[nms]
 obtain⟨ab,e1,K1,vd⟩:=hO Ω e kvs E P hd hr G;have hr1:=hr.cT K1 (fun j hj ds=>by rw[List.mem_singleton.mp hj];exact hd.nl ds)
 have le:=hd.lt;have K2:ag [] ab (ab++[Cell.dK []]):=ag.app;have g2:(ab++[Cell.dK []])[ab.length]?=some (.dK []):=av;have l2:(ab++[Cell.dK []]).length=ab.length + 1:=by simp
 have r2:ax 2 bZ [oR e,some .non,none,none,none,none] ab=.nx [oR e,some .non,oR ab.length,none,none,none] (ab++[Cell.dK []]):=rfl;generalize ab++[Cell.dK []]=ao at *;have K3:ag [] ao (ao++[Cell.dK []]):=ag.app;have g3:(ao++[Cell.dK []])[ao.length]?=some (.dK []):=av;have l3:(ao++[Cell.dK []]).length=ao.length + 1:=by simp
 have r3:ax 3 bZ [oR e,some .non,oR ab.length,none,none,none] ao=.nx [oR e,some .non,oR ab.length,oR ao.length,none,none] (ao++[Cell.dK []]):=rfl;generalize ao++[Cell.dK []]=aO at *;have pZ:=K2.trans K3;have PJ:=pZ.get _ _ vd (by simp)
 have Nb:=hr1.keep pZ (by simp)
 have WB:=K3.get _ _ g2 (by simp)
 obtain⟨ord,z,bR,e4,Ud,F,hall,K4,PK,lz⟩:=hE aO e kvs E P (.inr PJ) Nb G;have hne:ab.length≠e:=by have:=K1.len;omega
 have PL:ao.length≠e:=by have:=K1.len;omega
 have Ue:=K4.get _ _ WB (by simpa using hne)
 have WC:=K4.get _ _ g3 (by simpa using PL)
 have WD:=Nb.cT K4 (fun j hj ds=>by rw[List.mem_singleton.mp hj,PJ];simp)
 have hfl:ord.length<=E.length:=by
  have:=og F.nd F.sub;omega
 have WE:=K4.len;have WG:=K1.len
 have WH:ag [] aO bR:=⟨K4.len,fun k c hk _=>by
  by_cases h:k=e
  ·subst h;rw[PJ]at hk;cases hk;exact PK
  ·exact K4.get k c hk (by simpa using h)⟩
 have PM:aM (mN (aK EF) (aa (U 0) af)) [oR e,some .non,oR ab.length,oR ao.length,none,none] aO=.ok (.seq (.ref z)) bR:=by
  rw[br];have:(mN (aK EF) (aa (U 0) af)) [oR e,some .non,oR ab.length,oR ao.length,none,none] aO=.ok (.ref z) bR:=by simp[e4]
  rw[this,aq];exact aY (by rw[aD,aA Ud])
 have loop:∃ ck a4 cg,fG (bV 4) (.seq (.ref z)) (M_ MG RB) fuel 0 [oR e,some .non,oR ab.length,oR ao.length,none,none] bR=.nx [oR e,some .non,oR ab.length,oR ao.length,a4,none] cg/\cg[ab.length]?=some (.dK ck)/\aL (fun j=>bR.length<=j) cg ck (dH ord L)/\ag [ab.length] bR cg:=by
  have WI:∀ Ec,ag [ab.length] bR Ec->Ec[z]?=some (.lst (ord.map .str)):=fun Ec K=>K.get _ _ Ud (by simp;omega)
  refine cp (R:=fun r=>∃ ck a4 cg,r=.nx [oR e,some .non,oR ab.length,oR ao.length,a4,none] cg/\cg[ab.length]?=some (.dK ck)/\aL (fun j=>bR.length<=j) cg ck (dH ord L)/\ag [ab.length] bR cg) (ds:=ord.map .str)
   (fun i ρ cg=>∃ ck a4,ρ=[oR e,some .non,oR ab.length,oR ao.length,a4,none]/\cg[ab.length]?=some (.dK ck)/\aL (fun j=>bR.length<=j) cg ck (dH (ord.take i) L)/\ag [ab.length] bR cg) ?_ ?_ ?_ fuel 0 _ _ (by unfold fuel;simp;omega) (Nat.zero_le _) ⟨[],none,rfl,Ue,.nil,ag.refl⟩
  ·rintro i ρ cg ⟨_,_,_,_,_,K⟩
   rw[cf,aD,aA (WI _ K)]
  ·rintro i d ρ cg hdi ⟨ck,a4,rfl,h1,h2,K⟩
   obtain⟨n,hn,rfl⟩:=eW hdi;refine⟨[oR e,some .non,oR ab.length,oR ao.length,oS n,none],rfl,?_⟩;have p6:=F.sub n (List.mem_of_getElem? hn);obtain⟨o,WJ,B0⟩:=hL n p6;have ho:o.length<=900:=by have:=IG n p6;rw[B0]at this;simp at this;omega
   have AG:=K.get _ _ PK (by simpa using Ne.symm hne)
   have PN:=WD.cT K (fun j hj ds=>by rw[List.mem_singleton.mp hj,Ue];simp)
   have hni:n∉ord.take i:=by
    intro hm;obtain⟨i',hi'⟩:=List.mem_iff_getElem?.mp hm;have hlt:=(List.getElem?_eq_some_iff.mp hi').1;rw[List.length_take]at hlt;rw[List.getElem?_take_of_lt (by omega)]at hi'
    have:=(List.getElem?_inj (by omega) F.nd).mp (hi'.trans hn.symm)
    omega
   obtain⟨pY,eo,e6,h6,h7,K6⟩:=Ea (P':=fun j=>bR.length<=j) hM hB (n:=n) (a1:=some .non) (a3:=oR ao.length) (a5:=none) AG PN h1 h2 p6 hni (F.pre i n hn) WJ B0 (G.short n p6) (by rw[List.length_take];omega) ho (fun j hj=>Nat.le_trans K.len hj)
   rw[e6];refine⟨pY,oS n,rfl,h6,?_,K.trans K6⟩;rw[List.take_succ,hn];exact h7
  ·rintro ρ cg ⟨ck,a4,rfl,h1,h2,K⟩
   rw[List.length_map,List.take_length]at h2;exact⟨ck,a4,cg,rfl,h1,h2,K⟩
 obtain⟨ck,a4,cg,e5,h5,PN,K5⟩:=loop;have AG:=K5.get _ _ PK (by simpa using Ne.symm hne)
 have WK:=K5.get _ _ WC (by simp;omega)
 have PQ:aM (U 0) [oR e,some .non,oR ab.length,oR ao.length,a4,none] cg=.ok (.keys e) cg:=by
  rw[br]
  show srcOf cg (.ref e)=_
  rw[tT (.inr AG),set_same AG]
 have IH:∃ lR,fG (bV 4) (.keys e) Na fuel 0 [oR e,some .non,oR ab.length,oR ao.length,a4,none] cg=.nx [oR e,some .non,oR ab.length,oR ao.length,lR,none] cg:=by
  refine cp (R:=fun r=>∃ lR,r=.nx [oR e,some .non,oR ab.length,oR ao.length,lR,none] cg) (ds:=(nms E).map .str)
   (fun i ρ eo=>eo=cg/\∃ lR,ρ=[oR e,some .non,oR ab.length,oR ao.length,lR,none]) ?_ ?_ ?_ fuel 0 _ _ (by unfold fuel;simp;omega) (Nat.zero_le _) ⟨rfl,a4,rfl⟩
  ·rintro i ρ eo ⟨rfl,_⟩
   rw[n8 AG,hr.keys]
  ·rintro i d ρ eo hdi ⟨rfl,lR,rfl⟩
   obtain⟨n,hn,rfl⟩:=eW hdi;refine⟨[oR e,some .non,oR ab.length,oR ao.length,oS n,none],rfl,?_⟩;have hin:=D6 (n:=n) (.inl WK)
   have:Na [oR e,some .non,oR ab.length,oR ao.length,oS n,none] eo=.nx [oR e,some .non,oR ab.length,oR ao.length,oS n,none] eo:=by
    unfold Na;rw[ai,cZ]
    show sq (bU (cQ (az .In (.str n) (.ref ao.length) eo)) _) _=_
    rw[hin];rfl
   rw[this];exact⟨rfl,_,rfl⟩
  ·rintro ρ eo ⟨rfl,lR,rfl⟩
   exact⟨lR,rfl⟩
 obtain⟨lR,e6⟩:=IH
 have hat:∀ n∈nms E,∃ j,(cq ck (.inr n)).getD .non=.ref j/\bR.length<=j/\cg[j]?=some (.lst ((L n).map .str))/\cq ck (.inr n)=oR j:=fun n hn=>by
  obtain⟨j,h1,h2,h3⟩:=PN.at (n:=n) (by rw[eI];exact hall n hn)
  rw[hU (hall n hn)]at h3;exact⟨j,by rw[h1];rfl,h2,h3,h1⟩
 have PR:aM (U 0) [oR e,some .non,oR ab.length,oR ao.length,lR,none] cg=.ok (.keys e) cg:=by
  rw[br]
  show srcOf cg (.ref e)=_
  rw[tT (.inr AG),set_same AG]
 obtain⟨q,fX,e7,g7,K7,lq⟩:=rN (ρ:=[oR e,some .non,oR ab.length,oR ao.length,lR,none]) (me:=mN iQ (aa (U 0) (aa (m2 aC (U 1) (U 0)) af))) (cap:=[2]) (ns:=nms E) (f:=fun n=>(cq ck (.inr n)).getD .non) PR (by rw[n8 AG,hr.keys]) (fun n hn=>by
  obtain⟨j,h1,_,_,h4⟩:=hat n hn;have hix:=gO (n:=n) (.inl h5) h4
  show(((aC (.ref ab.length) (.str n) cg).bind _).bind _).bind _=_
  rw[hix]
  show iQ [.str n,.ref j] cg=_
  rw[j7,if_pos (aH (by simp)),h1]) (by omega) G.nd
 have II:ag [] ab cg:=⟨by have:=pZ.len;have:=K5.len;omega,fun k c hk _=>K5.get k c (WH.get k c (pZ.get k c hk (by simp)) (by simp)) (by have:=bF hk;simp;omega)⟩
 refine⟨q,_,fX,?_,g7,?_,K1.trans (eV.up (II.trans K7)),K7.get _ _ AG (by simp),by have:=II.len;omega⟩
 ·unfold Px
  have r1:(ax 1 (mN (aK LO) (aa (U 0) af))) [oR e,none,none,none,none,none] Ω=.nx [oR e,some .non,none,none,none,none] ab:=by simp[e1]
  have WL:(dG (m2 (az .IsNot) (U 1) (ae .non)) (ah bI aj) aj) [oR e,some .non,none,none,none,none] ab=.nx [oR e,some .non,none,none,none,none] ab:=by simp
  rw[ai,r1,aB,ai,WL,aB,ai,r2,aB,ai,r3,aB,ai,df,PM,cC,e5,aB,ai,df,PQ,cC,e6,aB,ai,de];have WM:Ub [oR e,some .non,oR ab.length,oR ao.length,lR,none] cg=.ok (.ref q) fX:=e7;rw[WM];rfl
 ·refine xN fun n hn => ?_
  obtain⟨j,h1,h2,h3,_⟩:=hat n hn;exact⟨j,h1,by have:=pZ.len;omega,K7.get _ _ h3 (by simp)⟩
end
def AH(x:Str):Prop:=1<=x.length/\x.length<=8/\∀ c∈x.cps.toList,97<=c/\c<=122
section
variable{Ω ak:aG}{ρ:aU}{e q j h:Nat}{kvs:List (Key×D)}{E:f7}{P P':Nat->Prop}{n:Str}{r:List Str}{fp:List Nat}{L:Str->List Str}
theorem Ed:∀ c,97<=c->c<=122->sr (bE c) "abcdefghijklmnopqrstuvwxyz"=true:=by
 have:∀ i,i < 26->sr (bE (97 + i)) "abcdefghijklmnopqrstuvwxyz"=true:=by decide +kernel
 intro c h1 h2;have:=this (c - 97) (by omega)
 rwa[show 97 + (c - 97)=c by omega]at this
def inC:EM:=(bf (m2 (az .In) (U 0) (ae (.str "abcdefghijklmnopqrstuvwxyz"))) true (ae .non) (aM (U 0)) 0 [])
def PU:SM:=
 (ah (dG (eY (m1 (fm .str) (U 0)))
 (ah (bg (ae (.bl false)))
 aj)
 aj)
 (ah (bg (eQ (jM .LtE .LtE (ae (.int 1)) (mN (aQ .len) (aa (U 0) af)) (ae (.int 8))) (mN (aQ .all) (aa inC af))))
 aj))
def Ee(IS:ba):Prop:=∀ (Ω:aG) (x:Str),AH x->∃ ak,IS [.str x] Ω=.ok (.bl true) ak/\ag [] Ω ak
theorem IJ:Ee (bN 1 1 PU):=by
 intro Ω x hx;obtain⟨h1,h2,h3⟩:=hx;rw[bD (by rfl)]
 have e0:a_ 1 [D.str x]=[oS x]:=rfl;rw[e0];have eG:aM (U 0) [oS x] Ω=.ok (.chars x) Ω:=rfl
 have e1:=dk (ρ:=[oS x]) (Ω:=Ω) (ak:=Ω) (me:=m2 (az .In) (U 0) (ae (.str "abcdefghijklmnopqrstuvwxyz"))) (mc:=ae .non) (nc:=true) (mi:=aM (U 0)) (cap:=[]) (src:=.chars x) (ds:=x.cps.toList.map fun c=>.str (bE c)) (p:=fun _=>true) (g:=fun d=>.bl true) eG rfl (fun d _=>rfl) (fun d hd _=>by
  obtain⟨c,hc,rfl⟩:=List.mem_map.mp hd;have:=Ed c (h3 c hc).1 (h3 c hc).2
  show az .In (.str (bE c)) (.str _) Ω=_
  simp[dI,inD,this]) (by
  have:x.cps.toList.length=x.length:=by simp[Str.length]
  simp only[List.length_map];omega)
 have e2:((x.cps.toList.map fun c=>D.str (bE c)).filter fun _=>true).map (fun _=>D.bl true)=(x.cps.toList.map fun _=>true).map .bl:=by
  rw[List.filter_eq_self.mpr (fun _ _=>rfl),List.map_map,List.map_map]
  rfl
 rw[e2]at e1;have e1:inC [oS x] Ω=.ok (.ref Ω.length) (Ω++[.lst ((x.cps.toList.map fun _=>true).map .bl)]):=e1
 have ha:=oa (Ω:=Ω++[.lst ((x.cps.toList.map fun _=>true).map .bl)]) (q:=Ω.length) av
 refine⟨Ω++[.lst ((x.cps.toList.map fun _=>true).map .bl)],?_,ag.app⟩
 have e3:(mN (aQ .all) (aa inC af)) [oS x] Ω=.ok (.bl true) (Ω++[.lst ((x.cps.toList.map fun _=>true).map .bl)]):=by
  rw[cM,aX,e1,aq,aZ,aq,aq,ha];simp
 have e4:(jM .LtE .LtE (ae (.int 1)) (mN (aQ .len) (aa (U 0) af)) (ae (.int 8))) [oS x] Ω=.ok (.bl true) Ω:=by
  have hl:aQ .len [.str x] Ω=.ok (.int x.length) Ω:=by
   show gS (nK [.str x] Ω) (gS (q_ [.str x] Ω) (lN .len [.str x] Ω))=_
   show lN .len [.str x] Ω=_
   unfold lN;simp[aH (n:=x.length) (by omega)]
  have c1:cR .LtE (.int 1) (.int x.length) Ω=.ok (.bl true) Ω:=by
   have:decide ((1:Int)<=x.length)=true:=by simp;omega
   simp[dI,this]
  have c2:cR .LtE (.int x.length) (.int 8) Ω=.ok (.bl true) Ω:=by
   have:decide ((x.length:Int)<=8)=true:=by simp;omega
   simp[dI,this]
  unfold jM;have:(mN (aQ .len) (aa (U 0) af)) [oS x] Ω=.ok (.int x.length) Ω:=hl;rw[jY,aq,this,aq,c1,dc,bL,dq,aq,if_pos rfl,jY,aq,c2]
 have e5:(dG (eY (m1 (fm .str) (U 0))) (ah (bg (ae (.bl false))) aj) aj) [oS x] Ω=.nx [oS x] Ω:=by rfl
 unfold PU;rw[ai,e5,aB,ai,de,iZ,e4,aq,bL,tH,e3];rfl
def bX(P:Nat->Prop)(Ω:aG)(h:Nat)(E:f7)(L:Str->List Str):Prop:=
 ∃ e l bW ck,Ω[h]?=some (.ins "House" [("elders",.ref e),("lines",.ref l)])/\cA Ω e bW/\aL P Ω bW E/\cA Ω l ck/\aL P Ω ck (dH (nms E) L)
theorem bX.keep(H:bX P Ω h E L)(K:ag [] Ω ak):bX P ak h E L:=by
 obtain⟨e,l,bW,ck,h1,h2,h3,h4,h5⟩:=H;exact⟨e,l,bW,ck,K.get _ _ h1 (by simp),h2.keep K (by simp),h3.keep K (by simp),h4.keep K (by simp),h5.keep K (by simp)⟩
theorem bX.imp(H:bX P Ω h E L)(hp:∀ j,P j->P' j):bX P' Ω h E L:=by
 obtain⟨e,l,bW,ck,h1,h2,h3,h4,h5⟩:=H;exact⟨e,l,bW,ck,h1,h2,h3.imp hp,h4,h5.imp hp⟩
theorem bX.lt(H:bX P Ω h E L):bX (fun j=>P j/\j < Ω.length) Ω h E L:=by
 obtain⟨e,l,bW,ck,h1,h2,h3,h4,h5⟩:=H;exact⟨e,l,bW,ck,h1,h2,h3.lt,h4,h5.lt⟩
theorem bX.B1{ds:List D}(H:bX P Ω h E L)(K:ag [q] Ω ak)(hq:Ω[q]?=some (.lst ds))(hp:¬ P q):bX P ak h E L:=by
 obtain⟨e,l,bW,ck,h1,h2,h3,h4,h5⟩:=H;have n1:h≠q:=fun z=>by rw[z,hq]at h1;cases h1
 have n2:e≠q:=fun z=>h2.nl _ (z▸hq)
 have n3:l≠q:=fun z=>h4.nl _ (z▸hq)
 have n4:∀ j∈[q],¬ P j:=fun j hj=>by rw[List.mem_singleton.mp hj];exact hp
 exact⟨e,l,bW,ck,K.get _ _ h1 (by simpa using n1),h2.keep K (by simpa using n2),h3.keep K n4,h4.keep K (by simpa using n3),h5.keep K n4⟩
theorem xO(H:aL P Ω kvs (dH (nms E) L)):kvs.length=E.length:=by
 have:=H.len;simp[dH,nms]at this;omega
def fe:EM:=(m1 (dO ["House"] "elders") (U 0))
def Eg:EM:=(m1 (dO ["House"] "lines") (U 0))
theorem mP{l:Nat}(h1:Ω[h]?=some (.ins "House" [("elders",.ref e),("lines",.ref l)])):dO ["House"] "elders" (.ref h) Ω=.ok (.ref e) Ω:=tP h1 rfl rfl
theorem xP{l:Nat}(h1:Ω[h]?=some (.ins "House" [("elders",.ref e),("lines",.ref l)])):dO ["House"] "lines" (.ref h) Ω=.ok (.ref l) Ω:=tP h1 rfl rfl
def PV:SM:=(ah (bg (mN (aQ .list) (aa fe af))) aj)
def AI(KD:ba):Prop:=∀ (Ω:aG) (h:Nat) (E:f7) (L:Str->List Str) (P:Nat->Prop),bX P Ω h E L->∃ k ak,KD [.ref h] Ω=.ok (.ref k) ak/\ak[k]?=some (.lst ((nms E).map .str))/\ag [] Ω ak/\Ω.length<=k
theorem IK:AI (bN 1 1 PV):=by
 intro Ω h E L P H;obtain⟨e,l,bW,ck,h1,h2,h3,h4,h5⟩:=H;rw[bD (by rfl)]
 have e0:a_ 1 [D.ref h]=[oR h]:=rfl;rw[e0];have hls:=D7 h2;rw[h3.keys]at hls;refine⟨Ω.length,Ω++[.lst ((nms E).map .str)],?_,av,ag.app,Nat.le_refl _⟩
 have:(mN (aQ .list) (aa fe af)) [oR h] Ω=.ok (.ref Ω.length) (Ω++[.lst ((nms E).map .str)]):=by
  show(((dO ["House"] "elders" (.ref h) Ω).bind _).bind _)=_
  rw[mP h1,aq];exact hls
 unfold PV;rw[ai,de,this];rfl
theorem dh{m:Str}{F:ba}{i:Nat}{as:AM}(H:bX P Ω h E L)(hi:ρ[i]?=some (oR h))(hm:([("elders",D.ref 0),("lines",D.ref 0)]:List (Str×D)).lookup m=none):aV "House" m F (U i) as ρ Ω=(as ρ Ω).bind fun xs ao=>lE (F (.ref h::xs) ao):=by
 obtain⟨e,l,bW,ck,h1,h2,h3,h4,h5⟩:=H;refine Ap (by rw[gZ,hi,gY]) h1 ?_
 simp only[List.lookup_cons]at hm ⊢;split at hm
 ·cases hm
 ·split at hm
  ·cases hm
  ·rfl
def PX(KD:ba):SM:=
 (ah (dG (m2 (az .NotIn) (U 1) (aV "House" "kinds" KD (U 0) af))
 (ah bI
 aj)
 aj)
 aj)
def u4(CK:ba):Prop:=∀ (Ω:aG) (h:Nat) (E:f7) (L:Str->List Str) (P:Nat->Prop) (n:Str),bX P Ω h E L->n∈nms E->∃ ak,CK [.ref h,.str n] Ω=.ok .non ak/\ag [] Ω ak
theorem IL{KD:ba}(hK:AI KD):u4 (bN 2 2 (PX KD)):=by
 intro Ω h E L P n H hn;rw[bD (by rfl)]
 have e0:a_ 2 [D.ref h,.str n]=[oR h,oS n]:=rfl;rw[e0];obtain⟨k,ab,e1,g1,K1,_⟩:=hK Ω h E L P H
 have em:aV "House" "kinds" KD (U 0) af [oR h,oS n] Ω=.ok (.ref k) ab:=by
  rw[dh H rfl (by decide),aZ,aq,e1,lr]
 refine⟨ab,?_,K1⟩;have hni:=n0 (w:=n) g1;rw[decide_eq_true hn]at hni;unfold PX;rw[ai,cZ,dg];have:U 1 [oR h,oS n] Ω=.ok (.str n) Ω:=rfl;rw[this,aq,em,aq,hni];rfl
def PY(CK:ba):SM:=(ah (cm (aV "House" "check_kind" CK (U 0) (aa (U 3) af)))
 (ah (dG (m2 (az .In) (U 3) (cj (U 1) true (ae .non) false (U 2)))
 (ah bI
 aj)
 aj)
 aj))
def PZ(CK:ba):SM:=
 (ah (dG (m2 (az .Gt) (mN (aQ .len) (aa (U 1) af)) (ae (.int 5)))
 (ah bI
 aj)
 aj)
 (ah (cF (fF [2,3]) (lO (U 1))
 (PY CK))
 aj))
def Eh(CE:ba):Prop:=∀ (Ω:aG) (h a:Nat) (E:f7) (L:Str->List Str) (P:Nat->Prop) (r:List Str),bX P Ω h E L->Ω[a]?=some (.lst (r.map .str))->r.Nodup->r.length<=5->(∀ x∈r,x∈nms E)->∃ ak,CE [.ref h,.ref a] Ω=.ok .non ak/\ag [] Ω ak
theorem Ei{CK:ba}(hC:u4 CK){a i:Nat}{x:Str}(H:bX P Ω h E L)(ha:Ω[a]?=some (.lst (r.map .str)))(hx:r[i]?=some x)(hn:r.Nodup)(hs:x∈nms E) :
  ∃ ak,PY CK [oR h,oR a,oI i,oS x] Ω=.nx [oR h,oR a,oI i,oS x] ak/\ag [] Ω ak:=by
 obtain⟨ab,e1,K1⟩:=hC Ω h E L P x H hs
 have em:aV "House" "check_kind" CK (U 0) (aa (U 3) af) [oR h,oR a,oI i,oS x] Ω=.ok .non ab:=by
  rw[dh H rfl (by decide)]
  show lE (CK [.ref h,.str x] Ω)=_
  rw[e1];rfl
 have hsl:=n5 (n:=i) (K1.get _ _ ha (by simp))
 have g2:(ab++[Cell.lst ((r.take i).map .str)])[ab.length]?=some (.lst ((r.take i).map .str)):=av;have K2:ag [] Ω (ab++[Cell.lst ((r.take i).map .str)]):=K1.trans ag.app;generalize ab++[Cell.lst ((r.take i).map .str)]=ao at *;have hin:=rG (w:=x) g2
 have hni:x∉r.take i:=by
  intro hm;obtain⟨i',hi'⟩:=List.mem_iff_getElem?.mp hm;have hlt:=(List.getElem?_eq_some_iff.mp hi').1;rw[List.length_take]at hlt;rw[List.getElem?_take_of_lt (by omega)]at hi'
  have:=(List.getElem?_inj (by omega) hn).mp (hi'.trans hx.symm)
  omega
 rw[decide_eq_false hni]at hin;refine⟨ao,?_,K2⟩
 have e3:cj (U 1) true (ae .non) false (U 2) [oR h,oR a,oI i,oS x] ab=.ok (.ref ab.length) ao:=by
  rw[i6];simp[hsl]
 unfold PY;rw[ai,cI,em,cC,aB,ai,cZ,dg];have:U 3 [oR h,oR a,oI i,oS x] ab=.ok (.str x) ab:=rfl;rw[this,aq,e3,aq,hin];rfl
theorem IP{CK:ba}(hC:u4 CK):Eh (bN 4 2 (PZ CK)):=by
 intro Ω h a E L P r H ha hn hl hs;rw[bD (by rfl)]
 have e0:a_ 4 [D.ref h,.ref a]=[oR h,oR a,none,none]:=rfl;rw[e0]
 have r1:(dG (m2 (az .Gt) (mN (aQ .len) (aa (U 1) af)) (ae (.int 5))) (ah bI aj) aj) [oR h,oR a,none,none] Ω=.nx [oR h,oR a,none,none] Ω:=by
  have hll:=i5 ha;rw[List.length_map]at hll;rw[cZ,dg];have:(mN (aQ .len) (aa (U 1) af)) [oR h,oR a,none,none] Ω=.ok (.int r.length) Ω:=hll;rw[this,aq,jY,aq]
  have:az .Gt (.int r.length) (.int 5) Ω=.ok (.bl false) Ω:=by
   simp[dI];omega
  rw[this];rfl
 have eG:lO (U 1) [oR h,oR a,none,none] Ω=.ok (.Mb (.ref a)) Ω:=by
  unfold lO;simp[aA ha]
 unfold PZ;rw[ai,r1,aB,ai,df,eG,cC]
 refine cp (R:=fun r=>∃ ak,kY (sq r _)=.ok .non ak/\ag [] Ω ak) (ds:=c8 0 (r.map .str))
  (fun i ρ ao=>∃ a2 a3,ρ=[oR h,oR a,a2,a3]/\ag [] Ω ao) ?_ ?_ ?_ fuel 0 _ _ (by rw[gQ];unfold fuel;simp;omega) (Nat.zero_le _) ⟨none,none,rfl,ag.refl⟩
 ·rintro i ρ ao ⟨_,_,_,K⟩
  show(eP ao (.ref a)).map (c8 0)=_
  rw[aD,aA (K.get _ _ ha (by simp))];rfl
 ·rintro i d ρ ao hd ⟨a2,a3,rfl,K⟩
  obtain⟨d',hd',rfl⟩:=iL _ 0 i d hd;obtain⟨x,hx,rfl⟩:=eW hd';rw[Nat.zero_add];refine⟨[oR h,oR a,oI i,oS x],rfl,?_⟩;obtain⟨aO,e3,K3⟩:=Ei hC (i:=i) (H.keep K) (K.get _ _ ha (by simp)) hx hn (hs x (List.mem_of_getElem? hx))
  rw[e3];exact⟨_,_,rfl,K.trans K3⟩
 ·rintro ρ ao ⟨a2,a3,rfl,K⟩
  exact⟨ao,rfl,K⟩
def P0(CK:ba):SM:=
 (ah (cm (aV "House" "check_kind" CK (U 0) (aa (U 1) af)))
 (ah (bg (mN (aQ .list) (aa (m2 aC Eg (U 1)) af)))
 aj))
def rP(LN:ba):Prop:=∀ (Ω:aG) (h:Nat) (E:f7) (L:Str->List Str) (P:Nat->Prop) (n:Str),bX P Ω h E L->n∈nms E->∃ k ak,LN [.ref h,.str n] Ω=.ok (.ref k) ak/\ak[k]?=some (.lst ((L n).map .str))/\ag [] Ω ak/\Ω.length<=k
theorem IQ{CK:ba}(hC:u4 CK):rP (bN 2 2 (P0 CK)):=by
 intro Ω h E L P n H hn;rw[bD (by rfl)]
 have e0:a_ 2 [D.ref h,.str n]=[oR h,oS n]:=rfl;rw[e0];obtain⟨ab,e1,K1⟩:=hC Ω h E L P n H hn
 have em:aV "House" "check_kind" CK (U 0) (aa (U 1) af) [oR h,oS n] Ω=.ok .non ab:=by
  rw[dh H rfl (by decide)]
  show lE (CK [.ref h,.str n] Ω)=_
  rw[e1];rfl
 obtain⟨e,l,bW,ck,h1,h2,h3,h4,h5⟩:=H.keep K1;obtain⟨j,hv,_,hj⟩:=h5.at (n:=n) (by rw[eI];exact hn)
 rw[hU hn]at hj;have hls:=dB hj;refine⟨ab.length,ab++[.lst ((L n).map .str)],?_,av,K1.trans ag.app,K1.len⟩
 have:(mN (aQ .list) (aa (m2 aC Eg (U 1)) af)) [oR h,oS n] ab=.ok (.ref ab.length) (ab++[.lst ((L n).map .str)]):=by
  show((((dO ["House"] "lines" (.ref h) ab).bind _).bind _).bind _)=_
  rw[xP h1,aq]
  show(((aC (.ref l) (.str n) ab).bind _).bind _)=_
  rw[gO h4 hv];exact hls
 unfold P0;rw[ai,cI,em,cC,aB,ai,de,this];rfl
def P1(CK RB:ba):SM:=
 (ah (cm (aV "House" "check_kind" CK (U 0) (aa (U 1) af)))
 (ah (bg (mN (aK RB) (aa Eg (aa (m2 aC fe (U 1)) af))))
 aj))
def u5(RO:ba):Prop:=∀ (Ω:aG) (h:Nat) (E:f7) (L:Str->List Str) (P:Nat->Prop) (n:Str),bX P Ω h E L->Gd E->n∈nms E->∃ js k ak,RO [.ref h,.str n] Ω=.ok (.ref k) ak/\Rw ak k js ((bt E n).map L++[bt E n])/\ag [] Ω ak/\Ω.length<=k/\(∀ j∈js,Ω.length<=j)/\k∉js
theorem IT{CK RB:ba}(hC:u4 CK)(hB:xM RB):u5 (bN 2 2 (P1 CK RB)):=by
 intro Ω h E L P n H G hn;rw[bD (by rfl)]
 have e0:a_ 2 [D.ref h,.str n]=[oR h,oS n]:=rfl;rw[e0];obtain⟨ab,e1,K1⟩:=hC Ω h E L P n H hn
 have em:aV "House" "check_kind" CK (U 0) (aa (U 1) af) [oR h,oS n] Ω=.ok .non ab:=by
  rw[dh H rfl (by decide)]
  show lE (CK [.ref h,.str n] Ω)=_
  rw[e1];rfl
 obtain⟨e,l,bW,ck,h1,h2,h3,h4,h5⟩:=H.keep K1;obtain⟨a,hv,_,ha⟩:=h3.at hn;obtain⟨js,k,ao,e2,R2,K2,q1,q2,q3⟩:=hB ab l a ck _ P (bt E n) h4 h5 ha (by rw[eI];exact G.el n hn) (G.short n hn)
 have hmap:(bt E n).map (bt (dH (nms E) L))=(bt E n).map L:=List.map_congr_left fun x hx=>hU (G.el n hn x hx)
 rw[hmap]at R2;have l1:=K1.len;refine⟨js,k,ao,?_,R2,K1.trans K2,by omega,fun j hj=>by have:=q2 j hj;omega,q3⟩
 have:(mN (aK RB) (aa Eg (aa (m2 aC fe (U 1)) af))) [oR h,oS n] ab=.ok (.ref k) ao:=by
  have hf:Eg [oR h,oS n] ab=.ok (.ref l) ab:=xP h1
  have hg:(m2 aC fe (U 1)) [oR h,oS n] ab=.ok (.ref a) ab:=by
   show((dO ["House"] "elders" (.ref h) ab).bind _)=_
   rw[mP h1,aq];exact gO h2 hv
  rw[cM,aX,hf,aq,aX,hg,aq,aZ,aq,aq,aq,fK,e2,lr]
 unfold P1;rw[ai,cI,em,cC,aB,ai,de,this];rfl
end
section
variable{Ω ak:aG}{ρ:aU}{e q j h:Nat}{kvs:List (Key×D)}{E:f7}{P P':Nat->Prop}{n:Str}{r:List Str}{fp:List Nat}{L L':Str->List Str}
theorem hV{f:Str}{mo mv:EM}{y:D}{k:Nat}{fs:List (Str×D)}{ab:aG}(hv:mv ρ Ω=.ok y ab)(ho:mo ρ ab=.ok (.ref k) ab)(hk:ab[k]?=some (.ins "House" fs))(hl:fs.length < 1000):cY ["House"] f mo mv ρ Ω=.nx ρ (ab.set k (.ins "House" (mK f y fs))):=by
 unfold cY;rw[hv,cC,ho,cC,nY hk];have:((["House"]:List Str).contains "House" && decide (fs.length < 1000))=true:=by rw[decide_eq_true hl];rfl
 simp only[this,if_true]
def Nc:SM:=
 (ah (cY ["House"] "elders" (U 0) bZ)
 (ah (cY ["House"] "lines" (U 0) bZ)
 aj))
def AJ(IN:ba):Prop:=∀ (Ω:aG) (L:Str->List Str) (P:Nat->Prop),∃ ak,jk "House" IN [] Ω=.ok (.ref Ω.length) ak/\bX P ak Ω.length [] L/\ag [] Ω ak
theorem IU:AJ (bN 1 1 Nc):=by
 intro Ω L P;have g0:(Ω++[Cell.ins "House" []])[Ω.length]?=some (.ins "House" []):=av;have K0:ag [] Ω (Ω++[Cell.ins "House" []]):=ag.app;have l0:(Ω++[Cell.ins "House" []]).length=Ω.length + 1:=by simp
 unfold jk;generalize Ω++[Cell.ins "House" []]=ir at *;rw[bD (by rfl)]
 have e0:a_ 1 [D.ref Ω.length]=[oR Ω.length]:=rfl;rw[e0];have g1:(ir++[Cell.dK []])[Ω.length]?=some (.ins "House" []):=dZ g0;have r1:cY ["House"] "elders" (U 0) bZ [oR Ω.length] ir=.nx [oR Ω.length] ((ir++[Cell.dK []]).set Ω.length (.ins "House" [("elders",.ref ir.length)])):=hV (ab:=ir++[.dK []]) rfl rfl g1 (by simp)
 have g2:=bh (e:=.ins "House" [("elders",.ref ir.length)]) g1;have K1:ag [Ω.length] ir ((ir++[Cell.dK []]).set Ω.length (.ins "House" [("elders",.ref ir.length)])):=ag.app.trans (ag.set (by simp))
 have d1:((ir++[Cell.dK []]).set Ω.length (.ins "House" [("elders",.ref ir.length)]))[ir.length]?=some (.dK []):=cJ av (by omega)
 have l1:((ir++[Cell.dK []]).set Ω.length (.ins "House" [("elders",.ref ir.length)])).length=ir.length + 1:=by simp
 generalize (ir++[Cell.dK []]).set Ω.length (.ins "House" [("elders",.ref ir.length)])=ab at *;have g3:(ab++[Cell.dK []])[Ω.length]?=some (.ins "House" [("elders",.ref ir.length)]):=dZ g2;have r2:cY ["House"] "lines" (U 0) bZ [oR Ω.length] ab=.nx [oR Ω.length] ((ab++[Cell.dK []]).set Ω.length (.ins "House" [("elders",.ref ir.length),("lines",.ref ab.length)])):=hV (ab:=ab++[.dK []]) rfl rfl g3 (by simp)
 have g4:=bh (e:=.ins "House" [("elders",.ref ir.length),("lines",.ref ab.length)]) g3;have K2:ag [Ω.length] ab ((ab++[Cell.dK []]).set Ω.length (.ins "House" [("elders",.ref ir.length),("lines",.ref ab.length)])):=ag.app.trans (ag.set (by simp))
 have d2:((ab++[Cell.dK []]).set Ω.length (.ins "House" [("elders",.ref ir.length),("lines",.ref ab.length)]))[ab.length]?=some (.dK []):=cJ av (by omega)
 generalize (ab++[Cell.dK []]).set Ω.length (.ins "House" [("elders",.ref ir.length),("lines",.ref ab.length)])=ao at *;refine⟨ao,?_,⟨ir.length,ab.length,[],[],g4,.inl (K2.get _ _ d1 (by simp;omega)),.nil,.inl d2,.nil⟩,ag.new K0 (K1.trans K2) (by simp)⟩
 have:kY (Nc [oR Ω.length] ir)=.ok .non ao:=by
  unfold Nc;rw[ai,r1,aB,ai,r2];rfl
 rw[this]
def P2(LI:ba):SM:=
 (ah (ax 2 (mN (aK LI) (aa (U 1) af)))
 (ah (cY ["House"] "elders" (U 0) (U 1))
 (ah (cY ["House"] "lines" (U 0) (U 2))
 aj)))
def xQ(ST:ba):Prop:=∀ (Ω:aG) (h e e0 l0:Nat) (kvs:List (Key×D)) (E:f7) (P:Nat->Prop) (L:Str->List Str),Ω[h]?=some (.ins "House" [("elders",.ref e0),("lines",.ref l0)])->cA Ω e kvs->aL P Ω kvs E->Gd E->M8 E L->(∀ n∈nms E,(L n).length<=900)->(∀ j,Ω.length<=j->P j) ->
 ∃ ak,ST [.ref h,.ref e] Ω=.ok .non ak/\bX P ak h E L/\ag [h,e] Ω ak
theorem IV{LI:ba}(hI:Eb LI):xQ (bN 3 2 (P2 LI)):=by
 intro Ω h e e0' l0 kvs E P L hh hd hr G hL IG hP;rw[bD (by rfl)]
 have e0:a_ 3 [D.ref h,.ref e]=[oR h,oR e,none]:=rfl;rw[e0];obtain⟨l,ck,ab,e1,gl,hrl,K1,vd,ll⟩:=hI Ω e kvs E P L hd hr G hL IG;have hne:h≠e:=fun z=>hd.ni _ _ (z▸hh)
 have h1:=K1.get _ _ hh (by simpa using hne)
 have hr1:=hr.cT K1 (fun j hj ds=>by rw[List.mem_singleton.mp hj];exact hd.nl ds)
 have hnl:l≠h:=fun z=>by rw[z,h1]at gl;cases gl
 have r2:cY ["House"] "elders" (U 0) (U 1) [oR h,oR e,oR l] ab=.nx [oR h,oR e,oR l] (ab.set h (.ins "House" [("elders",.ref e),("lines",.ref l0)])):=hV (ab:=ab) rfl rfl h1 (by simp)
 have g2:=bh (e:=.ins "House" [("elders",.ref e),("lines",.ref l0)]) h1;have K2:ag [h] ab (ab.set h (.ins "House" [("elders",.ref e),("lines",.ref l0)])):=ag.set (by simp)
 generalize ab.set h (.ins "House" [("elders",.ref e),("lines",.ref l0)])=ao at *;have r3:cY ["House"] "lines" (U 0) (U 2) [oR h,oR e,oR l] ao=.nx [oR h,oR e,oR l] (ao.set h (.ins "House" [("elders",.ref e),("lines",.ref l)])):=hV (ab:=ao) rfl rfl g2 (by simp)
 have g3:=bh (e:=.ins "House" [("elders",.ref e),("lines",.ref l)]) g2;have K3:ag [h] ao (ao.set h (.ins "House" [("elders",.ref e),("lines",.ref l)])):=ag.set (by simp)
 generalize ao.set h (.ins "House" [("elders",.ref e),("lines",.ref l)])=aO at *;have u6:=K2.trans K3;have nl:∀ j∈[h],∀ ds,ab[j]?≠some (.lst ds):=fun j hj ds=>by rw[List.mem_singleton.mp hj,h1];simp
 refine⟨aO,?_,⟨e,l,kvs,ck,g3,.inr (u6.get _ _ vd (by simpa using Ne.symm hne)),hr1.cT u6 nl,.inl (u6.get _ _ gl (by simpa using hnl)),(hrl.imp hP).cT u6 nl⟩,(K1.sub (by simp)).trans (u6.sub (by simp))⟩
 unfold P2;have r1:(ax 2 (mN (aK LI) (aa (U 1) af))) [oR h,oR e,none] Ω=.nx [oR h,oR e,oR l] ab:=by simp[e1]
 rw[ai,r1,aB,ai,r2,aB,ai,r3];rfl
def IW:EM:=(mN iQ (aa (U 0) (aa (vb (m2 (az .Eq) (U 0) (U 2)) (mN (aQ .list) (aa (U 1) af)) (m2 aC (m1 (dO ["House"] "elders") (U 3)) (U 0))) af)))
def P4:EM:=(mN ff (aa (bf IW true (ae .non) (aM (U 4)) 0 [2,1,0]) af))
def P5:EM:=(cV ik fS (U 4) (aa (vb (m2 (az .Is) (U 3) (ae .non)) (mN (aQ .len) (aa (U 4) af)) (U 3)) (aa (U 1) af)))
def P6(IS CE KD ST:ba):SM:=
 (ah (dG (eY (mN (aK IS) (aa (U 1) af)))
 (ah bI
 aj)
 aj)
 (ah (dG (m2 (az .In) (U 1) fe)
 (ah bI
 aj)
 aj)
 (ah (dG (m2 (az .GtE) (mN (aQ .len) (aa fe af)) (ae (.int 12)))
 (ah bI
 aj)
 aj)
 (ah (cm (aV "House" "check_elders" CE (U 0) (aa (U 2) af)))
 (ah (ax 4 (aV "House" "kinds" KD (U 0) af))
 (ah (cm P5)
 (ah (cm (aV "House" "settle" ST (U 0) (aa P4 af)))
 aj)))))))
theorem xR{α:Type}{xs:List α}{x:α}:nj xs xs.length x=xs++[x]:=by
 have:HT.cv xs.length 0 (some (xs.length:Int))=xs.length:=by
  unfold HT.cv;simp;intro z;omega
 unfold nj;simp only[this];simp
theorem Ej{a k:Nat}{a3:Option D}(H:bX P Ω h E L)(ha:Ω[a]?=some (.lst (r.map .str)))(hk:Ω[k]?=some (.lst ((nms E++[n]).map .str)))(hn:n∉nms E)(hnd:(nms E).Nodup)(hl:E.length<=100)(hP:∀ j,Ω.length<=j->P j) :
  ∃ q bW ak,P4 [oR h,oS n,oR a,a3,oR k] Ω=.ok (.ref q) ak/\ak[q]?=some (.dK bW)/\aL P ak bW (E++[(n,r)])/\ag [] Ω ak/\Ω.length<=q:=by
 have eG:aM (U 4) [oR h,oS n,oR a,a3,oR k] Ω=.ok (.seq (.ref k)) Ω:=by
  rw[br];exact aY (by rw[aD,aA hk])
 have hnm:nms (E++[(n,r)])=nms E++[n]:=by simp[nms]
 obtain⟨ys,ab,e1,ps,rfl,h1,K1⟩:=hG (ρ:=[oR h,oS n,oR a,a3,oR k]) (me:=IW) (mc:=ae .non) (cap:=[2,1,0]) (ds:=(nms E++[n]).map .str) (fun i acc ao=>∃ ps:List (Str×D),acc=ps.map (fun p=>.tup [.str p.1,p.2])/\aL P ao (ps.map fun p=>(.inr p.1,p.2)) ((E++[(n,r)]).take i)/\ag [] Ω ao) eG ⟨[],rfl,.nil,ag.refl⟩
  (fun i acc ao h=>by
   obtain⟨_,_,_,K⟩:=h;rw[cf,aD,aA (K.get _ _ hk (by simp))])
  (fun i d acc ao hdi hI=>by
   obtain⟨ps,rfl,h1,K⟩:=hI;obtain⟨x,hx,rfl⟩:=eW hdi;obtain⟨e,l,bW,ck,q1,q2,q3,q4,q5⟩:=H.keep K;have ha2:=K.get _ _ ha (by simp)
   show ∃ y ak,IW [oS x,oR a,oS n,oR h] ao=.ok y ak/\_
   have fin:∀ (p:Str×List Str) (j:Nat) (aO:aG),(E++[(n,r)])[i]?=some p->p.1=x->P j->aO[j]?=some (.lst (p.2.map .str))->ag [] ao aO->∃ ps':List (Str×D),(ps.map (fun p=>D.tup [.str p.1,p.2])++[.tup [.str x,.ref j]])=ps'.map (fun p=>.tup [.str p.1,p.2])/\aL P aO (ps'.map fun p=>(.inr p.1,p.2)) ((E++[(n,r)]).take (i + 1))/\ag [] Ω aO:=by
    intro p j aO hp hpx P7 hj K3;refine⟨ps++[(x,.ref j)],by simp,?_,K.trans K3⟩
    rw[List.take_succ,hp,List.map_append];exact aJ.append (R:=fun (kv:Key×D) (p:Str×List Str)=>kv.1=.inr p.1/\∃ j,kv.2=.ref j/\P j/\aO[j]?=some (.lst (p.2.map .str))) (h1.keep K3 (by simp)) (.cons ⟨by rw[hpx],j,rfl,P7,hj⟩ .nil)
   have hq:(m2 (az .Eq) (U 0) (U 2)) [oS x,oR a,oS n,oR h] ao=.ok (.bl (decide (x=n))) ao:=by
    show az .Eq (.str x) (.str n) ao=_
    simp
    by_cases z:x=n<;>simp[z]
   have hi:=(List.getElem?_eq_some_iff.mp hx).1;rw[List.length_append]at hi;simp only[nms,List.length_map,List.length_singleton]at hi
   by_cases hlt:i < E.length
   ·have hx':(nms E)[i]?=some x:=by rw[List.getElem?_append_left (by simp[nms];exact hlt)]at hx;exact hx
    have P8:x∈nms E:=List.mem_of_getElem? hx';have hxn:x≠n:=fun z=>hn (z▸P8)
    rw[decide_eq_false hxn]at hq;have hp:(E++[(n,r)])[i]?=some E[i]:=by rw[List.getElem?_append_left hlt];simp
    have hpx:E[i].1=x:=by
     simp[nms,hlt]at hx';exact hx'
    have hrow:bt E x=E[i].2:=by
     have hm:(x,bt E x)∈E:=n9 (iq P8);obtain⟨i',hi'⟩:=List.mem_iff_getElem?.mp hm;have e1:(nms E)[i']?=some x:=by simp[nms,hi']
     have hi2:=(List.getElem?_eq_some_iff.mp hi').1;have:=(List.getElem?_inj (by simp[nms];exact hi2) hnd).mp (e1.trans hx'.symm)
     subst this;rw[List.getElem?_eq_getElem hi2]at hi';have z:=Option.some.inj hi';rw[z]
    obtain⟨j,hv,P7,hj⟩:=q3.at P8;rw[hrow]at hj;obtain⟨ps',z1,z2,z3⟩:=fin E[i] j ao hp hpx P7 hj ag.refl;refine⟨.tup [.str x,.ref j],ao,?_,ps',z1,z2,z3⟩
    have hm2:(m2 aC (m1 (dO ["House"] "elders") (U 3)) (U 0)) [oS x,oR a,oS n,oR h] ao=.ok (.ref j) ao:=by
     show((dO ["House"] "elders" (.ref h) ao).bind _)=_
     rw[mP q1,aq];exact gO q2 hv
    unfold IW;rw[cM,aX];have:U 0 [oS x,oR a,oS n,oR h] ao=.ok (.str x) ao:=rfl;rw[this,aq,aX,nV,hq,dc,bL,dq,aq,if_neg (by simp),hm2,aq,aZ,aq,aq,aq,j7,if_pos (aH (by simp))]
   ·have hil:i=E.length:=by omega
    subst hil
    have hxn:x=n:=by
     rw[List.getElem?_append_right (by simp[nms])]at hx
     simp[nms]at hx;exact hx.symm
    subst hxn;rw[decide_eq_true rfl]at hq;have hls:=dB ha2;obtain⟨ps',z1,z2,z3⟩:=fin (x,r) ao.length (ao++[.lst (r.map .str)]) (by simp) rfl (hP _ K.len) av ag.app
    refine⟨.tup [.str x,.ref ao.length],ao++[.lst (r.map .str)],?_,ps',z1,z2,z3⟩;have hm2:(mN (aQ .list) (aa (U 1) af)) [oS x,oR a,oS x,oR h] ao=.ok (.ref ao.length) (ao++[.lst (r.map .str)]):=hls;unfold IW;rw[cM,aX];have:U 0 [oS x,oR a,oS x,oR h] ao=.ok (.str x) ao:=rfl;rw[this,aq,aX,nV,hq,dc,bL,dq,aq,if_pos rfl,hm2,aq,aZ,aq,aq,aq,j7,if_pos (aH (by simp))]) (by simp[nms];omega)
 have hlen:((nms E++[n]).map D.str).length=(E++[(n,r)]).length:=by simp[nms]
 rw[hlen,List.take_length]at h1
 have hpn:ps.map (·.1)=nms E++[n]:=by
  have:=h1.keys;rw[hnm,List.map_map]at this
  have h2:(ps.map (D.str ∘ (·.1)))=(nms E++[n]).map D.str:=by
   rw[← this];rfl
  rw[← List.map_map]at h2;exact(List.map_inj_right (fun a b z=>by cases z;rfl)).mp h2
 have g2:(ab++[Cell.lst (ps.map fun p=>.tup [.str p.1,p.2])])[ab.length]?=some (.lst (ps.map fun p=>.tup [.str p.1,p.2])):=av
 have K2:ag [] Ω (ab++[Cell.lst (ps.map fun p=>.tup [.str p.1,p.2])]):=K1.trans ag.app
 have h2:aL P (ab++[Cell.lst (ps.map fun p=>.tup [.str p.1,p.2])]) (ps.map fun p=>(.inr p.1,p.2)) (E++[(n,r)]):=h1.keep (fp:=[]) ag.app (by simp)
 generalize ab++[Cell.lst (ps.map fun p=>.tup [.str p.1,p.2])]=ao at *
 have hp:bB kR (ps.map fun p=>D.tup [.str p.1,p.2])=some (ps.map fun p=>(.inr p.1,p.2)):=jq (f:=kR) (g:=fun p:Str×D=>D.tup [.str p.1,p.2]) (h:=fun p=>(.inr p.1,p.2)) (fun n=>rfl) ps
 have hf:=jr (ps.map fun p=>((.inr p.1:Key),p.2)) [] (by
  rw[List.nil_append,List.map_map];have:(ps.map ((fun p:Key×D=>p.1) ∘ fun p=>((.inr p.1:Key),p.2)))=(ps.map (·.1)).map Sum.inr:=by rw[List.map_map];rfl
  rw[this,hpn];have hnn:(nms E++[n]).Nodup:=List.nodup_append.mpr ⟨hnd,by simp,fun a ha b hb z=>hn (by rw[← List.mem_singleton.mp hb,← z];exact ha)⟩
  exact List.Pairwise.map _ (fun a b hab z=>hab (by cases z;rfl)) hnn)
 rw[List.nil_append]at hf;refine⟨ao.length,_,ao++[.dK (ps.map fun p=>(.inr p.1,p.2))],?_,av,h2.keep (fp:=[]) ag.app (by simp),K2.trans ag.app,K2.len⟩
 unfold P4;rw[cM,aX,e1,aq,aZ,aq,aq]
 show gS (gH [.ref ab.length] ao) _=_
 simp only[gH,aA g2,hp,hf];rfl
def AK(AD:ba):Prop:=∀ (Ω:aG) (h a:Nat) (E:f7) (L L':Str->List Str) (P:Nat->Prop) (n:Str) (r:List Str),bX P Ω h E L->Ω[a]?=some (.lst (r.map .str))->AH n->n∉nms E->E.length < 12->r.Nodup->r.length<=5->(∀ x∈r,x∈nms E) ->
 Gd (E++[(n,r)])->M8 (E++[(n,r)]) L'->(∀ m∈nms (E++[(n,r)]),(L' m).length<=900)->(∀ j,Ω.length<=j->P j)->∃ ak,AD [.ref h,.str n,.ref a,.non] Ω=.ok .non ak/\bX P ak h (E++[(n,r)]) L'/\ag [h] Ω ak
theorem IX{IS CE KD ST:ba}(hI:Ee IS)(hC:Eh CE)(hK:AI KD)(hS:xQ ST):AK (bN 5 4 (P6 IS CE KD ST)):=by
 intro Ω h a E L L' P n r H ha hv hn hl hnd hrl hrs G hL IG hP;rw[bD (by rfl)]
 have e0:a_ 5 [D.ref h,.str n,.ref a,.non]=[oR h,oS n,oR a,some .non,none]:=rfl;rw[e0];have hnm:nms (E++[(n,r)])=nms E++[n]:=by simp[nms]
 have P9:(nms E).Nodup:=by
  have:=G.nd;rw[hnm]at this;exact(List.nodup_append.mp this).1
 obtain⟨ab,e1,K1⟩:=hI Ω n hv;have r1:(dG (eY (mN (aK IS) (aa (U 1) af))) (ah bI aj) aj) [oR h,oS n,oR a,some .non,none] Ω=.nx [oR h,oS n,oR a,some .non,none] ab:=by simp[e1]
 have H1:=H.keep K1
 have r2:(dG (m2 (az .In) (U 1) fe) (ah bI aj) aj) [oR h,oS n,oR a,some .non,none] ab=.nx [oR h,oS n,oR a,some .non,none] ab:=by
  obtain⟨e,l,bW,ck,q1,q2,q3,q4,q5⟩:=H1;have hin:=D6 (n:=n) q2;rw[q3.is,decide_eq_false hn]at hin;rw[cZ,dg]
  show bU (cQ ((dO ["House"] "elders" (.ref h) ab).bind _)) _=_
  rw[mP q1,aq,hin];rfl
 have r3:(dG (m2 (az .GtE) (mN (aQ .len) (aa fe af)) (ae (.int 12))) (ah bI aj) aj) [oR h,oS n,oR a,some .non,none] ab=.nx [oR h,oS n,oR a,some .non,none] ab:=by
  obtain⟨e,l,bW,ck,q1,q2,q3,q4,q5⟩:=H1;have hll:=Ir q2;have hlk:=q3.len
  have hle:(mN (aQ .len) (aa fe af)) [oR h,oS n,oR a,some .non,none] ab=.ok (.int bW.length) ab:=by
   show(((dO ["House"] "elders" (.ref h) ab).bind _).bind _)=_
   rw[mP q1,aq];exact hll
  have hc:az .GtE (.int bW.length) (.int 12) ab=.ok (.bl false) ab:=by
   have:decide ((bW.length:Int)≥12)=false:=by simp;omega
   simp[dI];omega
  rw[cZ,dg,hle,aq,jY,aq,hc];rfl
 obtain⟨ao,e2,K2⟩:=hC ab h a E L P r H1 (K1.get _ _ ha (by simp)) hnd hrl hrs
 have r4:(cm (aV "House" "check_elders" CE (U 0) (aa (U 2) af))) [oR h,oS n,oR a,some .non,none] ab=.nx [oR h,oS n,oR a,some .non,none] ao:=by
  rw[cI,dh H1 rfl (by decide)]
  show bU (lE (CE [.ref h,.ref a] ab)) _=_
  rw[e2];rfl
 have H2:=H1.keep K2;obtain⟨k,aO,e3,g3,K3,l3⟩:=hK ao h E L P H2
 have r5:(ax 4 (aV "House" "kinds" KD (U 0) af)) [oR h,oS n,oR a,some .non,none] ao=.nx [oR h,oS n,oR a,some .non,oR k] aO:=by
  rw[bj,dh H2 rfl (by decide),aZ,aq,e3]
  rfl
 have H3:bX (fun j=>P j/\j≠k) aO h E L:=(H2.lt.keep K3).imp fun j hj=>⟨hj.1,by omega⟩
 have pZ:=(K1.trans K2).trans K3;have ha3:=pZ.get _ _ ha (by simp)
 have hak:a≠k:=by have:=bF (K2.get _ _ (K1.get _ _ ha (by simp)) (by simp));omega
 have r6:(cm P5) [oR h,oS n,oR a,some .non,oR k] aO=.nx [oR h,oS n,oR a,some .non,oR k] (aO.set k (.lst ((nms E++[n]).map .str))):=by
  have hL:=eF g3;have hll:=i5 g3
  have WN:fS (.ref k) [.int ((nms E).map D.str).length,.str n] aO=.ok .non (aO.set k (.lst ((nms E++[n]).map .str))):=by
   simp only[fS,i4 g3];rw[if_pos,xR]
   ·simp
   ·rw[aH (by simp[nms];omega),fg (by omega) (by simp[nms];omega)];rfl
  unfold P5;rw[cI,ft (x:=.ref k) (ak:=aO) rfl hL]
  have hag:(aa (vb (m2 (az .Is) (U 3) (ae .non)) (mN (aQ .len) (aa (U 4) af)) (U 3)) (aa (U 1) af):AM) [oR h,oS n,oR a,some .non,oR k] aO=.ok [.int ((nms E).map D.str).length,.str n] aO:=by
   have:(m2 (az .Is) (U 3) (ae .non)) [oR h,oS n,oR a,some .non,oR k] aO=.ok (.bl true) aO:=rfl;rw[aX,nV,this,dc,bL,dq,aq,if_pos rfl];have:(mN (aQ .len) (aa (U 4) af)) [oR h,oS n,oR a,some .non,oR k] aO=.ok (.int ((nms E).map D.str).length) aO:=hll;rw[this];rfl
  rw[hag,aq,WN];rfl
 have K4:ag [k] aO (aO.set k (.lst ((nms E++[n]).map .str))):=ag.set (by simp)
 have g4:=bh (e:=.lst ((nms E++[n]).map .str)) g3;have H4:bX P (aO.set k (.lst ((nms E++[n]).map .str))) h E L:=(H3.B1 K4 g3 (by simp)).imp fun j hj=>hj.1
 have WO:=K4.get _ _ ha3 (by simpa using hak)
 have lk:=bF g3;generalize aO.set k (.lst ((nms E++[n]).map .str))=bR at *
 have AL:ag [] Ω bR:=ag.new pZ K4 (fun j hj=>by
  rw[List.mem_singleton.mp hj];have:=(K1.trans K2).len;omega)
 obtain⟨q,bW,cg,e5,g5,h5,K5,l5⟩:=Ej (a3:=some .non) H4 WO g4 hn P9 (by omega) (fun j hj=>hP j (Nat.le_trans AL.len hj))
 obtain⟨e,l,WQ,WR,q1,q2,q3,q4,q5⟩:=H4.keep K5;have B2:=AL.trans K5;obtain⟨eo,e6,H6,K6⟩:=hS cg h q e l bW (E++[(n,r)]) P L' q1 (.inl g5) h5 G hL IG (fun j hj=>hP j (Nat.le_trans B2.len hj))
 have lq:Ω.length<=q:=Nat.le_trans AL.len l5;refine⟨eo,?_,H6,⟨Nat.le_trans B2.len K6.len,fun k' c hk' hn'=>K6.get k' c (B2.get k' c hk' (by simp)) ?_⟩⟩
 ·unfold P6
  rw[ai,r1,aB,ai,r2,aB,ai,r3,aB,ai,r4,aB,ai,r5,aB,ai,r6,aB,ai,cI,dh H4 rfl (by decide),aX,e5,aq,aZ,aq,aq,e6]
  rfl
 ·have:=bF hk'
  simp at hn' ⊢;exact⟨hn',by omega⟩
def P_(IN:ba):SM:=
 (ah (ax 1 (mN (jk "House" IN) af))
 (ah (cY ["House"] "elders" (U 1) (mN ff (aa fe af)))
 (ah (cY ["House"] "lines" (U 1) (mN ff (aa Eg af)))
 (ah (bg (U 1))
 aj))))
def Ek(CP:ba):Prop:=∀ (Ω:aG) (h:Nat) (E:f7) (L:Str->List Str) (P:Nat->Prop),bX P Ω h E L->∃ k ak,CP [.ref h] Ω=.ok (.ref k) ak/\bX P ak k E L/\ag [] Ω ak/\Ω.length<=k
theorem IY{IN:ba}(hN:AJ IN):Ek (bN 2 1 (P_ IN)):=by
 intro Ω h E L P H;rw[bD (by rfl)]
 have e0:a_ 2 [D.ref h]=[oR h,none]:=rfl;rw[e0];obtain⟨ab,e1,T1,K1⟩:=hN Ω L P;obtain⟨e,l,bW,ck,q1,q2,q3,q4,q5⟩:=H.keep K1;obtain⟨et,lt,_,_,t1,_,_,_,_⟩:=T1
 have lh:h < Ω.length:=by
  obtain⟨_,_,_,_,z,_⟩:=H;exact bF z
 have d1:=xH q2;have g1:(ab++[Cell.dK bW])[ab.length]?=some (.dK bW):=av;have K2:ag [] ab (ab++[Cell.dK bW]):=ag.app
 have r1:cY ["House"] "elders" (U 1) (mN ff (aa fe af)) [oR h,oR Ω.length] ab=.nx [oR h,oR Ω.length] ((ab++[Cell.dK bW]).set Ω.length (.ins "House" [("elders",.ref ab.length),("lines",.ref lt)])):=by
  refine hV (ab:=ab++[Cell.dK bW]) (y:=.ref ab.length) ?_ rfl (K2.get _ _ t1 (by simp)) (by simp)
  show(((dO ["House"] "elders" (.ref h) ab).bind _).bind _)=_
  rw[mP q1,aq];exact d1
 have K3:ag [Ω.length] ab ((ab++[Cell.dK bW]).set Ω.length (.ins "House" [("elders",.ref ab.length),("lines",.ref lt)])):=(eV.up K2).trans (ag.set (by simp))
 have t3:=bh (e:=.ins "House" [("elders",.ref ab.length),("lines",.ref lt)]) (K2.get _ _ t1 (by simp))
 have Zb:=bF t1;have g3:((ab++[Cell.dK bW]).set Ω.length (.ins "House" [("elders",.ref ab.length),("lines",.ref lt)]))[ab.length]?=some (.dK bW):=cJ g1 (by omega)
 have l3:((ab++[Cell.dK bW]).set Ω.length (.ins "House" [("elders",.ref ab.length),("lines",.ref lt)])).length=ab.length + 1:=by simp
 generalize (ab++[Cell.dK bW]).set Ω.length (.ins "House" [("elders",.ref ab.length),("lines",.ref lt)])=aO at *;have Ug:∀ j∈[Ω.length],∀ ds,ab[j]?≠some (.lst ds):=fun j hj ds=>by rw[List.mem_singleton.mp hj,t1];simp
 have Zc:e≠Ω.length:=fun z=>q2.ni _ _ (z▸t1)
 have WS:l≠Ω.length:=fun z=>q4.ni _ _ (z▸t1)
 have WT:=K3.get _ _ q1 (by simp;omega)
 have WU:=q4.keep K3 (by simpa using WS)
 have WV:=q3.cT K3 Ug;have WW:=q5.cT K3 Ug;have d2:=xH WU;have g4:(aO++[Cell.dK ck])[aO.length]?=some (.dK ck):=av;have K4:ag [] aO (aO++[Cell.dK ck]):=ag.app
 have r2:cY ["House"] "lines" (U 1) (mN ff (aa Eg af)) [oR h,oR Ω.length] aO=.nx [oR h,oR Ω.length] ((aO++[Cell.dK ck]).set Ω.length (.ins "House" [("elders",.ref ab.length),("lines",.ref aO.length)])):=by
  refine hV (ab:=aO++[Cell.dK ck]) (y:=.ref aO.length) ?_ rfl (K4.get _ _ t3 (by simp)) (by simp)
  show(((dO ["House"] "lines" (.ref h) aO).bind _).bind _)=_
  rw[xP WT,aq];exact d2
 have K5:ag [Ω.length] aO ((aO++[Cell.dK ck]).set Ω.length (.ins "House" [("elders",.ref ab.length),("lines",.ref aO.length)])):=(eV.up K4).trans (ag.set (by simp))
 have t5:=bh (e:=.ins "House" [("elders",.ref ab.length),("lines",.ref aO.length)]) (K4.get _ _ t3 (by simp))
 have g5:((aO++[Cell.dK ck]).set Ω.length (.ins "House" [("elders",.ref ab.length),("lines",.ref aO.length)]))[aO.length]?=some (.dK ck):=cJ g4 (by omega)
 generalize (aO++[Cell.dK ck]).set Ω.length (.ins "House" [("elders",.ref ab.length),("lines",.ref aO.length)])=cg at *;have Uh:∀ j∈[Ω.length],∀ ds,aO[j]?≠some (.lst ds):=fun j hj ds=>by rw[List.mem_singleton.mp hj,t3];simp
 refine⟨Ω.length,cg,?_,⟨ab.length,aO.length,bW,ck,t5,.inl (K5.get _ _ g3 (by simp;omega)),WV.cT K5 Uh,.inl g5,WW.cT K5 Uh⟩,ag.new K1 (K3.trans K5) (by simp),Nat.le_refl _⟩
 unfold P_
 have r0:(ax 1 (mN (jk "House" IN) af)) [oR h,none] Ω=.nx [oR h,oR Ω.length] ab:=by
  rw[bj,cM,aZ,aq,e1];rfl
 rw[ai,r0,aB,ai,r1,aB,ai,r2,aB,ai];rfl
end
noncomputable def ne(rs:List (List Str)):List (List Str):=rs.filter fun r=>decide (r≠[])
theorem lC{rs:List (List Str)}{r:List Str}:r∈ne rs↔r∈rs/\r≠[]:=by unfold ne;simp
theorem u7{rs:List (List Str)}{row:List Str}:freeOf (ne rs) row=freeOf rs row:=by
 cases row with
 | nil=>rfl
 | cons m t=>
  by_cases h:∃ r∈rs,m∈r.tail
  ·obtain⟨r,h1,h2⟩:=h
   rw[dv ⟨r,h1,h2⟩,dv ⟨r,lC.mpr ⟨h1,fun z=>by rw[z]at h2;simp at h2⟩,h2⟩]
  ·rw[dw h,dw]
   rintro⟨r,h1,h2⟩;exact h ⟨r,(lC.mp h1).1,h2⟩
theorem AN{rs:List (List Str)}:free (ne rs)=free rs:=by
 unfold free
 have:∀ xs:List (List Str),(ne xs).findSome? (freeOf (ne rs))=xs.findSome? (freeOf rs):=by
  intro xs
  induction xs with
  | nil=>rfl
  | cons a xs ih=>
   by_cases ha:a=[]
   ·subst ha
    have:ne ([]::xs)=ne xs:=by simp[ne]
    rw[this,ih,List.findSome?_cons];rfl
   ·have:ne (a::xs)=a::ne xs:=by simp[ne,ha]
    rw[this,List.findSome?_cons,List.findSome?_cons,ih,u7]
 exact this rs
theorem p7{n:Str}{r:List Str}(h:n∉r.tail):r.filter (fun x=>decide (x≠n))=cB n r:=by
 unfold cB;cases r with
 | nil=>simp
 | cons a t=>
  have ht:t.filter (fun x=>decide (x≠n))=t:=List.filter_eq_self.mpr fun x hx=>decide_eq_true fun z=>h (z▸hx)
  by_cases ha:a=n
  ·subst ha
   rw[List.filter_cons,if_neg (by simp),ht,if_pos (by simp)]
   rfl
  ·rw[List.filter_cons,if_pos (by simp[ha]),ht,if_neg (by simp[ha])]
theorem AO{n:Str}{rs:List (List Str)}:ne ((ne rs).map (cB n))=ne (rs.map (cB n)):=by
 unfold ne
 induction rs with
 | nil=>rfl
 | cons a rs ih=>
  by_cases ha:a=[]
  ·subst ha
   have:cB n ([]:List Str)=[]:=by unfold cB;simp
   simp only[List.filter_cons,ne_eq,not_true_eq_false,decide_false,List.map_cons,this]at ih ⊢;exact ih
  ·simp only[List.filter_cons,ha,ne_eq,not_false_eq_true,decide_true,if_true,List.map_cons]
   rw[ih]
theorem u9{rs:List (List Str)}{n:Str}(h:free rs=some n):∀ r∈rs,n∉r.tail:=by
 unfold free at h;obtain⟨row,hr,hf⟩:=List.exists_of_findSome?_eq_some h;cases row with
 | nil=>cases hf
 | cons m t=>
  by_cases hm:∃ r∈rs,m∈r.tail
  ·rw[dv hm]at hf;cases hf
  ·rw[dw hm]at hf
   cases hf;exact fun r hr hx=>hm ⟨r,hr,hx⟩
theorem mQ{rs:List (List Str)}{n:Str}(h:free rs=some n):∃ t,(n::t)∈rs:=by
 unfold free at h;obtain⟨row,hr,hf⟩:=List.exists_of_findSome?_eq_some h;cases row with
 | nil=>cases hf
 | cons m t=>
  by_cases hm:∃ r∈rs,m∈r.tail
  ·rw[dv hm]at hf;cases hf
  ·rw[dw hm]at hf
   cases hf;exact⟨t,hr⟩
noncomputable def tl(rs:List (List Str)):Nat:=(rs.map List.length).sum
theorem AQ{rs:List (List Str)}{n:Str}(h:∃ t,(n::t)∈rs):tl (rs.map (cB n)) < tl rs:=by
 obtain⟨t,ht⟩:=h
 have le1:∀ r:List Str,(cB n r).length<=r.length:=fun r=>by
  unfold cB;split
  ·simp
  ·exact Nat.le_refl _
 have le:∀ xs:List (List Str),tl (xs.map (cB n))<=tl xs:=by
  intro xs
  induction xs with
  | nil=>exact Nat.le_refl _
  | cons a xs ih=>
   unfold tl at ih ⊢;simp only[List.map_cons,List.sum_cons];have:=le1 a;omega
 induction rs with
 | nil=>simp at ht
 | cons a rs ih=>
  unfold tl at le ih ⊢;simp only[List.map_cons,List.sum_cons];rcases List.mem_cons.mp ht with z | z
  ·subst z
   have h1:=le rs;have:(cB n (n::t)).length < (n::t).length:=by unfold cB;simp
   omega
  ·have h1:=ih z
   have:=le1 a;omega
section
variable{Ω ak:aG}{ρ:aU}{k q b:Nat}{js:List Nat}{rs:List (List Str)}{row:List Str}{n:Str}{told:List Str}
theorem El{nc:Bool}{mc me:EM}{τ:aU}{src:Src}{ds:List D}(I:Nat->List D->aG->Prop)(hs:∀ i acc Ω,I i acc Ω->eR src Ω=some ds)
  (he:∀ i d acc Ω,ds[i]?=some d->I i acc Ω->(∃ ak,h_ nc mc ([some d]++τ) Ω=.ok false ak/\I (i + 1) acc ak)\/∃ ab y ak,h_ nc mc ([some d]++τ) Ω=.ok true ab/\me ([some d]++τ) ab=.ok y ak/\I (i + 1) (acc++[y]) ak) :
  ∀ (f i:Nat) (acc:List D) Ω,I i acc Ω->ds.length - i < f->i<=ds.length->acc.length + ds.length<=100000 + i->∃ ys ak,s_ nc mc me 0 τ src f i acc Ω=.ok ys ak/\I ds.length ys ak:=by
 intro f
 induction f with
 | zero=>intro i acc Ω h0 hf;omega
 | succ f ih=>
  intro i acc Ω h0 hf hi ha;simp only[s_,hs i acc Ω h0]
  by_cases hlt:i < ds.length
  ·have hd:ds[i]?=some ds[i]:=List.getElem?_eq_getElem hlt
   rw[hd];have ht:nO 0 ds[i]=some [some ds[i]]:=rfl;simp only[ht];rw[if_pos (aH (n:=acc.length + 1) (by omega))]
   rcases he i ds[i] acc Ω hd h0 with ⟨ab,e1,h1⟩ | ⟨ab,y,ao,e1,e2,h1⟩
   ·rw[e1]
    dsimp only;exact ih (i + 1) acc ab h1 (by omega) hlt (by omega)
   ·rw[e1]
    dsimp only;rw[e2];dsimp only;exact ih (i + 1) (acc++[y]) ao h1 (by omega) hlt (by rw[List.length_append];simp;omega)
  ·have hd:ds[i]?=none:=List.getElem?_eq_none (by omega)
   rw[hd];have:i=ds.length:=by omega
   subst this;exact⟨acc,Ω,rfl,h0⟩
theorem tU{nc:Bool}{me mc:EM}{mi:IM}{cap:List Nat}{src:Src}{ds:List D}(I:Nat->List D->aG->Prop)(hi:mi ρ Ω=.ok src ak)(h0:I 0 [] ak)(hs:∀ i acc Ω,I i acc Ω->eR src Ω=some ds)
  (he:∀ i d acc Ω,ds[i]?=some d->I i acc Ω->(∃ ak,h_ nc mc ([some d]++dS cap ρ) Ω=.ok false ak/\I (i + 1) acc ak)\/∃ ab y ak,h_ nc mc ([some d]++dS cap ρ) Ω=.ok true ab/\me ([some d]++dS cap ρ) ab=.ok y ak/\I (i + 1) (acc++[y]) ak) (hl:ds.length<=90000) :
  ∃ ys ao,bf me nc mc mi 0 cap ρ Ω=.ok (.ref ao.length) (ao++[.lst ys])/\I ds.length ys ao:=by
 obtain⟨ys,ao,e2,h2⟩:=El I hs he fuel 0 [] ak h0 (by unfold fuel;omega) (Nat.zero_le _) (by simp;omega)
 refine⟨ys,ao,?_,h2⟩;unfold bf;rw[hi];dsimp only;rw[e2];rfl
theorem mR{nc:Bool}{me mc:EM}{mi:IM}{cap:List Nat}{f:List Str->List Str}{p:List Str->Bool}{P:Nat->Prop}(hi:mi ρ Ω=.ok (.seq (.ref k)) Ω)(R:Rw Ω k js rs)(hl:rs.length<=1000)
  (hc:∀ j row ab,ag [] Ω ab->j∈js->row∈rs->ab[j]?=some (.lst (row.map .str))->∃ ao,h_ nc mc ([oR j]++dS cap ρ) ab=.ok (p row) ao/\ag [] ab ao)
  (he:∀ j row ab,ag [] Ω ab->j∈js->row∈rs->ab[j]?=some (.lst (row.map .str))->∃ j' ao,me ([oR j]++dS cap ρ) ab=.ok (.ref j') ao/\ag [] ab ao/\ao[j']?=some (.lst ((f row).map .str))/\P j') :
  ∃ dQ ao,bf me nc mc mi 0 cap ρ Ω=.ok (.ref ao.length) (ao++[.lst (dQ.map .ref)])/\ag [] Ω ao/\iw ao dQ ((rs.filter p).map f)/\∀ j∈dQ,P j:=by
 have hL:=R.len
 obtain⟨ys,ao,e,dQ,rfl,h1,h2,h3⟩:=tU (nc:=nc) (me:=me) (mc:=mc) (cap:=cap) (ds:=js.map .ref) (fun i acc ao=>∃ dQ,acc=dQ.map .ref/\iw ao dQ (((rs.take i).filter p).map f)/\ag [] Ω ao/\∀ j∈dQ,P j) hi ⟨[],rfl,.nil,ag.refl,by simp⟩
  (fun i acc ao h=>by
   obtain⟨_,_,_,K,_⟩:=h;rw[cf,aD,aA (R.keep K).ce])
  (fun i d acc ab hd h=>by
   obtain⟨dQ,rfl,h1,K,h3⟩:=h;obtain⟨j,hj,rfl⟩:=gN hd;obtain⟨row,hr,hrow⟩:=(R.keep K).al.at' hj;obtain⟨ao,e2,K2⟩:=hc j row ab K (List.mem_of_getElem? hj) (List.mem_of_getElem? hr) hrow;cases hp:p row with
   | false=>
    refine .inl ⟨ao,by rw[e2,hp],dQ,rfl,?_,K.trans K2,h3⟩
    rw[List.take_succ,hr,List.filter_append];simp[hp];exact h1.keep K2 (by simp)
   | true=>
    obtain⟨j',aO,e,K3,h4,h5⟩:=he j row ao (K.trans K2) (List.mem_of_getElem? hj) (List.mem_of_getElem? hr) (K2.get _ _ hrow (by simp))
    refine .inr ⟨ao,.ref j',aO,by rw[e2,hp],e,dQ++[j'],by simp,?_,(K.trans K2).trans K3,?_⟩
    ·rw[List.take_succ,hr,List.filter_append,List.map_append]
     simp only[Option.toList_some,List.filter_cons,hp,List.filter_nil,if_true,List.map_cons,List.map_nil];exact((h1.keep K2 (by simp)).keep K3 (by simp)).snoc h4
    ·intro x hx
     rcases List.mem_append.mp hx with h | h
     ·exact h3 x h
     ·rw[List.mem_singleton.mp h];exact h5) (by simp;omega)
 refine⟨dQ,ao,e,h2,?_,h3⟩;rw[List.length_map,← hL,List.take_length]at h1;exact h1
theorem ne_nil{j:Nat}{i:Nat}(hi:ρ[i]?=some (oR j))(h:Ω[j]?=some (.lst (row.map .str))):∃ ak,m2 (az .NotEq) (U i) (mN aR af) ρ Ω=.ok (.bl (decide (row≠[]))) ak/\ag [] Ω ak:=by
 refine⟨Ω++[.lst []],?_,ag.app⟩;have e:(mN aR af) ρ Ω=.ok (.ref Ω.length) (Ω++[.lst []]):=by rw[cM,aZ,aq,cH,if_pos (aH (by simp))]
 have g:(Ω++[Cell.lst []])[Ω.length]?=some (.lst (([]:List Str).map .str)):=av;rw[dg,gZ,hi,gY,aq,e,aq,n6 (dZ h) g]
 congr 2
 by_cases z:row=[]<;>simp[z]
theorem AR{i:Nat}(hi:ρ[i]?=some (oR k))(R:Rw Ω k js rs):∃ ak,m2 (az .NotEq) (U i) (mN aR af) ρ Ω=.ok (.bl (decide (rs≠[]))) ak/\ag [] Ω ak:=by
 refine⟨Ω++[.lst []],?_,ag.app⟩;have e:(mN aR af) ρ Ω=.ok (.ref Ω.length) (Ω++[.lst []]):=by rw[cM,aZ,aq,cH,if_pos (aH (by simp))]
 have g:(Ω++[Cell.lst []])[Ω.length]?=some (.lst (([]:List Nat).map .ref)):=av;have R1:=R.keep (ak:=Ω++[Cell.lst []]) ag.app;have r1:=eU (n:=6) R1.ce R1.al;have r2:=eU (n:=6) (L:=[]) g .nil;rw[dg,gZ,hi,gY,aq,e,aq];simp[r1,r2]
def Nd:SM:=(ah (cF (bV 5) (aM (cj (U 1) false (ae (.int 1)) true (ae .non)))
 (ah (ej (U 4) (U 5) (ae (.bl true)))
 aj))
 aj)
def Qa:EM:=(bf (m2 aC (U 0) (ae (.int 0))) false (m2 (az .NotIn) (m2 aC (U 0) (ae (.int 0))) (U 1)) (aM (U 2)) 0 [4])
def Qb:EM:=(bf (bf (U 0) false (m2 (az .NotEq) (U 0) (m2 aC (U 1) (ae (.int 0)))) (aM (U 0)) 0 [1]) true (ae .non) (aM (U 2)) 0 [6])
def Ui:EM:=(bf (U 0) false (m2 (az .NotEq) (U 0) (mN aR af)) (aM (U 2)) 0 [])
def Em:EM:=(m2 (az .NotEq) (U 2) (mN aR af))
def xS:SM:=
 (ah (ax 4 bZ)
 (ah (cF (bV 1) (aM (U 2))
 Nd)
 (ah (ax 6 Qa)
 (ah (dG (m2 (az .Eq) (U 6) (mN aR af))
 (ah (bg (ae .non))
 aj)
 aj)
 (ah (cm (cV ik bq (U 3) (aa (m2 aC (U 6) (ae (.int 0))) af)))
 (ah (ax 2 Qb)
 (ah (ax 2 Ui)
 aj)))))))
def Nf:SM:=
 (ah (ax 2 (bf (mN (aQ .list) (aa (U 0) af)) false (m2 (az .NotEq) (U 0) (mN aR af)) (aM (U 0)) 0 []))
 (ah (ax 3 (mN aR af))
 (ah (ji Em
 xS)
 (ah (bg (U 3))
 aj))))
end
section
variable{Ω ak:aG}{ρ:aU}{k q b d:Nat}{js:List Nat}{rs:List (List Str)}{row:List Str}{n:Str}{told:List Str}{kvs:List (Key×D)}{m:Nat}{S S':Str->Prop}
def oj(Ω:aG)(d m:Nat)(S:Str->Prop):Prop:=∃ kvs,Ω[d]?=some (.dK kvs)/\kvs.length<=m/\∀ n,(cq kvs (.inr n)).isSome=true↔S n
theorem oj.keep{fp:List Nat}(h:oj Ω d m S)(K:ag fp Ω ak)(hn:d∉fp):oj ak d m S:=let ⟨kvs,h1,h2,h3⟩:=h;⟨kvs,K.get _ _ h1 hn,h2,h3⟩
theorem oj.imp(h:oj Ω d m S)(hs:∀ n,S n↔S' n):oj Ω d m S':=let ⟨kvs,h1,h2,h3⟩:=h;⟨kvs,h1,h2,fun n=>(h3 n).trans (hs n)⟩
theorem oj.put(h:oj Ω d m S)(hm:m<=1000):∃ ak,jD (.ref d) (.str n) (.bl true) Ω=some ak/\oj ak d (m + 1) (fun x=>S x\/x=n)/\ag [d] Ω ak:=by
 obtain⟨kvs,h1,h2,h3⟩:=h;refine⟨_,rO h1 (by omega),⟨_,bh h1,by have:=xD (kvs:=kvs) (k:=.inr n) (v:=D.bl true);omega,fun x => ?_⟩,ag.set (by simp)⟩
 rw[u3]
 by_cases z:x=n
 ·subst z;simp
 ·rw[if_neg (fun q=>z (by cases q;rfl)),h3]
  simp[z]
theorem tV{j:Nat}(h:Ω[j]?=some (.lst (row.map .str))){i:Nat}(hi:ρ[i]?=some (oR j)):cj (U i) false (ae (.int 1)) true (ae .non) ρ Ω=.ok (.ref Ω.length) (Ω++[.lst (row.tail.map .str)]):=by
 have:=rJ h;rw[i6,gZ,hi,gY,aq];simp[this]
theorem En{j:Nat}{a0 a2 a3 a5 a6:Option D}(h:Ω[j]?=some (.lst (row.map .str)))(hb:oj Ω d m S)(hm:m + row.length<=900) :
  ∃ ek ak,Nd [a0,oR j,a2,a3,oR d,a5,a6] Ω=.nx [a0,oR j,a2,a3,oR d,ek,a6] ak/\oj ak d (m + row.length) (fun x=>S x\/x∈row.tail)/\ag [d] Ω ak:=by
 have hs:=tV (ρ:=[a0,oR j,a2,a3,oR d,a5,a6]) h (i:=1) rfl;have g1:(Ω++[Cell.lst (row.tail.map .str)])[Ω.length]?=some (.lst (row.tail.map .str)):=av;have K1:ag [d] Ω (Ω++[Cell.lst (row.tail.map .str)]):=ag.app;have hb1:oj (Ω++[Cell.lst (row.tail.map .str)]) d m S:=hb.keep (fp:=[]) ag.app (by simp)
 have ld:d < Ω.length:=let ⟨_,z,_⟩:=hb;bF z
 generalize Ω++[Cell.lst (row.tail.map .str)]=ab at *
 have eG:aM (cj (U 1) false (ae (.int 1)) true (ae .non)) [a0,oR j,a2,a3,oR d,a5,a6] Ω=.ok (.seq (.ref Ω.length)) ab:=by
  rw[br,hs,aq];exact aY (by rw[aD,aA g1])
 unfold Nd;rw[ai,df,eG,cC];have htl:row.tail.length<=row.length:=by simp
 refine cp (R:=fun r=>∃ ek ak,sq r _=.nx [a0,oR j,a2,a3,oR d,ek,a6] ak/\oj ak d (m + row.length) (fun x=>S x\/x∈row.tail)/\ag [d] Ω ak) (ds:=row.tail.map .str)
  (fun i ρ ao=>∃ ek,ρ=[a0,oR j,a2,a3,oR d,ek,a6]/\oj ao d (m + i) (fun x=>S x\/x∈row.tail.take i)/\ag [d] ab ao) ?_ ?_ ?_ fuel 0 _ _ (by unfold fuel;simp;omega) (Nat.zero_le _) ⟨a5,rfl,hb1.imp (by simp),ag.refl⟩
 ·rintro i ρ ao ⟨_,_,_,K⟩
  rw[cf,aD,aA (K.get _ _ g1 (by simp;omega))]
 ·rintro i e ρ ao he ⟨ek,rfl,hb2,K⟩
  obtain⟨x,hx,rfl⟩:=eW he;have hi:=(List.getElem?_eq_some_iff.mp hx).1;refine⟨[a0,oR j,a2,a3,oR d,oS x,a6],rfl,?_⟩;obtain⟨aO,e3,hb3,K3⟩:=hb2.put (n:=x) (by omega)
  have:(ah (ej (U 4) (U 5) (ae (.bl true))) aj) [a0,oR j,a2,a3,oR d,oS x,a6] ao=.nx [a0,oR j,a2,a3,oR d,oS x,a6] aO:=by
   rw[ai];unfold ej
   show sq (match jD (.ref d) (.str x) (.bl true) ao with | some ak=>gM.nx _ ak | none=>.bad) _=_
   rw[e3];rfl
  rw[this];refine⟨_,rfl,hb3.imp fun y => ?_,K.trans K3⟩
  rw[List.take_succ,hx];simp[or_assoc]
 ·rintro ρ ao ⟨ek,rfl,hb2,K⟩
  rw[List.length_map,List.take_length]at hb2;obtain⟨kvs,z1,z2,z3⟩:=hb2;exact⟨ek,ao,rfl,⟨kvs,z1,by omega,z3⟩,K1.trans K⟩
theorem AS{i:Nat}(hr:rs[i]?=some row):tl (rs.take i) + row.length=tl (rs.take (i + 1)):=by
 unfold tl;rw[List.take_succ,hr];simp
theorem IZ{i:Nat}:tl (rs.take i)<=tl rs:=by
 have:tl rs=tl (rs.take i) + tl (rs.drop i):=by
  unfold tl;rw[← List.sum_append,← List.map_append,List.take_append_drop]
 omega
theorem Eo{a0 a1 a3 a5 a6:Option D}(R:Rw Ω k js rs)(hb:Ω[d]?=some (.dK []))(hl:rs.length<=1000)(ht:tl rs<=800) :
  ∃ iu ek ak,cF (bV 1) (aM (U 2)) Nd [a0,a1,oR k,a3,oR d,a5,a6] Ω=.nx [a0,iu,oR k,a3,oR d,ek,a6] ak/\oj ak d 900 (fun x=>∃ r∈rs,x∈r.tail)/\ag [d] Ω ak:=by
 have hL:=R.len;have hkd:k≠d:=fun z=>by have:=R.ce;rw[z,hb]at this;cases this
 have WX:∀ j∈js,j∉[d]:=fun j hj z=>by
  obtain⟨i,hi⟩:=List.mem_iff_getElem?.mp hj;obtain⟨row,_,h2⟩:=R.al.at' hi;rw[List.mem_singleton.mp z,hb]at h2;cases h2
 have kp:∀ ao,ag [d] Ω ao->Rw ao k js rs:=fun ao K=>R.pV K (by simpa using hkd) WX
 have eG:aM (U 2) [a0,a1,oR k,a3,oR d,a5,a6] Ω=.ok (.seq (.ref k)) Ω:=by
  rw[br];exact aY (by rw[aD,aA R.ce])
 rw[df,eG,cC]
 refine cp (R:=fun r=>∃ iu ek ak,r=.nx [a0,iu,oR k,a3,oR d,ek,a6] ak/\oj ak d 900 (fun x=>∃ r∈rs,x∈r.tail)/\ag [d] Ω ak) (ds:=js.map .ref)
  (fun i ρ ao=>∃ iu ek,ρ=[a0,iu,oR k,a3,oR d,ek,a6]/\oj ao d (tl (rs.take i)) (fun x=>∃ r∈rs.take i,x∈r.tail)/\ag [d] Ω ao) ?_ ?_ ?_ fuel 0 _ _ (by unfold fuel;simp;omega) (Nat.zero_le _) ⟨a1,a5,rfl,⟨[],hb,by simp[tl],fun n=>by simp[cq]⟩,ag.refl⟩
 ·rintro i ρ ao ⟨_,_,_,_,K⟩
  rw[cf,aD,aA (kp _ K).ce]
 ·rintro i e ρ ao he ⟨iu,ek,rfl,hb2,K⟩
  obtain⟨j,hj,rfl⟩:=gN he;obtain⟨row,hr,hrow⟩:=(kp _ K).al.at' hj;refine⟨[a0,oR j,oR k,a3,oR d,ek,a6],rfl,?_⟩;have h1:=AS hr;have h2:=IZ (rs:=rs) (i:=i + 1);obtain⟨WY,aO,e3,hb3,K3⟩:=En (a0:=a0) (a2:=oR k) (a3:=a3) (a5:=ek) (a6:=a6) hrow hb2 (by omega)
  rw[e3];refine⟨_,_,rfl,?_,K.trans K3⟩;rw[h1]at hb3;refine hb3.imp fun x => ?_
  rw[List.take_succ,hr];simp only[List.mem_append,Option.toList_some,List.mem_singleton];constructor
  ·rintro(⟨r,z1,z2⟩ | z)
   ·exact⟨r,.inl z1,z2⟩
   ·exact⟨row,.inr rfl,z⟩
  ·rintro⟨r,z1 | rfl,z2⟩
   ·exact .inl ⟨r,z1,z2⟩
   ·exact .inr z2
 ·rintro ρ ao ⟨iu,ek,rfl,hb2,K⟩
  rw[List.length_map,← hL,List.take_length]at hb2;obtain⟨kvs,z1,z2,z3⟩:=hb2;exact⟨iu,ek,ao,rfl,⟨kvs,z1,by omega,z3⟩,K⟩
theorem Ep{a0 a1 a3 a5 a6:Option D}(R:Rw Ω k js rs)(hb:oj Ω d 900 (fun x=>∃ r∈rs,x∈r.tail))(hne:∀ r∈rs,r≠[])(hl:rs.length<=1000) :
  Qa [a0,a1,oR k,a3,oR d,a5,a6] Ω=.ok (.ref Ω.length) (Ω++[.lst ((rs.filterMap (freeOf rs)).map .str)]):=by
 have hL:=R.len;obtain⟨kvs,b1,b2,b3⟩:=hb
 have eG:aM (U 2) [a0,a1,oR k,a3,oR d,a5,a6] Ω=.ok (.seq (.ref k)) Ω:=by
  rw[br];exact aY (by rw[aD,aA R.ce])
 obtain⟨ys,ao,e,rfl,rfl⟩:=tU (ρ:=[a0,a1,oR k,a3,oR d,a5,a6]) (nc:=false) (me:=m2 aC (U 0) (ae (.int 0))) (mc:=m2 (az .NotIn) (m2 aC (U 0) (ae (.int 0))) (U 1)) (cap:=[4]) (ds:=js.map .ref) (fun i acc ao=>acc=((rs.take i).filterMap (freeOf rs)).map .str/\ao=Ω) eG ⟨rfl,rfl⟩
  (fun i acc ao h=>by
   obtain⟨_,rfl⟩:=h;rw[cf,aD,aA R.ce])
  (fun i e acc ab he h=>by
   obtain⟨rfl,rfl⟩:=h;obtain⟨j,hj,rfl⟩:=gN he;obtain⟨row,hr,hrow⟩:=R.al.at' hj;cases row with
   | nil=>exact absurd rfl (hne [] (List.mem_of_getElem? hr))
   | cons x t=>
    have hix:aC (.ref j) (.int 0) ab=.ok (.str x) ab:=cN hrow (L2.dm (j:=0) rfl);have hni:=Iq (n:=x) (.inl b1)
    have hc:h_ false (m2 (az .NotIn) (m2 aC (U 0) (ae (.int 0))) (U 1)) ([oR j]++dS [4] [a0,a1,oR k,a3,oR d,a5,a6]) ab=.ok (!(cq kvs (.inr x)).isSome) ab:=by
     show cQ ((aC (.ref j) (.int 0) ab).bind _)=_
     rw[hix,aq]
     show cQ (az .NotIn (.str x) (.ref d) ab)=_
     rw[hni];rfl
    by_cases hz:∃ r∈rs,x∈r.tail
    ·rw[(b3 x).mpr hz]at hc
     refine .inl ⟨ab,hc,?_,rfl⟩;rw[List.take_succ,hr,List.filterMap_append];simp[dv hz]
    ·have:(cq kvs (.inr x)).isSome=false:=by
      cases q:(cq kvs (.inr x)).isSome with
      | true=>exact absurd ((b3 x).mp q) hz
      | false=>rfl
     rw[this]at hc;refine .inr ⟨ab,.str x,ab,hc,?_,?_,rfl⟩
     ·show aC (.ref j) (.int 0) ab=_
      exact hix
     ·rw[List.take_succ,hr,List.filterMap_append]
      simp[dw hz]) (by simp;omega)
 rw[List.length_map,← hL,List.take_length]at e;exact e
theorem Er{a0 a1 a3 a5:Option D}{f:Nat}{t:List Str}{a4:Option D}(R:Rw Ω k js rs)(hf:Ω[f]?=some (.lst ((n::t).map .str)))(hl:rs.length<=1000)(hr:∀ r∈rs,r.length<=1000) :
  ∃ dQ ao,Qb [a0,a1,oR k,a3,a4,a5,oR f] Ω=.ok (.ref ao.length) (ao++[.lst (dQ.map .ref)])/\ag [] Ω ao/\iw ao dQ (rs.map fun r=>r.filter fun x=>decide (x≠n))/\∀ j∈dQ,Ω.length<=j:=by
 have eG:aM (U 2) [a0,a1,oR k,a3,a4,a5,oR f] Ω=.ok (.seq (.ref k)) Ω:=by
  rw[br];exact aY (by rw[aD,aA R.ce])
 refine lA (ρ:=[a0,a1,oR k,a3,a4,a5,oR f]) (me:=bf (U 0) false (m2 (az .NotEq) (U 0) (m2 aC (U 1) (ae (.int 0)))) (aM (U 0)) 0 [1]) (mc:=ae .non) (cap:=[6]) (f:=fun r=>r.filter fun x=>decide (x≠n)) (P:=fun j=>Ω.length<=j) eG R hl (fun j row ab K hj hrm hrow => ?_)
 have hf1:=K.get _ _ hf (by simp)
 have hix:aC (.ref f) (.int 0) ab=.ok (.str n) ab:=cN hf1 (L2.dm (j:=0) rfl)
 have e:=dk (ρ:=[oR j,oR f]) (Ω:=ab) (ak:=ab) (me:=U 0) (mc:=m2 (az .NotEq) (U 0) (m2 aC (U 1) (ae (.int 0)))) (nc:=false) (mi:=aM (U 0)) (cap:=[1]) (src:=.seq (.ref j)) (ds:=row.map .str) (p:=fun d=>match d with | .str x=>decide (x≠n) | _=>false) (g:=fun d=>d) (by
   rw[br];exact aY (by rw[aD,aA hrow])) (by rw[cf,aD,aA hrow]) (fun d hd=>by
   obtain⟨x,hx,rfl⟩:=List.mem_map.mp hd
   show cQ ((aC (.ref f) (.int 0) ab).bind _)=_
   rw[hix,aq]
   show cQ (az .NotEq (.str x) (.str n) ab)=_
   by_cases z:x=n<;>simp[z]) (fun d _ _=>rfl) (by have:=hr row hrm;simp;omega)
 have e2:((row.map D.str).filter (fun d=>match d with | .str x=>decide (x≠n) | _=>false)).map (fun d:D=>d)=(row.filter fun x=>decide (x≠n)).map .str:=by
  rw[List.map_id',List.filter_map];rfl
 rw[e2]at e;exact⟨ab.length,_,e,ag.app,av,K.len⟩
theorem Es{a0 a1 a3 a4 a5 a6:Option D}(R:Rw Ω k js rs)(hl:rs.length<=1000) :
  ∃ dQ ao,Ui [a0,a1,oR k,a3,a4,a5,a6] Ω=.ok (.ref ao.length) (ao++[.lst (dQ.map .ref)])/\ag [] Ω ao/\iw ao dQ (ne rs)/\∀ j∈dQ,j∈js:=by
 have eG:aM (U 2) [a0,a1,oR k,a3,a4,a5,a6] Ω=.ok (.seq (.ref k)) Ω:=by
  rw[br];exact aY (by rw[aD,aA R.ce])
 obtain⟨dQ,ao,e,K,h1,h2⟩:=mR (ρ:=[a0,a1,oR k,a3,a4,a5,a6]) (nc:=false) (me:=U 0) (mc:=m2 (az .NotEq) (U 0) (mN aR af)) (cap:=[]) (f:=fun r=>r) (p:=fun r=>decide (r≠[])) (P:=fun j=>j∈js) eG R hl (fun j row ab K hj hrm hrow=>by
  obtain⟨ao,e,K2⟩:=ne_nil (ρ:=[oR j]) (i:=0) rfl hrow;refine⟨ao,?_,K2⟩
  show cQ (m2 (az .NotEq) (U 0) (mN aR af) [oR j] ab)=_
  rw[e];rfl) (fun j row ab K hj hrm hrow=>⟨j,ab,rfl,ag.refl,hrow,hj⟩)
 rw[List.map_id']at h1;exact⟨dQ,ao,e,K,h1,h2⟩
end
section
variable{Ω ak:aG}{ρ:aU}{k q b d:Nat}{js:List Nat}{rs:List (List Str)}{row:List Str}{n:Str}{told:List Str}
theorem I0{rs:List (List Str)}:(ne rs).length<=rs.length:=List.length_filter_le _ _
theorem I_{rs:List (List Str)}:tl (ne rs)=tl rs:=by
 unfold tl ne
 induction rs with
 | nil=>rfl
 | cons a rs ih=>
  by_cases ha:a=[]
  ·subst ha
   simp only[List.filter_cons,ne_eq,not_true_eq_false,decide_false,List.map_cons,List.sum_cons,List.length_nil]at ih ⊢;simp at ih ⊢;exact ih
  ·simp only[List.filter_cons,ha,ne_eq,not_false_eq_true,decide_true,if_true,List.map_cons,List.sum_cons]
   rw[ih]
theorem Et{rs:List (List Str)}{r:List Str}(h:r∈rs):r.length<=tl rs:=by
 unfold tl
 induction rs with
 | nil=>simp at h
 | cons a rs ih=>
  simp only[List.map_cons,List.sum_cons];rcases List.mem_cons.mp h with z | z
  ·subst z;omega
  ·have:=ih z;omega
theorem Eu{a0 a1 a4 a5 a6:Option D}(R:Rw Ω k js (ne rs))(hq:Ω[q]?=some (.lst (told.map .str)))(D4:q≠k)(xE:q∉js)(hl:rs.length<=900)(ht:tl rs<=800)(hp:told.length<=900) :
  (free rs=none/\∃ ak,xS [a0,a1,oR k,oR q,a4,a5,a6] Ω=.rt .non ak/\ag [] Ω ak) \/
  ∃ n iu lR ek AU k' dQ ak,free rs=some n/\xS [a0,a1,oR k,oR q,a4,a5,a6] Ω=.nx [a0,iu,oR k',oR q,lR,ek,AU] ak/\Rw ak k' dQ (ne (rs.map (cB n)))/\ak[q]?=some (.lst ((told++[n]).map .str))/\q≠k'/\q∉dQ/\ag [q] Ω ak:=by
 have hnl:=I0 (rs:=rs);have htn:=I_ (rs:=rs);have lq:=bF hq;have lk:=bF R.ce;have lj:=R.al.lt;have g1:(Ω++[Cell.dK []])[Ω.length]?=some (.dK []):=av;have K1:ag [] Ω (Ω++[Cell.dK []]):=ag.app;have r1:ax 4 bZ [a0,a1,oR k,oR q,a4,a5,a6] Ω=.nx [a0,a1,oR k,oR q,oR Ω.length,a5,a6] (Ω++[Cell.dK []]):=rfl;have l1:(Ω++[Cell.dK []]).length=Ω.length + 1:=by simp
 generalize Ω++[Cell.dK []]=ab at *;obtain⟨iu,ek,ao,r2,hb2,K2⟩:=Eo (a0:=a0) (a1:=a1) (a3:=oR q) (a5:=a5) (a6:=a6) (R.keep K1) g1 (by omega) (by omega)
 have Ng:ag [] Ω ao:=ag.new K1 K2 (by simp)
 have R2:=R.keep Ng;have hq2:=Ng.get _ _ hq (by simp)
 have r3:=Ep (a0:=a0) (a1:=iu) (a3:=oR q) (a5:=ek) (a6:=a6) R2 hb2 (fun r hr=>(lC.mp hr).2) (by omega)
 have g3:(ao++[Cell.lst (((ne rs).filterMap (freeOf (ne rs))).map .str)])[ao.length]?=some (.lst (((ne rs).filterMap (freeOf (ne rs))).map .str)):=av;have K3:ag [] ao (ao++[Cell.lst (((ne rs).filterMap (freeOf (ne rs))).map .str)]):=ag.app;have l3:(ao++[Cell.lst (((ne rs).filterMap (freeOf (ne rs))).map .str)]).length=ao.length + 1:=by simp
 have hh:((ne rs).filterMap (freeOf (ne rs))).head?=free rs:=by
  rw[List.head?_filterMap,← AN];rfl
 generalize (ne rs).filterMap (freeOf (ne rs))=fl at *
 have r3:ax 6 Qa [a0,iu,oR k,oR q,oR Ω.length,ek,a6] ao=.nx [a0,iu,oR k,oR q,oR Ω.length,ek,oR ao.length] (ao++[Cell.lst (fl.map .str)]):=by
  rw[bj,r3];rfl
 generalize ao++[Cell.lst (fl.map .str)]=aO at *;have WZ:=Ng.trans K3;have g4:(aO++[Cell.lst []])[aO.length]?=some (.lst (([]:List Str).map .str)):=av;have K4:ag [] aO (aO++[Cell.lst []]):=ag.app
 have e4:(m2 (az .Eq) (U 6) (mN aR af)) [a0,iu,oR k,oR q,oR Ω.length,ek,oR ao.length] aO=.ok (.bl (decide (fl=[]))) (aO++[Cell.lst []]):=by
  have e:(mN aR af) [a0,iu,oR k,oR q,oR Ω.length,ek,oR ao.length] aO=.ok (.ref aO.length) (aO++[.lst []]):=by rw[cM,aZ,aq,cH,if_pos (aH (by simp))]
  have:U 6 [a0,iu,oR k,oR q,oR Ω.length,ek,oR ao.length] aO=.ok (.ref ao.length) aO:=rfl;rw[dg,this,aq,e,aq,j9 (K4.get _ _ g3 (by simp)) g4]
 have l4:(aO++[Cell.lst []]).length=aO.length + 1:=by simp
 generalize aO++[Cell.lst []]=bR at *;have AL:=WZ.trans K4;cases fl with
 | nil=>
  refine .inl ⟨by rw[← hh];rfl,bR,?_,AL⟩
  unfold xS;rw[ai,r1,aB,ai,r2,aB,ai,r3,aB,ai,cZ,e4];rfl
 | cons n t=>
  have hfn:free rs=some n:=by rw[← hh];rfl
  refine .inr ⟨n,?_⟩;have R4:=R.keep AL;have AF:=AL.get _ _ hq (by simp)
  have Uj:=K4.get _ _ g3 (by simp)
  have r4:(dG (m2 (az .Eq) (U 6) (mN aR af)) (ah (bg (ae .non)) aj) aj) [a0,iu,oR k,oR q,oR Ω.length,ek,oR ao.length] aO=.nx [a0,iu,oR k,oR q,oR Ω.length,ek,oR ao.length] bR:=by
   rw[cZ,e4];rfl
  have hix:aC (.ref ao.length) (.int 0) bR=.ok (.str n) bR:=cN Uj (L2.dm (j:=0) rfl);have hap:=dX (d:=.str n) AF (by simp;omega)
  have r5:(cm (cV ik bq (U 3) (aa (m2 aC (U 6) (ae (.int 0))) af))) [a0,iu,oR k,oR q,oR Ω.length,ek,oR ao.length] bR=.nx [a0,iu,oR k,oR q,oR Ω.length,ek,oR ao.length] (bR.set q (.lst (told.map .str++[.str n]))):=by
   rw[cI,ft (x:=.ref q) (ak:=bR) rfl (eF AF)]
   have:(aa (m2 aC (U 6) (ae (.int 0))) af:AM) [a0,iu,oR k,oR q,oR Ω.length,ek,oR ao.length] bR=.ok [.str n] bR:=by
    show((aC (.ref ao.length) (.int 0) bR).bind _)=_
    rw[hix];rfl
   rw[this,aq,hap];rfl
  have K5:ag [q] bR (bR.set q (.lst (told.map .str++[.str n]))):=ag.set (by simp)
  have W0:(bR.set q (.lst (told.map .str++[.str n])))[q]?=some (.lst ((told++[n]).map .str)):=by rw[bh AF];simp
  have l5:(bR.set q (.lst (told.map .str++[.str n]))).length=bR.length:=by simp
  generalize bR.set q (.lst (told.map .str++[.str n]))=cg at *;have R5:Rw cg k js (ne rs):=R4.pV K5 (by simpa using Ne.symm D4) (fun j hj h=>xE (by rw[← List.mem_singleton.mp h];exact hj))
  have W2:=K5.get _ _ Uj (by have:=Ng.len;simp;omega)
  obtain⟨Ge,eo,e6,K6,h6,j6⟩:=Er (a0:=a0) (a1:=iu) (a3:=oR q) (a4:=oR Ω.length) (a5:=ek) R5 W2 (by omega) (fun r hr=>by have:=Et hr;omega)
  have hmap:((ne rs).map fun r=>r.filter fun x=>decide (x≠n))=(ne rs).map (cB n):=List.map_congr_left fun r hr=>p7 (u9 hfn r (lC.mp hr).1)
  rw[hmap]at h6;have R7:Rw (eo++[.lst (Ge.map .ref)]) eo.length Ge ((ne rs).map (cB n)):=⟨av,h6.keep (fp:=[]) ag.app (by simp)⟩
  have K7:ag [] cg (eo++[Cell.lst (Ge.map .ref)]):=K6.trans ag.app
  have r6:ax 2 Qb [a0,iu,oR k,oR q,oR Ω.length,ek,oR ao.length] cg=.nx [a0,iu,oR eo.length,oR q,oR Ω.length,ek,oR ao.length] (eo++[.lst (Ge.map .ref)]):=by
   rw[bj,e6];rfl
  have l6:=K6.len;have l7:(eo++[Cell.lst (Ge.map .ref)]).length=eo.length + 1:=by simp
  generalize eo++[Cell.lst (Ge.map .ref)]=fX at *;obtain⟨Uk,tW,e8,K8,h8,j8⟩:=Es (a0:=a0) (a1:=iu) (a3:=oR q) (a4:=oR Ω.length) (a5:=ek) (a6:=oR ao.length) R7 (by simp;omega)
  rw[AO]at h8;have Zd:=AL.len;have l8:=K8.len;refine⟨iu,oR Ω.length,ek,oR ao.length,tW.length,Uk,tW++[.lst (Uk.map .ref)],hfn,?_,⟨av,h8.keep (fp:=[]) ag.app (by simp)⟩,dZ (K8.get _ _ (K7.get _ _ W0 (by simp)) (by simp)),by omega,fun z => ?_,((eV.up AL).trans K5).trans (eV.up ((K7.trans K8).trans ag.app))⟩
  ·unfold xS
   rw[ai,r1,aB,ai,r2,aB,ai,r3,aB,ai,r4,aB,ai,r5,aB,ai,r6,aB,ai,bj,e8];rfl
  ·have:=j6 q (j8 q z)
   omega
theorem Ew{rs:List (List Str)}(h:ne rs=[]):Mg rs []:=.done fun r hr=>by
 by_cases z:r=[]
 ·exact z
 ·have:r∈ne rs:=lC.mpr ⟨hr,z⟩
  rw[h]at this;simp at this
theorem xT{a0:Option D}:∀ (m:Nat) (Ω:aG) (rs:List (List Str)) (told:List Str) (q k:Nat) (js:List Nat) (a1 a4 a5 a6:Option D),tl rs < m->Rw Ω k js (ne rs)->Ω[q]?=some (.lst (told.map .str))->q≠k->q∉js->rs.length<=900->told.length + tl rs<=800 ->
  (∃ ak,eS Em xS m [a0,a1,oR k,oR q,a4,a5,a6] Ω=.rt .non ak/\ag [q] Ω ak) \/
  ∃ o iu W3 lR ek AU ak,eS Em xS m [a0,a1,oR k,oR q,a4,a5,a6] Ω=.nx [a0,iu,W3,oR q,lR,ek,AU] ak/\Mg rs o/\ak[q]?=some (.lst ((told++o).map .str))/\ag [q] Ω ak:=by
 intro m
 induction m with
 | zero=>intro Ω rs told q k js a1 a4 a5 a6 h;omega
 | succ m ih=>
  intro Ω rs told q k js a1 a4 a5 a6 hm R hq D4 xE hl ht;obtain⟨ab,e1,K1⟩:=AR (ρ:=[a0,a1,oR k,oR q,a4,a5,a6]) (i:=2) rfl R;have e1:Em [a0,a1,oR k,oR q,a4,a5,a6] Ω=.ok (.bl (decide (ne rs≠[]))) ab:=e1
  by_cases hz:ne rs=[]
  ·rw[decide_eq_false (by simpa using hz)]at e1
   refine .inr ⟨[],a1,oR k,a4,a5,a6,ab,?_,Ew hz,by rw[List.append_nil];exact K1.get _ _ hq (by simp),eV.up K1⟩
   simp only[eS,e1];rfl
  ·rw[decide_eq_true (by simpa using hz)]at e1
   have step:eS Em xS (m + 1) [a0,a1,oR k,oR q,a4,a5,a6] Ω=(match xS [a0,a1,oR k,oR q,a4,a5,a6] ab with | .nx cz ak=>eS Em xS m cz ak | .ct cz ak=>eS Em xS m cz ak | .bk cz ak=>.nx cz ak | r=>r):=by
    simp only[eS,e1];rfl
   have hq1:=K1.get _ _ hq (by simp)
   rcases Eu (a0:=a0) (a1:=a1) (a4:=a4) (a5:=a5) (a6:=a6) (R.keep K1) hq1 D4 xE hl (by omega) (by omega) with ⟨_,ao,e2,K2⟩ | ⟨n,iu,lR,ek,AU,k',dQ,ao,hf,e2,R2,hq2,n1,n2,K2⟩
   ·refine .inl ⟨ao,?_,eV.up (K1.trans K2)⟩
    rw[step,e2]
   ·have hts:=AQ (mQ hf)
    have hne:∃ r∈rs,r≠[]:=by
     obtain⟨t,ht⟩:=mQ hf;exact⟨_,ht,by simp⟩
    rcases ih ao (rs.map (cB n)) (told++[n]) q k' dQ iu lR ek AU (by omega) R2 hq2 n1 n2 (by simpa using hl) (by simp;omega) with ⟨aO,e3,K3⟩ | ⟨o,b1,b2,b4,b5,b6,aO,e3,M3,Qc,K3⟩
    ·refine .inl ⟨aO,?_,((eV.up K1).trans K2).trans K3⟩
     rw[step,e2];exact e3
    ·refine .inr ⟨n::o,b1,b2,b4,b5,b6,aO,?_,.step hne hf M3,by rw[Qc];simp,((eV.up K1).trans K2).trans K3⟩
     rw[step,e2];exact e3
def AV(LM:ba):Prop:=∀ (Ω:aG) (k:Nat) (js:List Nat) (rs:List (List Str)),Rw Ω k js rs->rs.length<=900->tl rs<=800->∃ d ak,LM [.ref k] Ω=.ok d ak/\ag [] Ω ak/\(d=.non\/∃ o q,d=.ref q/\ak[q]?=some (.lst (o.map .str))/\Mg rs o/\Ω.length<=q)
theorem Ja:AV (bN 7 1 Nf):=by
 intro Ω k js rs R hl ht;rw[bD (by rfl)]
 have e0:a_ 7 [D.ref k]=[oR k,none,none,none,none,none,none]:=rfl;rw[e0]
 have eG:aM (U 0) [oR k,none,none,none,none,none,none] Ω=.ok (.seq (.ref k)) Ω:=by
  rw[br];exact aY (by rw[aD,aA R.ce])
 obtain⟨B3,ab,e1,K1,h1,j1⟩:=mR (ρ:=[oR k,none,none,none,none,none,none]) (nc:=false) (me:=mN (aQ .list) (aa (U 0) af)) (mc:=m2 (az .NotEq) (U 0) (mN aR af)) (cap:=[]) (f:=fun r=>r) (p:=fun r=>decide (r≠[])) (P:=fun j=>Ω.length<=j) eG R (by omega) (fun j row ab K hj hrm hrow=>by
  obtain⟨ao,e,K2⟩:=ne_nil (ρ:=[oR j]) (i:=0) rfl hrow;refine⟨ao,?_,K2⟩
  show cQ (m2 (az .NotEq) (U 0) (mN aR af) [oR j] ab)=_
  rw[e];rfl) (fun j row ab K hj hrm hrow=>by
  refine⟨ab.length,ab++[.lst (row.map .str)],?_,ag.app,av,K.len⟩
  show aQ .list [.ref j] ab=_
  exact dB hrow)
 rw[List.map_id']at h1;have h1:iw ab B3 (ne rs):=h1;have R2:Rw (ab++[.lst (B3.map .ref)]) ab.length B3 (ne rs):=⟨av,h1.keep (fp:=[]) ag.app (by simp)⟩
 have K2:ag [] Ω (ab++[Cell.lst (B3.map .ref)]):=K1.trans ag.app;have l2:(ab++[Cell.lst (B3.map .ref)]).length=ab.length + 1:=by simp
 have lj:=h1.lt
 have r1:ax 2 (bf (mN (aQ .list) (aa (U 0) af)) false (m2 (az .NotEq) (U 0) (mN aR af)) (aM (U 0)) 0 []) [oR k,none,none,none,none,none,none] Ω=.nx [oR k,none,oR ab.length,none,none,none,none] (ab++[Cell.lst (B3.map .ref)]):=by
  rw[bj,e1];rfl
 generalize ab++[Cell.lst (B3.map .ref)]=ao at *;have K3:ag [] ao (ao++[Cell.lst []]):=ag.app;have q3:(ao++[Cell.lst []])[ao.length]?=some (.lst (([]:List Str).map .str)):=av;have r2:(ax 3 (mN aR af)) [oR k,none,oR ab.length,none,none,none,none] ao=.nx [oR k,none,oR ab.length,oR ao.length,none,none,none] (ao++[Cell.lst []]):=by simp[aH]
 have Qd:=K2.len;rcases xT (a0:=oR k) fuel (ao++[Cell.lst []]) rs [] ao.length ab.length B3 none none none none (by unfold fuel;omega) (R2.keep K3) q3 (by omega) (fun z=>by have:=lj _ z;omega) hl (by simpa using ht) with ⟨bR,e4,K4⟩ | ⟨o,b1,b2,b4,b5,b6,bR,e4,M4,AF,K4⟩
 ·refine⟨.non,bR,?_,ag.new (K2.trans K3) K4 (by simpa using Qd),.inl rfl⟩
  unfold Nf;rw[ai,r1,aB,ai,r2,aB,ai];unfold ji;rw[e4];rfl
 ·refine⟨.ref ao.length,bR,?_,ag.new (K2.trans K3) K4 (by simpa using Qd),.inr ⟨o,ao.length,rfl,by simpa using AF,M4,Qd⟩⟩
  unfold Nf;rw[ai,r1,aB,ai,r2,aB,ai];unfold ji;rw[e4];rfl
end
structure ja(E:f7)(L:Str->List Str):Prop where
 nd:(nms E).Nodup
 el:∀ (i:Nat) (p:Str×List Str),E[i]?=some p->p.2.Nodup/\p.2.length<=5/\∀ x∈p.2,x∈(nms E).take i
 ln:∀ (i:Nat) (p:Str×List Str),E[i]?=some p->∃ o,Mg (p.2.map L++[p.2]) o/\L p.1=p.1::o
 len:E.length<=12
section
variable{E:f7}{L:Str->List Str}{i:Nat}{p:Str×List Str}{n:Str}{r o:List Str}
theorem lD:nms (E.take i)=(nms E).take i:=by simp[nms,List.map_take]
theorem i9(h:E[i]?=some p):(nms E)[i]?=some p.1:=by simp[nms,h]
theorem kb(h:(nms E)[i]?=some n):∃ r,E[i]?=some (n,r):=by
 simp only[nms,List.getElem?_map,Option.map_eq_some_iff]at h;obtain⟨q,h1,h2⟩:=h;exact⟨q.2,by rw[h1,← h2]⟩
theorem xU(hn:(nms E).Nodup)(h:E[i]?=some p):bt E p.1=p.2:=by
 have hx:=i9 h;have hm:(p.1,bt E p.1)∈E:=n9 (iq (List.mem_of_getElem? hx));obtain⟨i',hi'⟩:=List.mem_iff_getElem?.mp hm;have e1:=i9 hi';have hi2:=(List.getElem?_eq_some_iff.mp e1).1;have:=(List.getElem?_inj hi2 hn).mp (e1.trans hx.symm);subst this;rw[h]at hi';have z:=Option.some.inj hi';exact(congrArg (·.2) z).symm
theorem gP{xs:List Str}{x:Str}(h:x∈xs.take i):∃ j,j < i/\xs[j]?=some x:=by
 obtain⟨j,hj⟩:=List.mem_iff_getElem?.mp h;have hlt:=(List.getElem?_eq_some_iff.mp hj).1;rw[List.length_take]at hlt;rw[List.getElem?_take_of_lt (by omega)]at hj
 exact⟨j,by omega,hj⟩
namespace ja
theorem nil:ja [] L:=⟨by simp[nms],fun i p h=>by simp at h,fun i p h=>by simp at h,by simp⟩
theorem xV(G:ja E L)(hn:n∈nms E):∃ i:Nat,E[i]?=some (n,bt E n):=by
 obtain⟨i,hi⟩:=List.mem_iff_getElem?.mp hn;obtain⟨r,hr⟩:=kb hi;exact⟨i,by rw[hr,show bt E n=r from xU G.nd hr]⟩
theorem sub(G:ja E L)(hn:n∈nms E):∀ x∈bt E n,x∈nms E:=fun x hx=>by
 obtain⟨i,hi⟩:=G.xV hn;exact List.mem_of_mem_take ((G.el i _ hi).2.2 x hx)
theorem gd(G:ja E L):Gd E where
 nd:=G.nd
 el:=fun n hn=>G.sub hn
 rk:=⟨fun x=>(nms E).idxOf x,fun n hn x hx=>by
  obtain⟨i,hi⟩:=G.xV hn;obtain⟨j,hj,W4⟩:=gP ((G.el i _ hi).2.2 x hx);have h1:=i9 hi
  have e1:(nms E).idxOf x=j:=by
   have:=(List.getElem?_eq_some_iff.mp W4);obtain⟨a,b⟩:=this;rw[← b];exact List.Nodup.idxOf_getElem G.nd j a
  have e2:(nms E).idxOf n=i:=by
   obtain⟨a,b⟩:=(List.getElem?_eq_some_iff.mp h1);have b:(nms E)[i]=n:=b;rw[← b];exact List.Nodup.idxOf_getElem G.nd i a
  show(nms E).idxOf x < (nms E).idxOf n
  rw[e1,e2];exact hj⟩
 few:=by have:=G.len;omega
 short:=fun n hn=>by
  obtain⟨i,hi⟩:=G.xV hn;have:=(G.el i _ hi).2.1;have:(bt E n).length<=5:=this;omega
theorem Ul(G:ja E L):M8 E L:=fun n hn=>by
 obtain⟨i,hi⟩:=G.xV hn;exact G.ln i _ hi
theorem take(G:ja E L)(k:Nat):ja (E.take k) L where
 nd:=by rw[lD];exact G.nd.sublist (List.take_sublist _ _)
 el:=fun i p h=>by
  have hl:=(List.getElem?_eq_some_iff.mp h).1;rw[List.length_take]at hl;rw[List.getElem?_take_of_lt (by omega)]at h
  obtain⟨h1,h2,h3⟩:=G.el i p h;refine⟨h1,h2,fun x hx => ?_⟩
  rw[lD,List.take_take,Nat.min_eq_left (by omega)]
  exact h3 x hx
 ln:=fun i p h=>by
  have hl:=(List.getElem?_eq_some_iff.mp h).1;rw[List.length_take]at hl;rw[List.getElem?_take_of_lt (by omega)]at h
  exact G.ln i p h
 len:=by have:=G.len;rw[List.length_take];omega
theorem mem(G:ja E L):∀ (k i:Nat) (n:Str),i < k->(nms E)[i]?=some n->∀ x∈L n,x∈nms E:=by
 intro k
 induction k with
 | zero=>intro i n h;omega
 | succ k ih=>
  intro i n hi hn x hx;obtain⟨r,hr⟩:=kb hn;obtain⟨o,M,hL⟩:=G.ln i _ hr;have hL:L n=n::o:=hL;rw[hL]at hx;rcases List.mem_cons.mp hx with z | z
  ·rw[z];exact List.mem_of_getElem? hn
  ·obtain⟨row,h1,h2⟩:=xx M x z
   have hel:=(G.el i _ hr).2.2;rcases List.mem_append.mp h1 with h | h
   ·obtain⟨y,hy,rfl⟩:=List.mem_map.mp h
    obtain⟨j,hj,W5⟩:=gP (hel y hy);exact ih j y (by omega) W5 x h2
   ·rw[List.mem_singleton.mp h]at h2
    exact List.mem_of_mem_take (hel x h2)
theorem short(G:ja E L)(hn:n∈nms E):(L n).length<=13:=by
 obtain⟨i,hi⟩:=List.mem_iff_getElem?.mp hn;obtain⟨r,hr⟩:=kb hi;obtain⟨o,M,hL⟩:=G.ln i _ hr;have hL:L n=n::o:=hL;have h1:=G.mem (i + 1) i n (by omega) hi
 have h2:=og (xs:=nms E) (xy M) (fun x hx=>h1 x (by rw[hL];simp[hx]))
 have h3:(nms E).length=E.length:=by simp[nms]
 have:=G.len;rw[hL];simp;omega
theorem mg(G:ja E L)(hn:n∈nms E):∃ o,Mg ((bt E n).map L++[bt E n]) o/\L n=n::o/\o.length<=12:=by
 obtain⟨o,M,hL⟩:=G.Ul n hn;have:=G.short hn;rw[hL]at this;exact⟨o,M,hL,by simpa using this⟩
theorem xW(G:ja E L)(hs:∀ x∈r,x∈nms E)(hl:r.length<=5):tl (r.map L++[r])<=70:=by
 unfold tl;rw[List.map_append,List.sum_append]
 have key:∀ r:List Str,(∀ x∈r,x∈nms E)->((r.map L).map List.length).sum<=13 * r.length:=by
  intro r hs
  induction r with
  | nil=>simp
  | cons a r ih=>
   have h1:=ih fun x hx=>hs x (by simp[hx])
   have h2:=G.short (hs a (by simp))
   simp only[List.map_cons,List.sum_cons,List.length_cons];omega
 have:=key r hs;simp only[List.map_cons,List.map_nil,List.sum_cons,List.sum_nil];omega
theorem snoc(G:ja E L)(hn:n∉nms E)(hl:E.length < 12)(hrn:r.Nodup)(hrl:r.length<=5)(hs:∀ x∈r,x∈nms E)(M:Mg (r.map L++[r]) o):ja (E++[(n,r)]) (fun x=>if x=n then n::o else L x)/\∀ x∈nms E,(if x=n then n::o else L x)=L x:=by
 have hne:∀ x∈nms E,(if x=n then n::o else L x)=L x:=fun x hx=>if_neg fun (z:x=n)=>hn (z▸hx)
 have hnm:nms (E++[(n,r)])=nms E++[n]:=by simp[nms]
 have hlen:(nms E).length=E.length:=by simp[nms]
 have xX:∀ (i:Nat) (p:Str×List Str),(E++[(n,r)])[i]?=some p->(i < E.length/\E[i]?=some p)\/(i=E.length/\p=(n,r)):=by
  intro i p h
  by_cases q:i < E.length
  ·rw[List.getElem?_append_left q]at h
   exact .inl ⟨q,h⟩
  ·rw[List.getElem?_append_right (by omega)]at h
   have hz:=(List.getElem?_eq_some_iff.mp h).1;simp at hz;have:i=E.length:=by omega
   subst this;simp at h;exact .inr ⟨rfl,h.symm⟩
 refine⟨⟨?_,?_,?_,by simp;omega⟩,hne⟩
 ·rw[hnm]
  exact List.nodup_append.mpr ⟨G.nd,by simp,fun a ha b hb z=>hn (by rw[← List.mem_singleton.mp hb,← z];exact ha)⟩
 ·intro i p h
  rcases xX i p h with ⟨q,h⟩ | ⟨rfl,rfl⟩
  ·obtain⟨h1,h2,h3⟩:=G.el i p h
   refine⟨h1,h2,fun x hx => ?_⟩
   rw[hnm,List.take_append_of_le_length (by omega)]
   exact h3 x hx
  ·refine⟨hrn,hrl,fun x hx => ?_⟩
   rw[hnm,← hlen,List.take_left']
   ·exact hs x hx
   ·rfl
 ·intro i p h
  rcases xX i p h with ⟨q,h⟩ | ⟨rfl,rfl⟩
  ·obtain⟨o',M',hL⟩:=G.ln i p h
   have h3:=(G.el i p h).2.2;refine⟨o',?_,?_⟩
   ·have:p.2.map (fun x=>if x=n then n::o else L x)=p.2.map L:=List.map_congr_left fun x hx=>hne x (List.mem_of_mem_take (h3 x hx))
    rw[this];exact M'
   ·rw[hne p.1 (List.mem_of_getElem? (i9 h))]
    exact hL
  ·refine⟨o,?_,by simp⟩
   have:r.map (fun x=>if x=n then n::o else L x)=r.map L:=List.map_congr_left fun x hx=>hne x (hs x hx)
   show Mg (r.map (fun x=>if x=n then n::o else L x)++[r]) o
   rw[this];exact M
end ja
end
def Um:EM:=(bf (m2 aC (U 1) (U 0)) true (ae .non) (aM (U 5)) 0 [3])
def Qe(LM:ba):EM:=(mN (aK LM) (aa (m2 (aP .Add) Um (mN aR (aa (U 5) af))) af))
def Qf:SM:=(dG (m2 (az .Is) (U 6) (ae .non))
 (ah (ax 5 (mN aR af))
 (ah (ax 6 (mN aR af))
 aj))
 aj)
def Nh:EM:=(m2 (aP .Add) (mN aR (aa (m2 aC (U 0) (U 4)) af)) (U 6))
def Qg(LM:ba):SM:=
 (ah (ax 5 (mN (aQ .list) (aa (m2 aC (U 1) (U 4)) af)))
 (ah (ax 6 (Qe LM))
 (ah Qf
 (ah (ej (U 2) (m2 aC (U 0) (U 4)) (U 5))
 (ah (ej (U 3) (m2 aC (U 0) (U 4)) Nh)
 aj)))))
def Qh(LM:ba):SM:=
 (ah (ax 2 bZ)
 (ah (ax 3 bZ)
 (ah (cF (bV 4) (cK (aa (mN (aQ .len) (aa (U 0) af)) af))
 (Qg LM))
 (ah (bg (mN iQ (aa (U 2) (aa (U 3) af))))
 aj))))
def Tr(_:Nat):Prop:=True
section
variable{Ω ak:aG}{ρ:aU}{x k e l i a:Nat}{js:List Nat}{kvs ck bW:List (Key×D)}{E:f7}{P:Nat->Prop}{n:Str}{r:List Str}{rs:List (List Str)}{xs:List Str}{L:Str->List Str}
theorem xY{mi:IM}{me:EM}{cap:List Nat}(hi:mi ρ Ω=.ok (.seq (.ref a)) Ω)(ha:Ω[a]?=some (.lst (r.map .str)))(he:∀ x∈r,∃ j,me ([oS x]++dS cap ρ) Ω=.ok (.ref j) Ω/\Ω[j]?=some (.lst ((L x).map .str)))(hl:r.length<=100) :
  ∃ js,bf me true (ae .non) mi 0 cap ρ Ω=.ok (.ref Ω.length) (Ω++[.lst (js.map .ref)])/\iw Ω js (r.map L):=by
 obtain⟨ys,ab,e1,js,rfl,h1,rfl⟩:=hG (ρ:=ρ) (me:=me) (mc:=ae .non) (cap:=cap) (ds:=r.map .str) (fun i acc ao=>∃ js,acc=js.map .ref/\iw ao js ((r.take i).map L)/\ao=Ω) hi ⟨[],rfl,.nil,rfl⟩
  (fun i acc ao h=>by
   obtain⟨_,_,_,rfl⟩:=h;rw[cf,aD,aA ha])
  (fun i d acc ao hdi h=>by
   obtain⟨js,rfl,h1,rfl⟩:=h;obtain⟨x,hx,rfl⟩:=eW hdi;obtain⟨j,e,hj⟩:=he x (List.mem_of_getElem? hx);refine⟨.ref j,ao,e,js++[j],by simp,?_,rfl⟩
   rw[List.take_succ,hx,List.map_append];exact h1.snoc hj) (by simp;omega)
 rw[List.length_map,List.take_length]at h1;exact⟨js,e1,h1⟩
theorem mS{b:Nat}{rs':List (List Str)}(h1:Ω[k]?=some (.lst (js.map .ref)))(h2:iw Ω js rs')(h3:Ω[b]?=some (.lst [.ref a]))(ha:Ω[a]?=some (.lst (r.map .str)))(hl:rs'.length<=100) :
  aP .Add (.ref k) (.ref b) Ω=.ok (.ref Ω.length) (Ω++[.lst ((js++[a]).map .ref)])/\Rw (Ω++[.lst ((js++[a]).map .ref)]) Ω.length (js++[a]) (rs'++[r]):=by
 have hlen:=h2.len;have hc:=i8 h1 h3 (by simp;omega)
 have e:js.map D.ref++[.ref a]=(js++[a]).map .ref:=by simp
 rw[e]at hc;exact⟨hc,av,(h2.snoc ha).keep (fp:=[]) ag.app (by simp)⟩
theorem xZ{j:Nat}{md mk mv:EM}{ab:aG}(hv:mv ρ Ω=.ok (.ref j) ab)(hd:md ρ ab=.ok (.ref e) ab)(hk:mk ρ ab=.ok (.str n) ab)(he:ab[e]?=some (.dK kvs))(hl:kvs.length<=1000):ej md mk mv ρ Ω=.nx ρ (ab.set e (.dK (dR kvs (.inr n) (.ref j)))):=by
 unfold ej;rw[hv,cC,hd,cC,hk,cC,rO he hl]
theorem Ey{LM:ba}(hM:AV LM){a5 a6:Option D}(hx:Ω[x]?=some (.lst (xs.map .str)))(R:Rw Ω k js rs)(G:ja E L)(hE:nms E=xs.take i)(hxi:xs[i]?=some n)(hxn:xs.Nodup)(Qi:xs.length<=12)(Ni:rs[i]?=some r)(hrn:r.Nodup)(hrl:r.length<=5)(hrs:∀ y∈r,y∈xs.take i)
  (he:Ω[e]?=some (.dK bW)) (Gf:aL Tr Ω bW E) (hl:Ω[l]?=some (.dK ck)) (Ez:aL Tr Ω ck (dH (nms E) L)) (hel:e≠l) :
  ∃ r' o ek AU EA pY ak,Qg LM [oR x,oR k,oR e,oR l,oI i,a5,a6] Ω=.nx [oR x,oR k,oR e,oR l,oI i,ek,AU] ak/\ag [e,l] Ω ak /\
   ak[e]?=some (.dK EA)/\aL Tr ak EA (E++[(n,r')])/\ak[l]?=some (.dK pY)/\aL Tr ak pY (dH (nms (E++[(n,r')])) (fun x=>if x=n then n::o else L x))/\ja (E++[(n,r')]) (fun x=>if x=n then n::o else L x):=by
 have hil:=(List.getElem?_eq_some_iff.mp hxi).1
 have Ze:E.length=i:=by
  have:(nms E).length=E.length:=by simp[nms]
  rw[hE,List.length_take]at this;omega
 have p6:n∉nms E:=by
  rw[hE];intro hm;obtain⟨j,hj,h⟩:=gP hm;have:=(List.getElem?_inj (by omega) hxn).mp (h.trans hxi.symm)
  omega
 rw[← hE]at hrs;obtain⟨j0,hj0,hrow⟩:=R.al.at Ni;have hix:aC (.ref k) (.int i) Ω=.ok (.ref j0) Ω:=cN R.ce (L2.dm (j:=i) (by simp[hj0]))
 have r1:(ax 5 (mN (aQ .list) (aa (m2 aC (U 1) (U 4)) af))) [oR x,oR k,oR e,oR l,oI i,a5,a6] Ω=.nx [oR x,oR k,oR e,oR l,oI i,oR Ω.length,a6] (Ω++[.lst (r.map .str)]):=by
  rw[bj]
  have:(mN (aQ .list) (aa (m2 aC (U 1) (U 4)) af)) [oR x,oR k,oR e,oR l,oI i,a5,a6] Ω=.ok (.ref Ω.length) (Ω++[.lst (r.map .str)]):=by
   show(((aC (.ref k) (.int i) Ω).bind _).bind _)=_
   rw[hix];exact dB hrow
  rw[this];rfl
 have g1:(Ω++[Cell.lst (r.map .str)])[Ω.length]?=some (.lst (r.map .str)):=av;have K1:ag [] Ω (Ω++[Cell.lst (r.map .str)]):=ag.app;generalize Ω++[Cell.lst (r.map .str)]=ab at *;have hl1:=K1.get _ _ hl (by simp)
 have Qj:=Ez.keep K1 (by simp)
 have eG:aM (U 5) [oR x,oR k,oR e,oR l,oI i,oR Ω.length,a6] ab=.ok (.seq (.ref Ω.length)) ab:=by
  rw[br];exact aY (by rw[aD,aA g1])
 obtain⟨ym,e2,h2⟩:=xY (L:=L) (me:=m2 aC (U 1) (U 0)) (cap:=[3]) eG g1 (fun y hy=>by
  obtain⟨j,hv,_,hj⟩:=Qj.at (n:=y) (by rw[eI];exact hrs y hy)
  rw[hU (hrs y hy)]at hj;exact⟨j,gO (.inl hl1) hv,hj⟩) (by omega)
 have g2:(ab++[Cell.lst (ym.map .ref)])[ab.length]?=some (.lst (ym.map .ref)):=av;have K2:ag [] ab (ab++[Cell.lst (ym.map .ref)]):=ag.app;have e2:Um [oR x,oR k,oR e,oR l,oI i,oR Ω.length,a6] ab=.ok (.ref ab.length) (ab++[.lst (ym.map .ref)]):=e2;generalize ab++[Cell.lst (ym.map .ref)]=ao at *;have g3:(ao++[Cell.lst [.ref Ω.length]])[ao.length]?=some (.lst [.ref Ω.length]):=av;have K3:ag [] ao (ao++[Cell.lst [.ref Ω.length]]):=ag.app
 have e3:(mN aR (aa (U 5) af)) [oR x,oR k,oR e,oR l,oI i,oR Ω.length,a6] ao=.ok (.ref ao.length) (ao++[.lst [.ref Ω.length]]):=by
  show aR [.ref Ω.length] ao=_
  rw[cH,if_pos (aH (by simp))]
 generalize ao++[Cell.lst [.ref Ω.length]]=aO at *;have pZ:=K2.trans K3;obtain⟨e4,R4⟩:=mS (K3.get _ _ g2 (by simp)) (h2.keep pZ (by simp)) g3 (pZ.get _ _ g1 (by simp)) (by simp;omega)
 have K4:ag [] aO (aO++[Cell.lst ((ym++[Ω.length]).map .ref)]):=ag.app;generalize aO++[Cell.lst ((ym++[Ω.length]).map .ref)]=bR at *;obtain⟨d,cg,e5,K5,hd⟩:=hM bR aO.length (ym++[Ω.length]) _ R4 (by simp;omega) (by have:=G.xW hrs hrl;omega)
 have r2:ax 6 (Qe LM) [oR x,oR k,oR e,oR l,oI i,oR Ω.length,a6] ab=.nx [oR x,oR k,oR e,oR l,oI i,oR Ω.length,some d] cg:=by
  rw[bj];unfold Qe;rw[cM,aX,dg,e2,aq,e3,aq,e4,aq,aZ,aq,aq,fK,e5];rfl
 have B2:ag [] Ω cg:=((K1.trans pZ).trans K4).trans K5;have W6:=((pZ.trans K4).trans K5).get _ _ g1 (by simp)
 have hI:∃ r' o a b eo,Qf [oR x,oR k,oR e,oR l,oI i,oR Ω.length,some d] cg=.nx [oR x,oR k,oR e,oR l,oI i,oR a,oR b] eo/\ag [] cg eo/\eo[a]?=some (.lst (r'.map .str))/\eo[b]?=some (.lst (o.map .str))/\r'.Nodup/\r'.length<=5/\(∀ y∈r',y∈nms E)/\Mg (r'.map L++[r']) o:=by
  rcases hd with rfl | ⟨o,q,rfl,hq,M,_⟩
  ·refine⟨[],[],cg.length,cg.length + 1,(cg++[.lst []])++[.lst []],?_,ag.app.trans ag.app,dZ av,?_,by simp,by simp,by simp,.done (by simp)⟩
   ·have a1:(mN aR af) [oR x,oR k,oR e,oR l,oI i,oR Ω.length,some .non] cg=.ok (.ref cg.length) (cg++[.lst []]):=by rw[cM,aZ,aq,cH,if_pos (aH (by simp))]
    have a2:(mN aR af) [oR x,oR k,oR e,oR l,oI i,oR cg.length,some .non] (cg++[.lst []])=.ok (.ref (cg.length + 1)) ((cg++[.lst []])++[.lst []]):=by
     rw[cM,aZ,aq,cH,if_pos (aH (by simp))]
     simp
    unfold Qf;rw[cZ];have:(m2 (az .Is) (U 6) (ae .non)) [oR x,oR k,oR e,oR l,oI i,oR Ω.length,some .non] cg=.ok (.bl true) cg:=rfl;rw[this,dc,bL,dq,cC,if_pos rfl,ai,bj,a1]
    show sq (ax 6 (mN aR af) [oR x,oR k,oR e,oR l,oI i,oR cg.length,some .non] (cg++[.lst []])) _=_
    rw[bj,a2];rfl
   ·have:=av (Ω:=cg++[Cell.lst []]) (c:=.lst []) (l:=[])
    simpa using this
  ·exact⟨r,o,Ω.length,q,cg,rfl,ag.refl,W6,hq,hrn,hrl,hrs,M⟩
 obtain⟨r',o,a,b,eo,r3,K6,ha,hb,q1,q2,q3,M⟩:=hI;have Gg:=B2.trans K6;obtain⟨G',hne⟩:=G.snoc p6 (by omega) q1 q2 q3 M
 have EB:∀ (ao:aG) (b5 b6:Option D),ag [e,l] Ω ao->(m2 aC (U 0) (U 4)) [oR x,oR k,oR e,oR l,oI i,b5,b6] ao=.ok (.str n) ao:=fun ao b5 b6 K=>by
  have n1:x≠e:=fun z=>by
   rw[z,he]at hx;cases hx
  have n2:x≠l:=fun z=>by
   rw[z,hl]at hx;cases hx
  have hx2:=K.get _ _ hx (by simp[n1,n2])
  show aC (.ref x) (.int i) ao=_
  exact cN hx2 (L2.dm (j:=i) (by simp[hxi]))
 have Jb:=Gg.get _ _ he (by simp)
 have W7:=Gg.get _ _ hl (by simp)
 have Qk:=Gf.keep Gg (by simp)
 have Ql:=Ez.keep Gg (by simp)
 have hek:bW.length<=1000:=by have:=Gf.len;omega
 have hlk:ck.length<=1000:=by have:=xO Ez;omega
 have r4:=xZ (ρ:=[oR x,oR k,oR e,oR l,oI i,oR a,oR b]) (md:=U 2) (mk:=m2 aC (U 0) (U 4)) (mv:=U 5) (Ω:=eo) (ab:=eo) (j:=a) rfl rfl (EB eo _ _ (Gg.sub (by simp))) Jb hek
 have K7:ag [e] eo (eo.set e (.dK (dR bW (.inr n) (.ref a)))):=ag.set (by simp)
 have W8:=bh (e:=.dK (dR bW (.inr n) (.ref a))) Jb;have Qm:=(Qk.put p6 (j:=a) (r:=r') trivial ha).cT K7 (fun j hj ds=>by rw[List.mem_singleton.mp hj,Jb];simp)
 have Qn:=Ql.cT K7 (fun j hj ds=>by rw[List.mem_singleton.mp hj,Jb];simp)
 have W9:=K7.get _ _ W7 (by simpa using Ne.symm hel)
 have W_:=K7.get _ _ hb (by
  simp;exact fun z=>by rw[z,Jb]at hb;cases hb)
 have Qo:ag [e,l] Ω (eo.set e (.dK (dR bW (.inr n) (.ref a)))):=(Gg.sub (by simp)).trans (K7.sub (by simp))
 generalize eo.set e (.dK (dR bW (.inr n) (.ref a)))=fX at *;have g8:(fX++[Cell.lst [.str n]])[fX.length]?=some (.lst [.str n]):=av;have K8:ag [] fX (fX++[Cell.lst [.str n]]):=ag.app
 have e8:(mN aR (aa (m2 aC (U 0) (U 4)) af)) [oR x,oR k,oR e,oR l,oI i,oR a,oR b] fX=.ok (.ref fX.length) (fX++[.lst [.str n]]):=by
  rw[cM,aX,EB fX _ _ Qo,aq,aZ,aq,aq,cH,if_pos (aH (by simp))]
 generalize fX++[Cell.lst [.str n]]=tW at *
 have hol:o.length<=13:=by
  have:=G'.short (n:=n) (by simp[nms])
  simp at this;omega
 have e9:=i8 g8 (K8.get _ _ W_ (by simp)) (by simp;omega)
 have ev:Nh [oR x,oR k,oR e,oR l,oI i,oR a,oR b] fX=.ok (.ref tW.length) (tW++[.lst ([.str n]++o.map .str)]):=by
  unfold Nh;have:U 6 [oR x,oR k,oR e,oR l,oI i,oR a,oR b] tW=.ok (.ref b) tW:=rfl;rw[dg,e8,aq,this,aq,e9]
 have g9:(tW++[Cell.lst ([.str n]++o.map .str)])[tW.length]?=some (.lst ((n::o).map .str)):=av;have K9:ag [] fX (tW++[Cell.lst ([.str n]++o.map .str)]):=K8.trans ag.app;generalize tW++[Cell.lst ([.str n]++o.map .str)]=AW at *;have hl9:=K9.get _ _ W9 (by simp)
 have r5:=xZ (ρ:=[oR x,oR k,oR e,oR l,oI i,oR a,oR b]) (md:=U 3) (mk:=m2 aC (U 0) (U 4)) (mv:=Nh) (Ω:=fX) (ab:=AW) (j:=tW.length) ev rfl (EB AW _ _ (Qo.trans (K9.sub (by simp)))) hl9 hlk
 have Gh:ag [l] AW (AW.set l (.dK (dR ck (.inr n) (.ref tW.length)))):=ag.set (by simp)
 have Jc:nms (E++[(n,r')])=nms E++[n]:=by simp[nms]
 have Qp:dH (nms E) L++[(n,n::o)]=dH (nms (E++[(n,r')])) (fun x=>if x=n then n::o else L x):=by
  rw[Jc];unfold dH;rw[List.map_append]
  congr 1
  ·refine List.map_congr_left fun y hy => ?_
   show(y,L y)=(y,if y=n then n::o else L y)
   rw[hne y hy]
  ·simp
 have B4:=((Qn.keep K9 (by simp)).put (n:=n) (by rw[eI];exact p6) (j:=tW.length) (r:=n::o) trivial g9).cT Gh (fun j hj ds=>by rw[List.mem_singleton.mp hj,hl9];simp)
 rw[Qp]at B4;have Xa:∀ j∈[l],∀ ds,AW[j]?≠some (.lst ds):=fun j hj ds=>by rw[List.mem_singleton.mp hj,hl9];simp
 refine⟨r',o,oR a,oR b,_,_,_,?_,(Qo.trans (K9.sub (by simp))).trans (Gh.sub (by simp)),Gh.get _ _ (K9.get _ _ W8 (by simp)) (by simpa using hel),(Qm.keep K9 (by simp)).cT Gh Xa,bh hl9,B4,G'⟩
 unfold Qg;rw[ai,r1,aB,ai,r2,aB,ai,r3,aB,ai,r4,aB,ai,r5];rfl
def AX(CN:ba):Prop:=∀ (Ω:aG) (x k:Nat) (js:List Nat) (xs:List Str) (rs:List (List Str)),Ω[x]?=some (.lst (xs.map .str))->Rw Ω k js rs->rs.length=xs.length->xs.Nodup->xs.length<=12->(∀ i r,rs[i]?=some r->r.Nodup/\r.length<=5/\∀ y∈r,y∈xs.take i) ->
 ∃ E L e l bW ck ak,CN [.ref x,.ref k] Ω=.ok (.tup [.ref e,.ref l]) ak/\ag [] Ω ak/\nms E=xs/\ja E L/\ak[e]?=some (.dK bW)/\aL Tr ak bW E/\ak[l]?=some (.dK ck)/\aL Tr ak ck (dH xs L)/\e≠l
theorem Jd{LM:ba}(hM:AV LM):AX (bN 7 2 (Qh LM)):=by
 intro Ω x k js xs rs hx R hrs hxn Qi hr;rw[bD (by rfl)]
 have e0:a_ 7 [D.ref x,.ref k]=[oR x,oR k,none,none,none,none,none]:=rfl;rw[e0];have K1:ag [] Ω (Ω++[Cell.dK []]):=ag.app;have g1:(Ω++[Cell.dK []])[Ω.length]?=some (.dK []):=av;have l1:(Ω++[Cell.dK []]).length=Ω.length + 1:=by simp
 have r1:ax 2 bZ [oR x,oR k,none,none,none,none,none] Ω=.nx [oR x,oR k,oR Ω.length,none,none,none,none] (Ω++[Cell.dK []]):=rfl;generalize Ω++[Cell.dK []]=ab at *;have K2:ag [] ab (ab++[Cell.dK []]):=ag.app;have g2:(ab++[Cell.dK []])[ab.length]?=some (.dK []):=av;have r2:ax 3 bZ [oR x,oR k,oR Ω.length,none,none,none,none] ab=.nx [oR x,oR k,oR Ω.length,oR ab.length,none,none,none] (ab++[Cell.dK []]):=rfl;generalize ab++[Cell.dK []]=ao at *;have EC:=K1.trans K2;have Xb:=K2.get _ _ g1 (by simp)
 have hx2:=EC.get _ _ hx (by simp)
 have R2:=R.keep EC;have lx:=bF hx;have lk:=bF R.ce;have lj:=R.al.lt;have hel:Ω.length≠ab.length:=by omega
 have hll:=i5 hx2;rw[List.length_map]at hll
 have eG:cK (aa (mN (aQ .len) (aa (U 0) af)) af) [oR x,oR k,oR Ω.length,oR ab.length,none,none,none] ao=.ok (.ints 0 xs.length) ao:=by
  have:(mN (aQ .len) (aa (U 0) af)) [oR x,oR k,oR Ω.length,oR ab.length,none,none,none] ao=.ok (.int xs.length) ao:=hll;rw[pR,aX,this,aq,aZ,aq,aq,tQ,if_pos (fg (by omega) (by omega)),Int.toNat_natCast]
 unfold Qh;rw[ai,r1,aB,ai,r2,aB,ai,df,eG,cC]
 refine cp (R:=fun r=>∃ E L e l bW ck ak,kY (sq r _)=.ok (.tup [.ref e,.ref l]) ak/\ag [] Ω ak/\nms E=xs/\ja E L/\ak[e]?=some (.dK bW)/\aL Tr ak bW E/\ak[l]?=some (.dK ck)/\aL Tr ak ck (dH xs L)/\e≠l) (ds:=intsFrom 0 xs.length)
  (fun i ρ aO=>∃ E L bW ck a4 a5 a6,ρ=[oR x,oR k,oR Ω.length,oR ab.length,a4,a5,a6]/\ag [Ω.length,ab.length] ao aO/\nms E=xs.take i/\ja E L/\aO[Ω.length]?=some (.dK bW)/\aL Tr aO bW E/\aO[ab.length]?=some (.dK ck)/\aL Tr aO ck (dH (nms E) L)) (fun _ _ _ _=>rfl) ?_ ?_ fuel 0 _ _ (by rw[dP];unfold fuel;omega) (Nat.zero_le _) ⟨[],fun _=>[],[],[],none,none,none,rfl,ag.refl,rfl,ja.nil,Xb,.nil,g2,.nil⟩
 ·rintro i d ρ aO hd ⟨E,L,bW,ck,a4,a5,a6,rfl,K,hE,G,he,Gf,hl,hrl⟩
  obtain⟨rfl,hi⟩:=fh hd;have hxi:xs[i]?=some xs[i]:=List.getElem?_eq_getElem hi;have Ni:rs[i]?=some (rs[i]'(by omega)):=List.getElem?_eq_getElem (by omega)
  obtain⟨p1,p2,p3⟩:=hr i _ Ni;have Xc:=K.get _ _ hx2 (by simp;omega)
  have R3:Rw aO k js rs:=R2.pV K (by simp;omega) (fun j hj=>by have:=lj j hj;simp;omega)
  refine⟨[oR x,oR k,oR Ω.length,oR ab.length,some (.int (0 + (i:Int))),a5,a6],rfl,?_⟩;rw[Int.zero_add];obtain⟨r',o,b5,b6,EA,pY,bR,e4,K4,q1,q2,q3,q4,G4⟩:=Ey hM (a5:=a5) (a6:=a6) Xc R3 G hE hxi hxn Qi Ni p1 p2 p3 he Gf hl hrl hel;rw[e4];refine⟨_,_,_,_,_,_,_,rfl,K.trans K4,?_,G4,q1,q2,q3,q4⟩;rw[List.take_succ,hxi,← hE];simp[nms]
 ·rintro ρ aO ⟨E,L,bW,ck,a4,a5,a6,rfl,K,hE,G,he,Gf,hl,hrl⟩
  rw[dP,List.take_length]at hE;rw[hE]at hrl;refine⟨E,L,Ω.length,ab.length,bW,ck,aO,?_,ag.new EC K (by simp;omega),hE,G,he,Gf,hl,hrl,hel⟩
  rw[aB,ai,de]
  have:(mN iQ (aa (U 2) (aa (U 3) af))) [oR x,oR k,oR Ω.length,oR ab.length,a4,a5,a6] aO=.ok (.tup [.ref Ω.length,.ref ab.length]) aO:=by
   show iQ [.ref Ω.length,.ref ab.length] aO=_
   rw[j7,if_pos (aH (by simp))]
  rw[this];rfl
end
section
variable{Ω ak:aG}{ρ:aU}{e q h j:Nat}{kvs bW:List (Key×D)}{E:f7}{P:Nat->Prop}{n:Str}{r:List Str}{L:Str->List Str}
theorem cA.dD{a:Nat}{kv:List (Key×D)}(h:cA Ω a kv)(he:cA Ω e bW):cA (Ω.set e (.dF bW)) a kv:=by
 by_cases z:a=e
 ·subst z
  have:kv=bW:=by
   rcases h with h | h<;>rcases he with he | he<;>rw[h]at he<;>cases he<;>rfl
  subst this;exact .inr (xI he)
 ·exact h.imp (fun y=>cJ y z) fun y=>cJ y z
theorem bX.dD(H:bX P Ω h E L)(he:cA Ω e bW):bX P (Ω.set e (.dF bW)) h E L:=by
 obtain⟨e',l,kv,ck,h1,h2,h3,h4,h5⟩:=H;have K:ag [e] Ω (Ω.set e (.dF bW)):=ag.set (by simp)
 have nl:∀ j∈[e],∀ ds,Ω[j]?≠some (.lst ds):=fun j hj ds=>by rw[List.mem_singleton.mp hj];exact he.nl ds
 exact⟨e',l,kv,ck,cJ h1 (fun z=>he.ni _ _ (z▸h1)),h2.dD he,h3.cT K nl,h4.dD he,h5.cT K nl⟩
theorem bX.hlt(H:bX P Ω h E L):h < Ω.length:=by
 obtain⟨_,_,_,_,z,_⟩:=H;exact bF z
theorem bX.nl(H:bX P Ω h E L){ds:List D}:Ω[h]?≠some (.lst ds):=by
 obtain⟨_,_,_,_,z,_⟩:=H;rw[z];simp
def Nj(kv:Key×D):D:=.tup [jh kv.1,kv.2]
theorem AY(h:Ω[e]?=some (.dF kvs)):eR (.items e) Ω=some (kvs.map Nj):=by simp only[eR,h];rfl
def Qq(AD:ba):SM:=
 (ah (ax 4 (mN (aQ .list) (aa (U 3) af)))
 (ah (cm (aV "House" "add" (fun xs=>AD (xs++[.non])) (U 1) (aa (U 2) (aa (U 4) af))))
 (ah (cm (cV ik bq (U 4) (aa (ae (.str "zz")) af)))
 aj)))
def Qr(IN AD:ba):SM:=
 (ah (ax 1 (mN (jk "House" IN) af))
 (ah (cF (fF [2,3]) (kU (U 0))
 (Qq AD))
 (ah (bg (U 1))
 aj)))
theorem ED{AD:ba}(hA:AK AD){i:Nat}{a0 a4:Option D}(H:bX Tr Ω h (E.take i) L)(G:ja E L)(hi:E[i]?=some (n,r))(hv:AH n)(hj:Ω[j]?=some (.lst (r.map .str))) :
  ∃ lR ak,Qq AD [a0,oR h,oS n,oR j,a4] Ω=.nx [a0,oR h,oS n,oR j,lR] ak/\bX Tr ak h (E.take (i + 1)) L/\ag [h] Ω ak:=by
 have hil:=(List.getElem?_eq_some_iff.mp hi).1;have hlen:=G.len;have hts:E.take (i + 1)=E.take i++[(n,r)]:=by rw[List.take_succ,hi];rfl
 have G1:=G.take (i + 1)
 have p6:n∉nms (E.take i):=by
  have:=G1.nd;rw[hts]at this;simp only[nms,List.map_append,List.map_cons,List.map_nil]at this;have h2:=(List.nodup_append.mp this).2.2;exact fun z=>h2 n z n (by simp) rfl
 obtain⟨p1,p2,p3⟩:=G.el i _ hi;have p2:r.length<=5:=p2
 have r1:(ax 4 (mN (aQ .list) (aa (U 3) af))) [a0,oR h,oS n,oR j,a4] Ω=.nx [a0,oR h,oS n,oR j,oR Ω.length] (Ω++[.lst (r.map .str)]):=by
  rw[bj];have:(mN (aQ .list) (aa (U 3) af)) [a0,oR h,oS n,oR j,a4] Ω=.ok (.ref Ω.length) (Ω++[.lst (r.map .str)]):=dB hj;rw[this];rfl
 have g1:(Ω++[Cell.lst (r.map .str)])[Ω.length]?=some (.lst (r.map .str)):=av;have K1:ag [] Ω (Ω++[Cell.lst (r.map .str)]):=ag.app;have l1:(Ω++[Cell.lst (r.map .str)]).length=Ω.length + 1:=by simp
 have H1:bX (fun x=>x≠Ω.length) (Ω++[Cell.lst (r.map .str)]) h (E.take i) L:=(H.lt.imp (P':=fun x=>x≠Ω.length) fun x hx=>by omega).keep K1
 have lh:=H.hlt;generalize Ω++[Cell.lst (r.map .str)]=ab at *
 obtain⟨ao,e2,H2,K2⟩:=hA ab h Ω.length (E.take i) L L _ n r H1 g1 hv p6 (by rw[List.length_take];omega) p1 p2 (by rw[lD];exact p3) (by rw[← hts];exact G1.gd) (by rw[← hts];exact G1.Ul) (by
  rw[← hts];intro m hm;have:=G1.short hm;omega) (fun x hx=>by omega)
 rw[← hts]at H2
 have r2:(cm (aV "House" "add" (fun xs=>AD (xs++[.non])) (U 1) (aa (U 2) (aa (U 4) af)))) [a0,oR h,oS n,oR j,oR Ω.length] ab=.nx [a0,oR h,oS n,oR j,oR Ω.length] ao:=by
  rw[cI,dh H1 rfl (by decide)]
  show bU (lE (AD [.ref h,.str n,.ref Ω.length,.non] ab)) _=_
  rw[e2];rfl
 have g2:=K2.get _ _ g1 (by simp;omega)
 have hap:=dX (d:=.str "zz") g2 (by simp;omega)
 have r3:(cm (cV ik bq (U 4) (aa (ae (.str "zz")) af))) [a0,oR h,oS n,oR j,oR Ω.length] ao=.nx [a0,oR h,oS n,oR j,oR Ω.length] (ao.set Ω.length (.lst (r.map .str++[.str "zz"]))):=by
  rw[cI,ft (x:=.ref Ω.length) (ak:=ao) rfl (eF g2)]
  show bU (bq (.ref Ω.length) [.str "zz"] ao) _=_
  rw[hap];rfl
 have K3:ag [Ω.length] ao (ao.set Ω.length (.lst (r.map .str++[.str "zz"]))):=ag.set (by simp)
 refine⟨oR Ω.length,_,?_,(H2.B1 K3 g2 (by simp)).imp fun _ _=>trivial,⟨Nat.le_trans K1.len (Nat.le_trans K2.len K3.len),fun k c hk hn=>K3.get k c (K2.get k c (K1.get k c hk (by simp)) hn) (by have:=bF hk;simp;omega)⟩⟩
 unfold Qq;rw[ai,r1,aB,ai,r2,aB,ai,r3];rfl
def AZ(BU:ba):Prop:=∀ (Ω:aG) (e:Nat) (bW:List (Key×D)) (E:f7) (L:Str->List Str),cA Ω e bW->aL Tr Ω bW E->ja E L->(∀ n∈nms E,AH n) ->
 ∃ h ak,BU [.ref e] Ω=.ok (.ref h) ak/\bX Tr ak h E L/\ag [e] Ω ak/\ak[e]?=some (.dF bW)/\Ω.length<=h
theorem Je{IN AD:ba}(hN:AJ IN)(hA:AK AD):AZ (bN 5 1 (Qr IN AD)):=by
 intro Ω e bW E L hd hr G hv;rw[bD (by rfl)]
 have e0:a_ 5 [D.ref e]=[oR e,none,none,none,none]:=rfl;rw[e0];obtain⟨ab,e1,H1,K1⟩:=hN Ω L Tr
 have r1:(ax 1 (mN (jk "House" IN) af)) [oR e,none,none,none,none] Ω=.nx [oR e,oR Ω.length,none,none,none] ab:=by
  rw[bj,cM,aZ,aq,e1];rfl
 have hd1:=hd.keep K1 (by simp)
 have hr1:=hr.keep K1 (by simp)
 have H2:=H1.dD hd1;have f2:=xI hd1;have K2:ag [e] ab (ab.set e (.dF bW)):=ag.set (by simp)
 have hr2:=hr1.cT K2 (fun j hj ds=>by rw[List.mem_singleton.mp hj];exact hd1.nl ds)
 have eG:kU (U 0) [oR e,oR Ω.length,none,none,none] ab=.ok (.items e) (ab.set e (.dF bW)):=Iu hd1;have le:=hd.lt;generalize ab.set e (.dF bW)=ao at *;have hlen:=G.len;have hlk:=hr.len;unfold Qr;rw[ai,r1,aB,ai,df,eG,cC]
 refine cp (R:=fun r=>∃ h ak,kY (sq r _)=.ok (.ref h) ak/\bX Tr ak h E L/\ag [e] Ω ak/\ak[e]?=some (.dF bW)/\Ω.length<=h) (ds:=bW.map Nj)
  (fun i ρ aO=>∃ a2 a3 a4,ρ=[oR e,oR Ω.length,a2,a3,a4]/\bX Tr aO Ω.length (E.take i) L/\ag [Ω.length] ao aO) ?_ ?_ ?_ fuel 0 _ _ (by rw[List.length_map];unfold fuel;omega) (Nat.zero_le _) ⟨none,none,none,rfl,by rw[List.take_zero];exact H2,ag.refl⟩
 ·rintro i ρ aO ⟨_,_,_,_,_,K⟩
  exact AY (K.get _ _ f2 (by simp;omega))
 ·rintro i d ρ aO hdi ⟨a2,a3,a4,rfl,H3,K⟩
  have Nb:=hr2.cT K (fun j hj ds=>by rw[List.mem_singleton.mp hj];exact H2.nl)
  rw[List.getElem?_map]at hdi;obtain⟨kv,hkv,rfl⟩:=Option.map_eq_some_iff.mp hdi;obtain⟨⟨n,r⟩,hi,hk,j,hj,_,hrow⟩:=aJ.get (R:=fun (kv:Key×D) (p:Str×List Str)=>kv.1=.inr p.1/\∃ j,kv.2=.ref j/\Tr j/\aO[j]?=some (.lst (p.2.map .str))) Nb hkv
  have hit:Nj kv=.tup [.str n,.ref j]:=by
   unfold Nj;rw[hk,hj];rfl
  rw[hit];refine⟨[oR e,oR Ω.length,oS n,oR j,a4],rfl,?_⟩;obtain⟨lR,bR,e4,H4,K4⟩:=ED hA (a0:=oR e) (a4:=a4) H3 G hi (hv n (List.mem_of_getElem? (i9 hi))) hrow;rw[e4];exact⟨_,_,_,rfl,H4,K.trans K4⟩
 ·rintro ρ aO ⟨a2,a3,a4,rfl,H3,K⟩
  rw[List.length_map,← hlk,List.take_length]at H3;refine⟨Ω.length,aO,rfl,H3,⟨Nat.le_trans K1.len (Nat.le_trans K2.len K.len),fun k c hk hn=>K.get k c (K2.get k c (K1.get k c hk (by simp)) hn) (by have:=bF hk;simp;omega)⟩,K.get _ _ f2 (by simp;omega),Nat.le_refl _⟩
end
section
variable{Ω ak:aG}{ρ:aU}{e q h j k:Nat}{js:List Nat}{kvs bW:List (Key×D)}{E:f7}{P:Nat->Prop}{n:Str}{r row:List Str}{rs:List (List Str)}{L:Str->List Str}
theorem Xd{j:Nat}{is:List Nat}(R:Rw Ω k js rs)(R':Rw Ω j is rs):az .NotEq (.ref k) (.ref j) Ω=.ok (.bl false) Ω:=by
 rw[tN,g_,eU (n:=6) (rs:=js) (L:=rs) R.ce R.al,eU (n:=6) (rs:=is) (L:=rs) R'.ce R'.al,i0]
 have e:dI .NotEq (LL rs) (LL rs)=.ok false:=by
  rw[xp,xu 6,xv];simp
 rw[e];rfl
theorem Uo{j:Nat}{is:List Nat}(R:Rw Ω k js rs)(R':Rw Ω j is rs):az .Eq (.ref k) (.ref j) Ω=.ok (.bl true) Ω:=by
 rw[j4,g_,eU (n:=6) (rs:=js) (L:=rs) R.ce R.al,eU (n:=6) (rs:=is) (L:=rs) R'.ce R'.al,i0]
 have e:dI .Eq (LL rs) (LL rs)=.ok true:=by
  rw[xo,xu 6,xv];simp
 rw[e];rfl
theorem B5{ds:List D}(h:Ω[j]?=some (.lst ds)):fm .list (.ref j) Ω=.ok (.bl true) Ω:=by
 unfold fm;simp only[zd,DF,h];rfl
def Up:EM:=(bf (m1 (fm .str) (U 0)) true (ae .non) (aM (U 0)) 0 [])
def Qs:SM:=(ah (bg (eQ (m1 (fm .list) (U 0)) (mN (aQ .all) (aa Up af)))) aj)
def x6(TX:ba):Prop:=∀ (Ω:aG) (j:Nat) (row:List Str),Ω[j]?=some (.lst (row.map .str))->row.length<=1000->∃ ak,TX [.ref j] Ω=.ok (.bl true) ak/\ag [] Ω ak
theorem Jf:x6 (bN 1 1 Qs):=by
 intro Ω j row h hl;rw[bD (by rfl)]
 have e0:a_ 1 [D.ref j]=[oR j]:=rfl;rw[e0]
 obtain⟨ab,e1,K1⟩:=rL (ρ:=[oR j]) (me:=m1 (fm .str) (U 0)) (mi:=aM (U 0)) (cap:=[]) (p:=fun _=>true) h (by
  rw[br];exact aY (by rw[aD,aA h])) (fun x _=>rfl) (by omega)
 have:(row.all fun _=>true)=true:=by simp
 rw[this]at e1;refine⟨ab,?_,K1⟩;unfold Qs;have e2:(m1 (fm .list) (U 0)) [oR j] Ω=.ok (.bl true) Ω:=B5 h;have e1:(mN (aQ .all) (aa Up af)) [oR j] Ω=.ok (.bl true) ab:=e1;rw[ai,de,iZ,e2,aq,bL,tH,e1];rfl
def Uq(LN:ba):EM:=(bf (aV "House" "line" LN (U 1) (aa (U 0) af)) true (ae .non) (aM (m2 aC (U 1) (U 2))) 0 [0])
def Nk(LN:ba):EM:=(m2 (aP .Add) (Uq LN) (mN aR (aa (m2 aC (U 1) (U 2)) af)))
def Qt(TX:ba):EM:=(mN (aQ .all) (aa (bf (mN (aK TX) (aa (U 0) af)) true (ae .non) (aM (U 3)) 0 []) af))
def Nl(TX:ba):EM:=(sW (eY (m1 (fm .list) (U 3))) (sW (m2 (az .NotEq) (U 3) (U 4)) (eY (Qt TX))))
def Nm:EM:=(cj (U 6) false (ae (.int 1)) true (ae .non))
def Nn(MG IM:ba):EM:=(sW (m2 (az .NotEq) (mN (aK MG) (aa (U 7) af)) Nm) (m2 (az .IsNot) (mN (aK IM) (aa (U 3) (aa Nm af))) (ae (.bl true))))
def Np:SM:=(ah (cm (cV ik bq (U 5) (aa (ae (.str "zz")) af))) aj)
def Qu(RO LN:ba):EM:=(eQ (m2 (az .Eq) (aV "House" "rows_of" RO (U 0) (aa (U 2) af)) (U 4)) (m2 (az .Eq) (aV "House" "line" LN (U 0) (aa (U 2) af)) (U 6)))
def Nq:SM:=(ah (bg (ae (.bl false))) aj)
def Qv(RO LN TX MG IM:ba):SM:=
 (ah (ax 3 (aV "House" "rows_of" RO (U 0) (aa (U 2) af)))
 (ah (ax 4 (Nk LN))
 (ah (dG (Nl TX) Nq aj)
 (ah (ax 6 (aV "House" "line" LN (U 0) (aa (U 2) af)))
 (ah (ax 7 (pW 3))
 (ah (dG (Nn MG IM) Nq aj)
 (ah (cF (bV 5) (aM (U 3)) Np)
 (ah (cm (cV ik bq (U 3) (aa (mN aR (aa (ae (.str "zz")) af)) af)))
 (ah (bg (Qu RO LN))
 aj)))))))))
theorem EE{LN:ba}(hN:rP LN){a3 a4 a5 a6 a7:Option D}(H:bX Tr Ω h E L)(hd:cA Ω e bW)(hr:aL P Ω bW E)(G:ja E L)(hn:n∈nms E) :
  ∃ js a d ak,Nk LN [oR h,oR e,oS n,a3,a4,a5,a6,a7] Ω=.ok (.ref d) ak/\Rw ak d (js++[a]) ((bt E n).map L++[bt E n])/\ag [] Ω ak/\Ω.length<=d/\(∀ j∈js,Ω.length<=j)/\P a:=by
 obtain⟨a,hv,Xe,ha⟩:=hr.at hn;have hix:∀ ao,ag [] Ω ao->(m2 aC (U 1) (U 2)) [oR h,oR e,oS n,a3,a4,a5,a6,a7] ao=.ok (.ref a) ao:=fun ao K=>gO (hd.keep K (by simp)) hv
 have eG:aM (m2 aC (U 1) (U 2)) [oR h,oR e,oS n,a3,a4,a5,a6,a7] Ω=.ok (.seq (.ref a)) Ω:=by
  rw[br,hix Ω ag.refl,aq];exact aY (by rw[aD,aA ha])
 have hsh:(bt E n).length<=100:=G.gd.short n hn
 obtain⟨ys,ab,e1,js,rfl,h1,K1,h2⟩:=hG (ρ:=[oR h,oR e,oS n,a3,a4,a5,a6,a7]) (me:=aV "House" "line" LN (U 1) (aa (U 0) af)) (mc:=ae .non) (cap:=[0]) (ds:=(bt E n).map .str) (fun i acc ao=>∃ js,acc=js.map .ref/\iw ao js (((bt E n).take i).map L)/\ag [] Ω ao/\∀ j∈js,Ω.length<=j) eG ⟨[],rfl,.nil,ag.refl,by simp⟩
  (fun i acc ao h=>by
   obtain⟨_,_,_,K,_⟩:=h;rw[cf,aD,aA (K.get _ _ ha (by simp))])
  (fun i d acc ao hdi hI=>by
   obtain⟨js,rfl,h1,K,h2⟩:=hI;obtain⟨x,hx,rfl⟩:=eW hdi;have H2:=H.keep K;obtain⟨q,aO,e3,g3,K3,l3⟩:=hN ao h E L Tr x H2 (G.sub hn x (List.mem_of_getElem? hx));refine⟨.ref q,aO,?_,js++[q],by simp,?_,K.trans K3,?_⟩
   ·show aV "House" "line" LN (U 1) (aa (U 0) af) [oS x,oR h] ao=_
    rw[dh H2 rfl (by decide)]
    show lE (LN [.ref h,.str x] ao)=_
    rw[e3];rfl
   ·rw[List.take_succ,hx,List.map_append]
    exact(h1.keep K3 (by simp)).snoc g3
   ·intro y hy
    have:=K.len;rcases List.mem_append.mp hy with h | h
    ·exact h2 y h
    ·rw[List.mem_singleton.mp h];omega) (by simp;omega)
 rw[List.length_map,List.take_length]at h1;have e1:Uq LN [oR h,oR e,oS n,a3,a4,a5,a6,a7] Ω=.ok (.ref ab.length) (ab++[.lst (js.map .ref)]):=e1;have g2:(ab++[Cell.lst (js.map .ref)])[ab.length]?=some (.lst (js.map .ref)):=av;have K2:ag [] Ω (ab++[Cell.lst (js.map .ref)]):=K1.trans ag.app;have h2':iw (ab++[Cell.lst (js.map .ref)]) js ((bt E n).map L):=h1.keep (fp:=[]) ag.app (by simp)
 generalize ab++[Cell.lst (js.map .ref)]=ao at *
 have e3:(mN aR (aa (m2 aC (U 1) (U 2)) af)) [oR h,oR e,oS n,a3,a4,a5,a6,a7] ao=.ok (.ref ao.length) (ao++[.lst [.ref a]]):=by
  rw[cM,aX,hix ao K2,aq,aZ,aq,aq,cH,if_pos (aH (by simp))]
 have g3:(ao++[Cell.lst [.ref a]])[ao.length]?=some (.lst [.ref a]):=av;have K3:ag [] ao (ao++[Cell.lst [.ref a]]):=ag.app;generalize ao++[Cell.lst [.ref a]]=aO at *;obtain⟨e4,R4⟩:=mS (K3.get _ _ g2 (by simp)) (h2'.keep K3 (by simp)) g3 ((K2.trans K3).get _ _ ha (by simp)) (by simp;omega)
 refine⟨js,a,aO.length,_,?_,R4,(K2.trans K3).trans ag.app,(K2.trans K3).len,h2,Xe⟩;unfold Nk;rw[dg,e1,aq,e3,aq,e4]
theorem EG{TX:ba}(hT:x6 TX){a0 a1 a2 a4 a5 a6 a7:Option D}(R:Rw Ω k js rs)(hl:rs.length<=1000)(hr:∀ r∈rs,r.length<=1000) :
  ∃ ak,Qt TX [a0,a1,a2,oR k,a4,a5,a6,a7] Ω=.ok (.bl true) ak/\ag [] Ω ak:=by
 have hL:=R.len
 have eG:aM (U 3) [a0,a1,a2,oR k,a4,a5,a6,a7] Ω=.ok (.seq (.ref k)) Ω:=by
  rw[br];exact aY (by rw[aD,aA R.ce])
 obtain⟨ys,ab,e1,rfl,K1⟩:=hG (ρ:=[a0,a1,a2,oR k,a4,a5,a6,a7]) (me:=mN (aK TX) (aa (U 0) af)) (mc:=ae .non) (cap:=[]) (ds:=js.map .ref) (fun i acc ao=>acc=(List.replicate i true).map .bl/\ag [] Ω ao) eG ⟨rfl,ag.refl⟩
  (fun i acc ao h=>by rw[cf,aD,aA (R.keep h.2).ce])
  (fun i d acc ao hdi hI=>by
   obtain⟨rfl,K⟩:=hI;obtain⟨j,hj,rfl⟩:=gN hdi;obtain⟨row,Xf,hrow⟩:=(R.keep K).al.at' hj;obtain⟨aO,e3,K3⟩:=hT ao j row hrow (hr row (List.mem_of_getElem? Xf));refine⟨.bl true,aO,?_,?_,K.trans K3⟩
   ·show lE (TX [.ref j] ao)=_
    rw[e3];rfl
   ·rw[List.replicate_succ',List.map_append]
    rfl) (by simp;omega)
 have ha:=oa (Ω:=ab++[Cell.lst ((List.replicate (js.map D.ref).length true).map .bl)]) (q:=ab.length) av;refine⟨ab++[Cell.lst ((List.replicate (js.map D.ref).length true).map .bl)],?_,K1.trans ag.app⟩;unfold Qt;rw[cM,aX,e1,aq,aZ,aq,aq,ha]
 congr 2
 simp
theorem Jg{a0 a1 a2 a4 a5 a6 a7:Option D}(R:Rw Ω k js rs)(hk:k∉js)(hl:rs.length<=100)(hr:∀ r∈rs,r.length<=100) :
  ∃ ek ak,cF (bV 5) (aM (U 3)) Np [a0,a1,a2,oR k,a4,a5,a6,a7] Ω=.nx [a0,a1,a2,oR k,a4,ek,a6,a7] ak/\ag js Ω ak:=by
 have hL:=R.len
 have eG:aM (U 3) [a0,a1,a2,oR k,a4,a5,a6,a7] Ω=.ok (.seq (.ref k)) Ω:=by
  rw[br];exact aY (by rw[aD,aA R.ce])
 rw[df,eG,cC];refine cp (R:=fun r=>∃ ek ak,r=.nx [a0,a1,a2,oR k,a4,ek,a6,a7] ak/\ag js Ω ak) (ds:=js.map .ref) (fun i ρ ao=>∃ ek,ρ=[a0,a1,a2,oR k,a4,ek,a6,a7]/\(∀ j∈js,∃ ds,ao[j]?=some (.lst ds)/\ds.length<=100 + i)/\ag js Ω ao) ?_ ?_ ?_ fuel 0 _ _ (by unfold fuel;simp;omega) (Nat.zero_le _) ⟨a5,rfl,fun j hj => ?_,ag.refl⟩
 ·rintro i ρ ao ⟨_,_,_,K⟩
  rw[cf,aD,aA (K.get _ _ R.ce hk)]
 ·rintro i d ρ ao hdi ⟨ek,rfl,hI,K⟩
  obtain⟨j,hj,rfl⟩:=gN hdi;have hi:=(List.getElem?_eq_some_iff.mp hj).1;have Ur:j∈js:=List.mem_of_getElem? hj;obtain⟨ds,hds,hdl⟩:=hI j Ur;refine⟨[a0,a1,a2,oR k,a4,oR j,a6,a7],rfl,?_⟩;have hap:=dX (d:=.str "zz") hds (by omega)
  have:Np [a0,a1,a2,oR k,a4,oR j,a6,a7] ao=.nx [a0,a1,a2,oR k,a4,oR j,a6,a7] (ao.set j (.lst (ds++[.str "zz"]))):=by
   unfold Np;rw[ai,cI,ft (x:=.ref j) (ak:=ao) rfl (eF hds)]
   show sq (bU (bq (.ref j) [.str "zz"] ao) _) _=_
   rw[hap];rfl
  rw[this];refine⟨_,rfl,fun y hy => ?_,K.trans (ag.set Ur)⟩
  by_cases z:y=j
  ·subst z
   exact⟨_,bh hds,by simp;omega⟩
  ·obtain⟨ds',h1,h2⟩:=hI y hy
   exact⟨ds',cJ h1 z,by omega⟩
 ·rintro ρ ao ⟨ek,rfl,_,K⟩
  exact⟨ek,ao,rfl,K⟩
 ·obtain⟨i,hi⟩:=List.mem_iff_getElem?.mp hj
  obtain⟨row,h1,h2⟩:=R.al.at' hi;exact⟨_,h2,by have:=hr row (List.mem_of_getElem? h1);simp;omega⟩
end
section
variable{Ω ak:aG}{ρ:aU}{e q h j k:Nat}{js:List Nat}{kvs bW:List (Key×D)}{E:f7}{P:Nat->Prop}{n:Str}{r row:List Str}{rs:List (List Str)}{L:Str->List Str}
theorem EH{TX:ba}(hT:x6 TX){a0 a1 a2 a5 a6 a7:Option D}{d:Nat}{ds:List Nat}(R:Rw Ω k js rs)(R':Rw Ω d ds rs)(hl:rs.length<=1000)(hr:∀ r∈rs,r.length<=1000) :
  ∃ ak,Nl TX [a0,a1,a2,oR k,oR d,a5,a6,a7] Ω=.ok (.bl false) ak/\ag [] Ω ak:=by
 obtain⟨ab,e1,K1⟩:=EG hT (a0:=a0) (a1:=a1) (a2:=a2) (a4:=oR d) (a5:=a5) (a6:=a6) (a7:=a7) R hl hr;refine⟨ab,?_,K1⟩
 have e2:(eY (m1 (fm .list) (U 3))) [a0,a1,a2,oR k,oR d,a5,a6,a7] Ω=.ok (.bl false) Ω:=by
  have:(m1 (fm .list) (U 3)) [a0,a1,a2,oR k,oR d,a5,a6,a7] Ω=.ok (.bl true) Ω:=B5 R.ce;rw[jZ,this];rfl
 have e3:(m2 (az .NotEq) (U 3) (U 4)) [a0,a1,a2,oR k,oR d,a5,a6,a7] Ω=.ok (.bl false) Ω:=Xd R R';unfold Nl;rw[nU,e2,aq,bL,tI,nU,e3,aq,bL,tI,jZ,e1];rfl
theorem x8{a0 a1 a2 a3 a4 a5 a7:Option D}(hq:Ω[q]?=some (.lst (row.map .str))):Nm [a0,a1,a2,a3,a4,a5,oR q,a7] Ω=.ok (.ref Ω.length) (Ω++[.lst (row.tail.map .str)]):=tV hq rfl
theorem EI{MG IM:ba}(hM:rK MG)(hI:Ay IM){a0 a1 a2 a4 a5:Option D}{o:List Str}{k':Nat}{dQ:List Nat}(R:Rw Ω k js rs)(R':Rw Ω k' dQ rs)(hq:Ω[q]?=some (.lst ((n::o).map .str)))(M:Mg rs o)(hl:rs.length<=1000)(ho:o.length<=900) :
  ∃ ak,Nn MG IM [a0,a1,a2,oR k,a4,a5,oR q,oR k'] Ω=.ok (.bl false) ak/\ag [] Ω ak:=by
 obtain⟨m,ab,e1,g1,l1,K1⟩:=hM Ω k' dQ rs o R' M hl ho
 have e1:(mN (aK MG) (aa (U 7) af)) [a0,a1,a2,oR k,a4,a5,oR q,oR k'] Ω=.ok (.ref m) ab:=by
  show lE (MG [.ref k'] Ω)=_
  rw[e1];rfl
 have hq1:=K1.get _ _ hq (by simp)
 have e2:=x8 (a0:=a0) (a1:=a1) (a2:=a2) (a3:=oR k) (a4:=a4) (a5:=a5) (a7:=oR k') hq1;have g2:(ab++[Cell.lst ((n::o).tail.map .str)])[ab.length]?=some (.lst (o.map .str)):=av;have K2:ag [] ab (ab++[Cell.lst ((n::o).tail.map .str)]):=ag.app;generalize ab++[Cell.lst ((n::o).tail.map .str)]=ao at *;have e3:=n6 (K2.get _ _ g1 (by simp)) g2
 have EC:=K1.trans K2;have hq2:=EC.get _ _ hq (by simp)
 have e4:=x8 (a0:=a0) (a1:=a1) (a2:=a2) (a3:=oR k) (a4:=a4) (a5:=a5) (a7:=oR k') hq2;have g4:(ao++[Cell.lst ((n::o).tail.map .str)])[ao.length]?=some (.lst (o.map .str)):=av;have K4:ag [] ao (ao++[Cell.lst ((n::o).tail.map .str)]):=ag.app;generalize ao++[Cell.lst ((n::o).tail.map .str)]=bR at *;obtain⟨cg,e5,K5⟩:=hI bR k ao.length js rs o o ((R.keep EC).keep K4) g4 M hl ho;refine⟨cg,?_,(EC.trans K4).trans K5⟩
 have e6:(mN (aK IM) (aa (U 3) (aa Nm af))) [a0,a1,a2,oR k,a4,a5,oR q,oR k'] ao=.ok (.bl true) cg:=by
  have hv:U 3 [a0,a1,a2,oR k,a4,a5,oR q,oR k'] ao=.ok (.ref k) ao:=rfl;rw[cM,aX,hv,aq,aX,e4,aq,aZ,aq,aq,aq,fK,e5,decide_eq_true rfl];rfl
 unfold Nn;rw[nU,dg,e1,aq,e2,aq,e3,decide_eq_true rfl,aq,bL]
 show Mir.By (some false) _ _=_
 rw[tI,dg,e6,aq];rfl
theorem EJ{RO LN:ba}(hR:u5 RO)(hN:rP LN){a1 a3 a5 a7:Option D}{d:Nat}{ds:List Nat}(H:bX Tr Ω h E L)(G:ja E L)(hn:n∈nms E)(R:Rw Ω d ds ((bt E n).map L++[bt E n]))(hq:Ω[q]?=some (.lst ((L n).map .str))) :
  ∃ ak,Qu RO LN [oR h,a1,oS n,a3,oR d,a5,oR q,a7] Ω=.ok (.bl true) ak/\ag [] Ω ak:=by
 obtain⟨js,k,ab,e1,R1,K1,_⟩:=hR Ω h E L Tr n H G.gd hn
 have e1:aV "House" "rows_of" RO (U 0) (aa (U 2) af) [oR h,a1,oS n,a3,oR d,a5,oR q,a7] Ω=.ok (.ref k) ab:=by
  rw[dh H rfl (by decide)]
  show lE (RO [.ref h,.str n] Ω)=_
  rw[e1];rfl
 have H1:=H.keep K1;obtain⟨m,ao,e2,g2,K2,_⟩:=hN ab h E L Tr n H1 hn
 have e2:aV "House" "line" LN (U 0) (aa (U 2) af) [oR h,a1,oS n,a3,oR d,a5,oR q,a7] ab=.ok (.ref m) ao:=by
  rw[dh H1 rfl (by decide)]
  show lE (LN [.ref h,.str n] ab)=_
  rw[e2];rfl
 have c1:=Uo R1 (R.keep K1);have c2:=j9 g2 ((K1.trans K2).get _ _ hq (by simp))
 refine⟨ao,?_,K1.trans K2⟩;unfold Qu;have v1:U 4 [oR h,a1,oS n,a3,oR d,a5,oR q,a7] ab=.ok (.ref d) ab:=rfl;have v2:U 6 [oR h,a1,oS n,a3,oR d,a5,oR q,a7] ao=.ok (.ref q) ao:=rfl;rw[iZ,dg,e1,aq,v1,aq,c1,aq,bL,tH,dg,e2,aq,v2,aq,c2,decide_eq_true rfl]
def x9(RR:ba):Prop:=∀ (Ω:aG) (h e:Nat) (bW:List (Key×D)) (E:f7) (L:Str->List Str) (n:Str),bX Tr Ω h E L->cA Ω e bW->aL Tr Ω bW E->ja E L->n∈nms E->∃ ak,RR [.ref h,.ref e,.str n] Ω=.ok (.bl true) ak/\ag [] Ω ak
theorem Jh{RO LN TX MG IM:ba}(hR:u5 RO)(hN:rP LN)(hT:x6 TX)(hM:rK MG)(hI:Ay IM):x9 (bN 8 3 (Qv RO LN TX MG IM)):=by
 intro Ω h e bW E L n H hd hr G hn;rw[bD (by rfl)]
 have e0:a_ 8 [D.ref h,.ref e,.str n]=[oR h,oR e,oS n,none,none,none,none,none]:=rfl;rw[e0];obtain⟨o,M,B0,ho⟩:=G.mg hn
 have hrow:(bt E n).length<=5:=by
  obtain⟨i,hi⟩:=G.xV hn;exact(G.el i _ hi).2.1
 have hrl:∀ r∈(bt E n).map L++[bt E n],r.length<=100:=fun r hr=>by
  rcases List.mem_append.mp hr with z | z
  ·obtain⟨x,hx,rfl⟩:=List.mem_map.mp z
   have:=G.short (G.sub hn x hx);omega
  ·rw[List.mem_singleton.mp z];omega
 have hll:((bt E n).map L++[bt E n]).length<=100:=by simp;omega
 obtain⟨js,k,ab,e1,R1,K1,l1,lj,hkj⟩:=hR Ω h E L Tr n H G.gd hn
 have r1:ax 3 (aV "House" "rows_of" RO (U 0) (aa (U 2) af)) [oR h,oR e,oS n,none,none,none,none,none] Ω=.nx [oR h,oR e,oS n,oR k,none,none,none,none] ab:=by
  rw[bj,dh H rfl (by decide)]
  show bU (lE (RO [.ref h,.str n] Ω)) _=_
  rw[e1];rfl
 have H1:=H.keep K1;have hr1:aL (fun j=>j < Ω.length) ab bW E:=(hr.lt.imp fun j hj=>hj.2).keep K1 (by simp)
 obtain⟨ym,a,d,ao,e2,R2,K2,l2,Xg,la⟩:=EE hN (a3:=oR k) (a4:=none) (a5:=none) (a6:=none) (a7:=none) H1 (hd.keep K1 (by simp)) hr1 G hn
 have r2:ax 4 (Nk LN) [oR h,oR e,oS n,oR k,none,none,none,none] ab=.nx [oR h,oR e,oS n,oR k,oR d,none,none,none] ao:=by
  rw[bj,e2];rfl
 have Xh:=R1.keep K2;obtain⟨aO,e3,K3⟩:=EH hT (a0:=oR h) (a1:=oR e) (a2:=oS n) (a5:=none) (a6:=none) (a7:=none) Xh R2 (by omega) (fun r hr=>by have:=hrl r hr;omega)
 have r3:dG (Nl TX) Nq aj [oR h,oR e,oS n,oR k,oR d,none,none,none] ao=.nx [oR h,oR e,oS n,oR k,oR d,none,none,none] aO:=by
  rw[cZ,e3];rfl
 have pZ:=K2.trans K3;have H3:=H1.keep pZ;obtain⟨q,bR,e4,g4,K4,l4⟩:=hN aO h E L Tr n H3 hn
 have r4:ax 6 (aV "House" "line" LN (U 0) (aa (U 2) af)) [oR h,oR e,oS n,oR k,oR d,none,none,none] aO=.nx [oR h,oR e,oS n,oR k,oR d,none,oR q,none] bR:=by
  rw[bj,dh H3 rfl (by decide)]
  show bU (lE (LN [.ref h,.str n] aO)) _=_
  rw[e4];rfl
 have Us:=pZ.trans K4;obtain⟨Zf,k5,cg,e5,K5,R5,_,_,_⟩:=tR (ρ:=[oR h,oR e,oS n,oR k,oR d,none,oR q,none]) (i:=3) rfl (R1.keep Us) (by omega)
 have r5:ax 7 (pW 3) [oR h,oR e,oS n,oR k,oR d,none,oR q,none] bR=.nx [oR h,oR e,oS n,oR k,oR d,none,oR q,oR k5] cg:=by
  rw[bj,e5];rfl
 have II:=Us.trans K5;have g5:=K5.get _ _ g4 (by simp)
 rw[B0]at g5;obtain⟨eo,e6,K6⟩:=EI hM hI (a0:=oR h) (a1:=oR e) (a2:=oS n) (a4:=oR d) (a5:=none) (R1.keep II) R5 g5 M (by omega) (by omega)
 rw[← B0]at g5
 have r6:dG (Nn MG IM) Nq aj [oR h,oR e,oS n,oR k,oR d,none,oR q,oR k5] cg=.nx [oR h,oR e,oS n,oR k,oR d,none,oR q,oR k5] eo:=by
  rw[cZ,e6];rfl
 have Ut:=II.trans K6;have Uu:=R1.keep Ut;obtain⟨a5,fX,r7,K7⟩:=Jg (a0:=oR h) (a1:=oR e) (a2:=oS n) (a4:=oR d) (a5:=none) (a6:=oR q) (a7:=oR k5) Uu hkj hll hrl;have Uv:=K7.get _ _ Uu.ce hkj;have K8:ag [] fX (fX++[Cell.lst [.str "zz"]]):=ag.app
 have e8:(aa (mN aR (aa (ae (.str "zz")) af)) af:AM) [oR h,oR e,oS n,oR k,oR d,a5,oR q,oR k5] fX=.ok [.ref fX.length] (fX++[Cell.lst [.str "zz"]]):=by
  have:(mN aR (aa (ae (.str "zz")) af)) [oR h,oR e,oS n,oR k,oR d,a5,oR q,oR k5] fX=.ok (.ref fX.length) (fX++[Cell.lst [.str "zz"]]):=by
   show aR [.str "zz"] fX=_
   rw[cH,if_pos (aH (by simp))]
  rw[aX,this];rfl
 have Xi:=K8.get _ _ Uv (by simp)
 have hjl:js.length<=100:=by have:=R1.len;omega
 have hap:=dX (d:=.ref fX.length) Xi (by simp;omega)
 have r8:(cm (cV ik bq (U 3) (aa (mN aR (aa (ae (.str "zz")) af)) af))) [oR h,oR e,oS n,oR k,oR d,a5,oR q,oR k5] fX=.nx [oR h,oR e,oS n,oR k,oR d,a5,oR q,oR k5] ((fX++[Cell.lst [.str "zz"]]).set k (.lst (js.map .ref++[.ref fX.length]))):=by
  rw[cI,ft (x:=.ref k) (ak:=fX) rfl (eF Uv),e8,aq,hap];rfl
 have K9:ag [k] (fX++[Cell.lst [.str "zz"]]) ((fX++[Cell.lst [.str "zz"]]).set k (.lst (js.map .ref++[.ref fX.length]))):=ag.set (by simp)
 generalize (fX++[Cell.lst [.str "zz"]]).set k (.lst (js.map .ref++[.ref fX.length]))=AW at *;have Qw:ag (k::js) eo AW:=((K7.sub (by simp +contextual)).trans (eV.up K8)).trans (K9.sub (by simp))
 have Uw:ag [] Ω AW:=ag.new (K1.trans Ut) Qw (fun y hy=>by
  rcases List.mem_cons.mp hy with z | z
  ·rw[z];exact l1
  ·exact lj y z)
 have H9:=H.keep Uw
 have EK:∀ y∈k::js,y < ab.length:=fun y hy=>by
  rcases List.mem_cons.mp hy with z | z
  ·rw[z];exact bF R1.ce
  ·exact R1.al.lt y z
 have Qx:∀ y∈k::js,Ω.length<=y:=fun y hy=>by
  rcases List.mem_cons.mp hy with z | z
  ·rw[z];exact l1
  ·exact lj y z
 have Xj:ag [] ao eo:=((K3.trans K4).trans K5).trans K6
 have R9:Rw AW d (ym++[a]) ((bt E n).map L++[bt E n]):=(R2.keep Xj).pV Qw (fun z=>by have:=EK d z;omega) (fun y hy z=>by
  have h1:=EK y z;have h2:=Qx y z;rcases List.mem_append.mp hy with w | w
  ·have:=Xg y w;omega
  ·rw[List.mem_singleton.mp w]at h2;omega)
 have g9:=Qw.get _ _ (K6.get _ _ g5 (by simp)) (fun z=>by
  have h1:=EK q z;have:=pZ.len;omega)
 obtain⟨Qy,e10,Gh⟩:=EJ hR hN (a1:=oR e) (a3:=oR k) (a5:=a5) (a7:=oR k5) H9 G hn R9 g9;refine⟨Qy,?_,Uw.trans Gh⟩;unfold Qv;rw[ai,r1,aB,ai,r2,aB,ai,r3,aB,ai,r4,aB,ai,r5,aB,ai,r6,aB,ai,r7,aB,ai,r8,aB,ai,de,e10];rfl
end
theorem A0:∃ μ,lp μ (pureOf (bN 8 3 mO)):=by
 have h:∀ c t m:Int,∃ r,0<=t->t < 100000->0 < m->0<=r/\r < m/\pureOf (bN 8 3 mO) [.int c,.int t,.int m]=.ok (false,.int r):=fun c t m=>by
  by_cases hh:0<=t/\t < 100000/\0 < m
  ·obtain⟨r,h1,h2,h3⟩:=Au (c:=c) hh.1 hh.2.1 hh.2.2
   exact⟨r,fun _ _ _=>⟨h1,h2,h3⟩⟩
  ·exact⟨0,fun a b c=>absurd ⟨a,b,c⟩ hh⟩
 exact⟨fun c t m=>(h c t m).choose,fun c t m=>(h c t m).choose_spec⟩
def oh:SM:=
 (ah (dG (m2 (az .Lt) (U 1) (mN (aQ .len) (aa (U 0) af)))
 (ah (bg (m2 aC (U 0) (U 1)))
 aj)
 aj)
 (ah (bg (ae (.int 0)))
 aj))
theorem Ji(ns:List Int):DN (SC ns)=true:=by
 show(ns.map D.int).all fb=true
 rw[List.all_eq_true];intro d hd;obtain⟨i,_,rfl⟩:=List.mem_map.mp hd;rfl
theorem x_:jn (fun ns k=>ns.getD k 0) (pureOf (bN 2 2 oh)):=by
 intro ns k
 have hpl:[SC ns,D.int k].all DN=true:=by
  simp only[List.all_cons,Ji,List.all_nil];rfl
 have e0:a_ 2 [SC ns,D.int k]=[some (SC ns),some (.int k)]:=rfl
 have hlen:aQ .len [SC ns] []=.ok (.int ns.length) []:=by
  show ay.ok (D.int ((ns.map D.int).length:Nat)) []=_
  rw[List.length_map]
 refine mM (ak:=[]) hpl ?_ rfl;rw[bD (by rfl),e0]
 by_cases h:k < ns.length
 ·have hi:(k:Int) < (ns.length:Int):=by omega
  have e:L2.jH (ns.map D.int) (k:Int)=some (.int (ns.getD k 0)):=L2.dm (by simp[h])
  have hx:aC (SC ns) (.int k) []=.ok (.int (ns.getD k 0)) []:=by
   unfold aC;rw[fW,fW,j5]
   show gS (ixs [] (some (ns.map D.int)) (.int k)) _=_
   rw[xC e];rfl
  simp[oh,hlen,hi,hx,-List.getD_eq_getElem?_getD]
 ·have hi:¬ (k:Int) < (ns.length:Int):=by omega
  have e:ns.getD k 0=0:=by rw[List.getD_eq_getElem?_getD,List.getElem?_eq_none (by omega)];rfl
  show _=ay.ok (D.int (ns.getD k 0)) []
  rw[e];simp[oh,hlen,hi]
section
variable{Ω ak:aG}{ρ:aU}{F:List D->Out Rs}{μ:Int->Int->Int->Int}{c:Int}{m:Nat}
end
section
variable{Ω ak:aG}{ρ:aU}{F:List D->Out Rs}{μ:Int->Int->Int->Int}{c:Int}{m:Nat}{S:Str}
def A1(i j:Nat):EM:=(m2 (aP .Add) (cj (U i) false (U j) true (ae .non)) (cj (U i) true (ae .non) false (U j)))
theorem ya{i j q t:Nat}{ws:List Str}(hi:ρ[i]?=some (oR q))(hj:ρ[j]?=some (oI t))(hq:Ω[q]?=some (.lst (ws.map .str)))(hl:ws.length<=1000):∃ k ak,A1 i j ρ Ω=.ok (.ref k) ak/\ak[k]?=some (.lst ((ws.drop t++ws.take t).map .str))/\ag [] Ω ak/\Ω.length<=k:=by
 have s1:=DZ (i:=t) hq;have g3:(Ω++[Cell.lst ((ws.drop t).map .str)])[Ω.length]?=some (.lst ((ws.drop t).map .str)):=av;have K4:ag [] Ω (Ω++[Cell.lst ((ws.drop t).map .str)]):=ag.app;have AF:=K4.get _ _ hq (by simp)
 generalize Ω++[Cell.lst ((ws.drop t).map .str)]=bR at *;have s2:=n5 (n:=t) AF;have g4:(bR++[Cell.lst ((ws.take t).map .str)])[bR.length]?=some (.lst ((ws.take t).map .str)):=av;have K5:ag [] bR (bR++[Cell.lst ((ws.take t).map .str)]):=ag.app;have Xk:=K5.get _ _ g3 (by simp)
 generalize bR++[Cell.lst ((ws.take t).map .str)]=cg at *;have hc:=i8 Xk g4 (by simp;omega)
 refine⟨cg.length,cg++[.lst ((ws.drop t).map .str++(ws.take t).map .str)],?_,by rw[List.map_append];exact av,(K4.trans K5).trans ag.app,(K4.trans K5).len⟩
 unfold A1;simp only[dg,i6,gZ,hi,hj,gY,aq,Ar,Aq,As,s1,s2,hc]
theorem p8{t:Nat}(ws:List Str):(ws.drop t++ws.take t).Perm ws:=by
 have:=(List.perm_append_comm (l₁:=ws.drop t) (l₂:=ws.take t));rwa[List.take_append_drop]at this
def rQ(S:Str):Prop:=S.cps.toList.length=8/\∀ x∈S.cps.toList,97<=x/\x<=122
theorem EL(c0 c1 c2 c3 c4 c5 c6 c7:Nat):vW .join (.str "") (.tup [.lst [.str (bE c0),.str (bE c1),.str (bE c2),.str (bE c3),.str (bE c4),.str (bE c5),.str (bE c6),.str (bE c7)]])=.ok (false,.str ⟨#[c0,c1,c2,c3,c4,c5,c6,c7]⟩):=rfl
def Ux(F:List D->Out Rs):EM:=(bf (m2 aC (U 2) (mN (bY F) (aa (U 1) (aa (U 0) (aa (ae (.int 26)) af))))) true (ae .non) (cK (aa (ae (.int 8)) af)) 0 [0,2])
def Nr(F:List D->Out Rs):EM:=(cV zJ mH (ae (.str "")) (aa (Ux F) af))
theorem EN(hμ:lp μ F){a1 a3 a4 a5 a6 a7 a8 a9 a10:Option D}:∃ S ak,Nr F [oI c,a1,oS abc,a3,a4,a5,a6,a7,a8,a9,a10] Ω=.ok (.str S) ak/\rQ S/\ag [] Ω ak:=by
 have Qz:lK 8=true:=fg (by omega) (by omega)
 have h:=dk (Ω:=Ω) (ak:=Ω) (ρ:=[oI c,a1,oS abc,a3,a4,a5,a6,a7,a8,a9,a10]) (me:=m2 aC (U 2) (mN (bY F) (aa (U 1) (aa (U 0) (aa (ae (.int 26)) af))))) (nc:=true) (mc:=ae .non) (mi:=cK (aa (ae (.int 8)) af)) (cap:=[0,2]) (src:=.ints 0 8) (ds:=intsFrom 0 8) (p:=fun _=>true)
  (g:=fun d=>match d with | .int j=>.str (bE (97 + (μ c j 26).toNat)) | _=>.non) (by simp[Qz]) rfl (fun d hd=>rfl) (fun d hd _=>by
   obtain⟨i,hi⟩:=List.mem_iff_getElem?.mp hd;obtain⟨rfl,hlt⟩:=fh hi;obtain⟨q0,q1,q⟩:=hμ c (0 + (i:Int)) 26 (by omega) (by omega) (by omega)
   generalize (0:Int) + (i:Int)=j at *;have hab:=tF q0 q1;simp[dS,q,hab]) (by rw[dP];omega)
 rw[List.filter_eq_self.mpr (by simp)]at h
 have hb:∀ j:Int,0<=j->j < 100000->97<=97 + (μ c j 26).toNat/\97 + (μ c j 26).toNat<=122:=fun j h0 h1=>by
  obtain⟨q0,q1,_⟩:=hμ c j 26 h0 h1 (by omega)
  omega
 refine⟨⟨#[97 + (μ c (0 + 0) 26).toNat,97 + (μ c (0 + 1) 26).toNat,97 + (μ c (0 + 2) 26).toNat,97 + (μ c (0 + 3) 26).toNat,97 + (μ c (0 + 4) 26).toNat,97 + (μ c (0 + 5) 26).toNat,97 + (μ c (0 + 6) 26).toNat,97 + (μ c (0 + 7) 26).toNat]⟩,_,?_,?_,ag.app (l:=[.lst ((intsFrom 0 8).map fun d=>match d with | .int j=>.str (bE (97 + (μ c j 26).toNat)) | _=>.non)])⟩
 ·unfold Nr
  rw[ft (x:=.str "") (ak:=Ω) rfl rfl]
  have hr:eX (Ω++[.lst ((intsFrom 0 8).map fun d=>match d with | .int j=>.str (bE (97 + (μ c j 26).toNat)) | _=>.non)]) 8 (.ref Ω.length)=some (.lst [.str (bE (97 + (μ c (0 + 0) 26).toNat)),.str (bE (97 + (μ c (0 + 1) 26).toNat)),.str (bE (97 + (μ c (0 + 2) 26).toNat)),.str (bE (97 + (μ c (0 + 3) 26).toNat)),.str (bE (97 + (μ c (0 + 4) 26).toNat)),.str (bE (97 + (μ c (0 + 5) 26).toNat)),.str (bE (97 + (μ c (0 + 6) 26).toNat)),.str (bE (97 + (μ c (0 + 7) 26).toNat))]):=
   j3 av rfl
  unfold Ux;rw[aX,h];simp only[aq,aZ,mH,nW,j2,hr,i0,EL,Ak]
 ·refine⟨rfl,fun x hx => ?_⟩
  simp only[List.mem_cons,List.not_mem_nil,or_false]at hx;rcases hx with rfl | rfl | rfl | rfl | rfl | rfl | rfl | rfl<;>exact hb _ (by omega) (by omega)
noncomputable def i_(S:Str)(i:Nat):Str:=⟨(S.cps.toList.take (i + 1)).toArray⟩
theorem Jj(h:rQ S){i:Nat}(hi:i < 8):AH (i_ S i):=by
 have hl:(i_ S i).length=i + 1:=by
  show(S.cps.toList.take (i + 1)).toArray.size=_
  have:=h.1;rw[List.size_toArray,List.length_take];omega
 refine⟨by omega,by omega,fun x hx=>h.2 x (List.mem_of_mem_take (i:=i + 1) ?_)⟩
 have:(i_ S i).cps.toList=S.cps.toList.take (i + 1):=rfl;rwa[this]at hx
theorem EO(h:rQ S)(hm:m<=8):((List.range m).map (i_ S)).Nodup:=by
 refine List.pairwise_map.mpr (List.Pairwise.imp_of_mem (fun {a b} ha hb hne he=>hne ?_) (List.nodup_range (n:=m)))
 have h1:=List.mem_range.mp ha;have h2:=List.mem_range.mp hb;have h8:=h.1;have h3:=congrArg (fun z:Str=>z.cps.toList.length) he
 simp only[i_,List.length_take]at h3;omega
def QA:EM:=(bf (cj (U 1) true (ae .non) false (m2 (aP .Add) (U 0) (ae (.int 1)))) true (ae .non) (cK (aa (U 1) af)) 0 [3])
theorem ER(h:rQ S)(hm:m<=12){a0 a2 a4 a5 a6 a7 a8 a9 a10:Option D}:QA [a0,oI m,a2,oS S,a4,a5,a6,a7,a8,a9,a10] Ω=.ok (.ref Ω.length) (Ω++[.lst (((List.range m).map (i_ S)).map .str)]):=by
 have hin:lK (m:Int)=true:=fg (by omega) (by omega)
 have hSl:S.length=8:=by simpa[Str.length] using h.1
 have QB:small S.length=true:=aH (by omega)
 have hD:=dk (Ω:=Ω) (ak:=Ω) (ρ:=[a0,oI m,a2,oS S,a4,a5,a6,a7,a8,a9,a10]) (me:=cj (U 1) true (ae .non) false (m2 (aP .Add) (U 0) (ae (.int 1)))) (nc:=true) (mc:=ae .non) (mi:=cK (aa (U 1) af)) (cap:=[3]) (src:=.ints 0 m) (ds:=intsFrom 0 m) (p:=fun _=>true)
  (g:=fun d=>match d with | .int j=>.str ⟨(cX S.cps.toList none (some (j + 1))).toArray⟩ | _=>.non) (by simp[hin]) rfl (fun d hd=>rfl) (fun d hd _=>by
   obtain⟨i,hi⟩:=List.mem_iff_getElem?.mp hd;obtain⟨rfl,hlt⟩:=fh hi;generalize (0:Int) + (i:Int)=j;simp[dS,QB]) (by rw[dP];omega)
 rw[List.filter_eq_self.mpr (by simp),jo,List.map_map]at hD
 have e:((List.range m).map ((fun d:D=>match d with | .int j=>D.str ⟨(cX S.cps.toList none (some (j + 1))).toArray⟩ | _=>.non) ∘ fun (i:Nat)=>D.int i))=((List.range m).map (i_ S)).map .str:=by
  rw[List.map_map];refine List.map_congr_left fun i _ => ?_
  show D.str ⟨(cX S.cps.toList none (some ((i:Int) + 1))).toArray⟩=.str (i_ S i)
  rw[show(i:Int) + 1=((i + 1:Nat):Int) by omega,rE]
  rfl
 rw[e]at hD;exact hD
def sgn(f st:Int)(i:Nat):Nat:=97 + ((f + st * (i:Int)) % 26).toNat
def QC:EM:=(bf (m2 aC (U 2) (m2 (aP .Mod) (m2 (aP .Add) (U 1) (m2 (aP .Mult) (U 3) (U 0))) (ae (.int 26)))) true (ae .non) (cK (aa (U 1) af)) 0 [8,2,9])
theorem ES{f st:Int}(hs0:1<=st)(hs:st < 26)(hm:m<=12){a0 a3 a4 a5 a6 a7 a10:Option D}:QC [a0,oI m,oS abc,a3,a4,a5,a6,a7,oI f,oI st,a10] Ω=.ok (.ref Ω.length) (Ω++[.lst (((List.range m).map fun i=>bE (sgn f st i)).map .str)]):=by
 have hin:lK (m:Int)=true:=fg (by omega) (by omega)
 have i1:kr st=true:=iY (by omega) (by omega)
 have hD:=dk (Ω:=Ω) (ak:=Ω) (ρ:=[a0,oI m,oS abc,a3,a4,a5,a6,a7,oI f,oI st,a10]) (me:=m2 aC (U 2) (m2 (aP .Mod) (m2 (aP .Add) (U 1) (m2 (aP .Mult) (U 3) (U 0))) (ae (.int 26)))) (nc:=true) (mc:=ae .non) (mi:=cK (aa (U 1) af)) (cap:=[8,2,9]) (src:=.ints 0 m) (ds:=intsFrom 0 m) (p:=fun _=>true)
  (g:=fun d=>match d with | .int j=>.str (bE (97 + ((f + st * j) % 26).toNat)) | _=>.non) (by simp[hin]) rfl (fun d hd=>rfl) (fun d hd _=>by
   obtain⟨i,hi⟩:=List.mem_iff_getElem?.mp hd;obtain⟨rfl,hlt⟩:=fh hi;generalize hj:(0:Int) + (i:Int)=j;have i2:kr j=true:=iY (by omega) (by omega)
   have hab:=tF (q:=(f + st * j) % 26) (by omega) (by omega)
   simp[dS,i1,i2,hab]) (by rw[dP];omega)
 rw[List.filter_eq_self.mpr (by simp),jo,List.map_map]at hD
 have e:((List.range m).map ((fun d:D=>match d with | .int j=>D.str (bE (97 + ((f + st * j) % 26).toNat)) | _=>.non) ∘ fun (i:Nat)=>D.int i))=((List.range m).map fun i=>bE (sgn f st i)).map .str:=by
  rw[List.map_map];exact List.map_congr_left fun i _=>rfl
 rw[e]at hD;exact hD
noncomputable def rR(S:Str)(sz pl:Nat)(z:Str):Str:=((⟨(S.cps.toList.take pl).toArray⟩:Str)++z)++(⟨((S.cps.toList.drop (pl + 1)).take (sz - (pl + 1))).toArray⟩:Str)
theorem rS{sz pl:Nat}{c:Nat}:(rR S sz pl (bE c)).cps.toList=(S.cps.toList.take pl++[c])++(S.cps.toList.drop (pl + 1)).take (sz - (pl + 1)):=by
 unfold rR;rw[Str.cps_append,Str.cps_append];simp[bE]
theorem QD(h:rQ S){sz pl:Nat}{c:Nat}(hz:sz<=8)(hp:pl < sz)(hc:97<=c/\c<=122):AH (rR S sz pl (bE c)):=by
 have h8:=h.1
 have hl:(rR S sz pl (bE c)).length=sz:=by
  have:(rR S sz pl (bE c)).length=(rR S sz pl (bE c)).cps.toList.length:=by simp[Str.length]
  rw[this,rS];simp only[List.length_append,List.length_take,List.length_drop,List.length_singleton];omega
 refine⟨by omega,by omega,fun x hx => ?_⟩
 rw[rS]at hx;simp only[List.mem_append,List.mem_singleton]at hx;rcases hx with (hx | rfl) | hx
 ·exact h.2 x (List.mem_of_mem_take hx)
 ·exact hc
 ·exact h.2 x (List.mem_of_mem_drop (List.mem_of_mem_take hx))
theorem Jk(h:rQ S){sz pl:Nat}{f st:Int}(hm:m<=12)(hs:st=1\/st=3\/st=5\/st=7):((List.range m).map fun i=>rR S sz pl (bE (sgn f st i))).Nodup:=by
 refine List.pairwise_map.mpr (List.Pairwise.imp_of_mem (fun {a b} ha hb hne he=>hne ?_) (List.nodup_range (n:=m)))
 have h1:=List.mem_range.mp ha;have h2:=List.mem_range.mp hb;have h3:=congrArg (fun z:Str=>z.cps.toList) he
 simp only[rS]at h3;have h4:=List.append_cancel_right h3;have h5:=List.append_cancel_left h4;have h6:sgn f st a=sgn f st b:=by simpa using h5
 unfold sgn at h6;rcases hs with rfl | rfl | rfl | rfl<;>omega
def Uy:EM:=(bf (m2 (aP .Add) (m2 (aP .Add) (cj (U 3) true (ae .non) false (U 2)) (U 0)) (cj (U 3) false (m2 (aP .Add) (U 2) (ae (.int 1))) false (U 1))) true (ae .non) (aM (U 10)) 0 [6,7,3])
theorem ET(h:rQ S){sz pl q:Nat}{cs:List Nat}(hz:sz<=8)(hp:pl < sz)(hq:Ω[q]?=some (.lst ((cs.map bE).map .str)))(hl:cs.length<=1000){a0 a1 a2 a4 a5 a8 a9:Option D}:Uy [a0,a1,a2,oS S,a4,a5,oI sz,oI pl,a8,a9,oR q] Ω=.ok (.ref Ω.length) (Ω++[.lst ((cs.map fun c=>rR S sz pl (bE c)).map .str)]):=by
 have hSl:S.length=8:=by simpa[Str.length] using h.1
 have QB:small S.length=true:=aH (by omega)
 have h8:=h.1
 have hD:=dk (Ω:=Ω) (ak:=Ω) (ρ:=[a0,a1,a2,oS S,a4,a5,oI sz,oI pl,a8,a9,oR q]) (me:=m2 (aP .Add) (m2 (aP .Add) (cj (U 3) true (ae .non) false (U 2)) (U 0)) (cj (U 3) false (m2 (aP .Add) (U 2) (ae (.int 1))) false (U 1))) (nc:=true) (mc:=ae .non) (mi:=aM (U 10)) (cap:=[6,7,3]) (src:=.seq (.ref q)) (ds:=(cs.map bE).map .str) (p:=fun _=>true)
  (g:=fun d=>match d with | .str z=>.str (rR S sz pl z) | _=>.non) (by
   rw[br];exact aY (by rw[aD,aA hq])) (by rw[cf,aD,aA hq]) (fun d hd=>rfl) (fun d hd _=>by
   obtain⟨z,hz',rfl⟩:=List.mem_map.mp hd;obtain⟨c,_,rfl⟩:=List.mem_map.mp hz';have c1:cX S.cps.toList none (some (pl:Int))=S.cps.toList.take pl:=rE _ _
   have c2:cX S.cps.toList (some ((pl:Int) + 1)) (some (sz:Int))=(S.cps.toList.drop (pl + 1)).take (sz - (pl + 1)):=by
    rw[show(pl:Int) + 1=((pl + 1:Nat):Int) by omega,xr]
   have one:(bE c).length=1:=rfl
   have l1:(⟨(S.cps.toList.take pl).toArray⟩:Str).length<=8:=by
    show(S.cps.toList.take pl).toArray.size<=8
    rw[List.size_toArray,List.length_take];omega
   have l2:(⟨((S.cps.toList.drop (pl + 1)).take (sz - (pl + 1))).toArray⟩:Str).length<=8:=by
    show((S.cps.toList.drop (pl + 1)).take (sz - (pl + 1))).toArray.size<=8
    rw[List.size_toArray,List.length_take];omega
   have Xl:small ((⟨(S.cps.toList.take pl).toArray⟩:Str).length + (bE c).length)=true:=aH (by omega)
   have Xm:small (((⟨(S.cps.toList.take pl).toArray⟩:Str)++bE c).length + (⟨((S.cps.toList.drop (pl + 1)).take (sz - (pl + 1))).toArray⟩:Str).length)=true:=aH (by rw[Str.length_append];omega)
   generalize hw:bE c=w at *;simp[dS,QB,c1,c2,Xl,Xm,rR]) (by simp;omega)
 rw[List.filter_eq_self.mpr (by simp),List.map_map,List.map_map]at hD
 have e:(cs.map (((fun d:D=>match d with | .str z=>D.str (rR S sz pl z) | _=>.non) ∘ D.str) ∘ bE))=(cs.map fun c=>rR S sz pl (bE c)).map .str:=by
  rw[List.map_map];exact List.map_congr_left fun i _=>rfl
 rw[e]at hD;exact hD
def Gi(F:List D->Out Rs):SM:=(dG (eQ (m2 (az .LtE) (U 1) (ae (.int 8))) (m2 (az .Eq) (mN (bY F) (aa (U 0) (aa (ae (.int 9)) (aa (ae (.int 4)) af)))) (ae (.int 1))))
 (ah (ax 5 QA)
 (ah (bg (A1 5 4))
 aj))
 aj)
def QE(F:List D->Out Rs):SM:=
 (ah (ax 2 (ae (.str "abcdefghijklmnopqrstuvwxyz")))
 (ah (ax 3 (Nr F))
 (ah (ax 4 (mN (bY F) (aa (U 0) (aa (ae (.int 8)) (aa (U 1) af)))))
 (ah (Gi F)
 (ah (ax 6 (m2 (aP .Add) (ae (.int 1)) (mN (bY F) (aa (U 0) (aa (ae (.int 10)) (aa (ae (.int 8)) af))))))
 (ah (ax 7 (mN (bY F) (aa (U 0) (aa (ae (.int 11)) (aa (U 6) af)))))
 (ah (ax 8 (mN (bY F) (aa (U 0) (aa (ae (.int 12)) (aa (ae (.int 26)) af)))))
 (ah (ax 9 (m2 aC (mN aR (aa (ae (.int 1)) (aa (ae (.int 3)) (aa (ae (.int 5)) (aa (ae (.int 7)) af))))) (mN (bY F) (aa (U 0) (aa (ae (.int 13)) (aa (ae (.int 4)) af))))))
 (ah (ax 10 QC)
 (ah (bg Uy)
 aj))))))))))
def A2(N:ba):Prop:=∀ (Ω:aG) (c:Int) (m:Nat),1<=m->m<=12->∃ (xs:List Str) (q:Nat) (ak:aG),xs.Nodup/\(∀ x∈xs,AH x)/\xs.length=m/\N [.int c,.int m] Ω=.ok (.ref q) ak/\ak[q]?=some (.lst (xs.map .str))/\ag [] Ω ak
theorem Jl(hμ:lp μ F):A2 (bN 11 2 (QE F)):=by
 intro Ω c m hm1 hm;rw[bD (by rfl)]
 have e0:a_ 11 [D.int c,.int m]=[oI c,oI m,none,none,none,none,none,none,none,none,none]:=rfl;rw[e0];obtain⟨t0,t1,ht⟩:=hμ c 8 (m:Int) (by omega) (by omega) (by omega)
 obtain⟨w0,w1,hw⟩:=hμ c 9 4 (by omega) (by omega) (by omega)
 obtain⟨z0,z1,hz⟩:=hμ c 10 8 (by omega) (by omega) (by omega)
 generalize μ c 8 (m:Int)=t at *;generalize μ c 9 4=w at *;generalize μ c 10 8=z at *;obtain⟨p0,p1,hp⟩:=hμ c 11 (1 + z) (by omega) (by omega) (by omega)
 obtain⟨f0,f1,hf⟩:=hμ c 12 26 (by omega) (by omega) (by omega)
 obtain⟨s0,s1,hs⟩:=hμ c 13 4 (by omega) (by omega) (by omega)
 generalize μ c 11 (1 + z)=p at *;generalize μ c 12 26=f at *;generalize μ c 13 4=s at *;obtain⟨tn,rfl⟩:∃ tn:Nat,(tn:Int)=t:=⟨t.toNat,by omega⟩
 obtain⟨pl,rfl⟩:∃ pl:Nat,(pl:Int)=p:=⟨p.toNat,by omega⟩
 obtain⟨sz,hsz⟩:∃ sz:Nat,(sz:Int)=1 + z:=⟨(1 + z).toNat,by omega⟩
 rw[← hsz]at hp;obtain⟨S,ab,e1,h8,K1⟩:=EN (Ω:=Ω) (c:=c) hμ (a1:=oI m) (a3:=none) (a4:=none) (a5:=none) (a6:=none) (a7:=none) (a8:=none) (a9:=none) (a10:=none);have r1:(ax 2 (ae (.str "abcdefghijklmnopqrstuvwxyz"))) [oI c,oI m,none,none,none,none,none,none,none,none,none] Ω=.nx [oI c,oI m,oS abc,none,none,none,none,none,none,none,none] Ω:=rfl
 have r2:(ax 3 (Nr F)) [oI c,oI m,oS abc,none,none,none,none,none,none,none,none] Ω=.nx [oI c,oI m,oS abc,oS S,none,none,none,none,none,none,none] ab:=by
  rw[bj,e1];rfl
 have r3:(ax 4 (mN (bY F) (aa (U 0) (aa (ae (.int 8)) (aa (U 1) af))))) [oI c,oI m,oS abc,oS S,none,none,none,none,none,none,none] ab=.nx [oI c,oI m,oS abc,oS S,oI tn,none,none,none,none,none,none] ab:=by simp[ht]
 unfold QE;rw[ai,r1,aB,ai,r2,aB,ai,r3,aB,ai]
 by_cases hc:m<=8/\w=1
 ·obtain⟨Xn,rfl⟩:=hc
  have e2:=ER (Ω:=ab) h8 hm (a0:=oI c) (a2:=oS abc) (a4:=oI tn) (a5:=none) (a6:=none) (a7:=none) (a8:=none) (a9:=none) (a10:=none);have g2:(ab++[Cell.lst (((List.range m).map (i_ S)).map .str)])[ab.length]?=some (.lst (((List.range m).map (i_ S)).map .str)):=av;have K2:ag [] ab (ab++[Cell.lst (((List.range m).map (i_ S)).map .str)]):=ag.app
  have hv:∀ x∈(List.range m).map (i_ S),AH x:=fun x hx=>by
   obtain⟨i,hi,rfl⟩:=List.mem_map.mp hx;exact Jj h8 (by have:=List.mem_range.mp hi;omega)
  have hn:=EO (m:=m) h8 Xn;have hl:((List.range m).map (i_ S)).length=m:=by simp
  generalize (List.range m).map (i_ S)=ws at *;generalize ab++[Cell.lst (ws.map .str)]=ao at *;obtain⟨k,aO,e3,g3,K3,_⟩:=ya (ρ:=[oI c,oI m,oS abc,oS S,oI tn,oR ab.length,none,none,none,none,none]) (i:=5) (j:=4) rfl rfl g2 (by omega)
  have pm:=p8 (t:=tn) ws;refine⟨ws.drop tn++ws.take tn,k,aO,pm.nodup_iff.mpr hn,fun x hx=>hv x (pm.mem_iff.mp hx),by rw[pm.length_eq];exact hl,?_,g3,(K1.trans K2).trans K3⟩
  have hle:((m:Int)<=8):=by omega
  have rt:(eQ (m2 (az .LtE) (U 1) (ae (.int 8))) (m2 (az .Eq) (mN (bY F) (aa (U 0) (aa (ae (.int 9)) (aa (ae (.int 4)) af)))) (ae (.int 1)))) [oI c,oI m,oS abc,oS S,oI tn,none,none,none,none,none,none] ab=.ok (.bl true) ab:=by
   simp[hw,hle]
  have ra:ax 5 QA [oI c,oI m,oS abc,oS S,oI tn,none,none,none,none,none,none] ab=.nx [oI c,oI m,oS abc,oS S,oI tn,oR ab.length,none,none,none,none,none] ao:=by
   rw[bj,e2];rfl
  unfold Gi;rw[cZ,rt,dc,bL,dq,cC,if_pos rfl,ai,ra,aB,ai,de,e3];rfl
 ·have r4:Gi F [oI c,oI m,oS abc,oS S,oI tn,none,none,none,none,none,none] ab=.nx [oI c,oI m,oS abc,oS S,oI tn,none,none,none,none,none,none] ab:=by
   by_cases h1:w=1
   ·have hle:¬ ((m:Int)<=8):=fun h=>hc ⟨by omega,h1⟩
    simp[Gi,hw,hle]
   ·by_cases hle:(m:Int)<=8
    ·simp[Gi,hw,hle,h1]
    ·simp[Gi,hw,hle]
  have r5:(ax 6 (m2 (aP .Add) (ae (.int 1)) (mN (bY F) (aa (U 0) (aa (ae (.int 10)) (aa (ae (.int 8)) af)))))) [oI c,oI m,oS abc,oS S,oI tn,none,none,none,none,none,none] ab=.nx [oI c,oI m,oS abc,oS S,oI tn,none,oI sz,none,none,none,none] ab:=by
   rw[hsz];simp[hz]
  have r6:(ax 7 (mN (bY F) (aa (U 0) (aa (ae (.int 11)) (aa (U 6) af))))) [oI c,oI m,oS abc,oS S,oI tn,none,oI sz,none,none,none,none] ab=.nx [oI c,oI m,oS abc,oS S,oI tn,none,oI sz,oI pl,none,none,none] ab:=by simp[hp]
  have r7:(ax 8 (mN (bY F) (aa (U 0) (aa (ae (.int 12)) (aa (ae (.int 26)) af))))) [oI c,oI m,oS abc,oS S,oI tn,none,oI sz,oI pl,none,none,none] ab=.nx [oI c,oI m,oS abc,oS S,oI tn,none,oI sz,oI pl,oI f,none,none] ab:=by simp[hf]
  have K2:ag [] ab (ab++[Cell.lst [.int 1,.int 3,.int 5,.int 7]]):=ag.app;have g2:(ab++[Cell.lst [.int 1,.int 3,.int 5,.int 7]])[ab.length]?=some (.lst [.int 1,.int 3,.int 5,.int 7]):=av
  have hst:∃ st:Int,(st=1\/st=3\/st=5\/st=7)/\L2.jH [D.int 1,.int 3,.int 5,.int 7] s=oI st:=by
   have:s=0\/s=1\/s=2\/s=3:=by omega
   rcases this with rfl | rfl | rfl | rfl
   ·exact⟨1,.inl rfl,rfl⟩
   ·exact⟨3,.inr (.inl rfl),rfl⟩
   ·exact⟨5,.inr (.inr (.inl rfl)),rfl⟩
   ·exact⟨7,.inr (.inr (.inr rfl)),rfl⟩
  obtain⟨st,hst,hat⟩:=hst;have hix:=cN g2 hat
  have r8:(ax 9 (m2 aC (mN aR (aa (ae (.int 1)) (aa (ae (.int 3)) (aa (ae (.int 5)) (aa (ae (.int 7)) af))))) (mN (bY F) (aa (U 0) (aa (ae (.int 13)) (aa (ae (.int 4)) af)))))) [oI c,oI m,oS abc,oS S,oI tn,none,oI sz,oI pl,oI f,none,none] ab=.nx [oI c,oI m,oS abc,oS S,oI tn,none,oI sz,oI pl,oI f,oI st,none] (ab++[Cell.lst [.int 1,.int 3,.int 5,.int 7]]):=by
   have h1:(mN aR (aa (ae (.int 1)) (aa (ae (.int 3)) (aa (ae (.int 5)) (aa (ae (.int 7)) af))))) [oI c,oI m,oS abc,oS S,oI tn,none,oI sz,oI pl,oI f,none,none] ab=.ok (.ref ab.length) (ab++[Cell.lst [.int 1,.int 3,.int 5,.int 7]]):=by
    show aR [.int 1,.int 3,.int 5,.int 7] ab=_
    rw[cH,if_pos (aH (by simp))]
   have h2:(mN (bY F) (aa (U 0) (aa (ae (.int 13)) (aa (ae (.int 4)) af)))) [oI c,oI m,oS abc,oS S,oI tn,none,oI sz,oI pl,oI f,none,none] (ab++[Cell.lst [.int 1,.int 3,.int 5,.int 7]])=.ok (.int s) (ab++[Cell.lst [.int 1,.int 3,.int 5,.int 7]]):=by
    generalize ab++[Cell.lst [.int 1,.int 3,.int 5,.int 7]]=Zg;simp[hs]
   rw[bj,dg,h1,aq,h2,aq,hix];rfl
  generalize ab++[Cell.lst [.int 1,.int 3,.int 5,.int 7]]=ao at *;have e3:=ES (Ω:=ao) (f:=f) (st:=st) (by omega) (by omega) hm (a0:=oI c) (a3:=oS S) (a4:=oI tn) (a5:=none) (a6:=oI sz) (a7:=oI pl) (a10:=none)
  have em:(List.range m).map (fun i=>bE (sgn f st i))=((List.range m).map (sgn f st)).map bE:=by rw[List.map_map];rfl
  rw[em]at e3
  have hcs:∀ x∈(List.range m).map (sgn f st),97<=x/\x<=122:=fun x hx=>by
   obtain⟨i,_,rfl⟩:=List.mem_map.mp hx;unfold sgn;omega
  have hnd:(((List.range m).map (sgn f st)).map fun x=>rR S sz pl (bE x)).Nodup:=by
   rw[List.map_map];exact Jk h8 hm hst
  have hl:((List.range m).map (sgn f st)).length=m:=by simp
  generalize (List.range m).map (sgn f st)=cs at *;have g3:(ao++[Cell.lst ((cs.map bE).map .str)])[ao.length]?=some (.lst ((cs.map bE).map .str)):=av;have K3:ag [] ao (ao++[Cell.lst ((cs.map bE).map .str)]):=ag.app
  have r9:ax 10 QC [oI c,oI m,oS abc,oS S,oI tn,none,oI sz,oI pl,oI f,oI st,none] ao=.nx [oI c,oI m,oS abc,oS S,oI tn,none,oI sz,oI pl,oI f,oI st,oR ao.length] (ao++[Cell.lst ((cs.map bE).map .str)]):=by
   rw[bj,e3];rfl
  generalize ao++[Cell.lst ((cs.map bE).map .str)]=aO at *;have e4:=ET h8 (show sz<=8 by omega) (show pl < sz by omega) g3 (by omega) (a0:=oI c) (a1:=oI m) (a2:=oS abc) (a4:=oI tn) (a5:=none) (a8:=oI f) (a9:=oI st)
  refine⟨cs.map fun x=>rR S sz pl (bE x),aO.length,aO++[.lst ((cs.map fun x=>rR S sz pl (bE x)).map .str)],hnd,fun x hx => ?_,by simpa using hl,?_,av,((K1.trans K2).trans K3).trans ag.app⟩
  ·obtain⟨y,hy,rfl⟩:=List.mem_map.mp hx
   exact QD h8 (by omega) (by omega) (hcs y hy)
  ·rw[r4,aB,ai,r5,aB,ai,r6,aB,ai,r7,aB,ai,r8,aB,ai,r9,aB,ai,de,e4]
   rfl
end
section
variable{Ω ak:aG}{ρ:aU}{F C:List D->Out Rs}{μ:Int->Int->Int->Int}{κ:List Int->Nat->Int}{c:Int}{m:Nat}{ns:List Int}{xs:List Str}{x i:Nat}
def p9(xs:List Str)(mo i:Nat)(r:List Str):Prop:=r.Nodup/\r.length<=mo/\∀ y∈r,y∈xs.take i
def QF(F:List D->Out Rs):EM:=(bf (m2 aC (U 2) (U 0)) false (m2 (az .Eq) (mN (bY F) (aa (U 1) (aa (U 0) (aa (ae (.int 3)) af)))) (ae (.int 0))) (cK (aa (U 5) af)) 0 [6,2])
theorem rT{xs:List Str}:∀ {i:Nat},i<=xs.length->(List.range i).map (fun j=>xs.getD j "")=xs.take i:=by
 intro i hi;apply List.ext_getElem?;intro j;rw[List.getElem?_map,List.getElem?_take]
 by_cases h:j < i
 ·rw[List.getElem?_range h,if_pos h]
  rw[List.getElem?_eq_getElem (by omega)]
  simp[show j < xs.length by omega]
 ·rw[if_neg h,List.getElem?_eq_none (by simp;omega)]
  rfl
theorem EU(hμ:lp μ F){a0 a1 a3 a4 a7 a8:Option D}(hx:Ω[x]?=some (.lst (xs.map .str)))(hi:i<=xs.length)(hl:xs.length<=100):∃ r:List Str,r.Sublist (xs.take i)/\QF F [a0,a1,oR x,a3,a4,oI i,oI c,a7,a8] Ω=.ok (.ref Ω.length) (Ω++[.lst (r.map .str)]):=by
 have hin:lK (i:Int)=true:=fg (by omega) (by omega)
 have hD:=dk (Ω:=Ω) (ak:=Ω) (ρ:=[a0,a1,oR x,a3,a4,oI i,oI c,a7,a8]) (me:=m2 aC (U 2) (U 0)) (nc:=false) (mc:=m2 (az .Eq) (mN (bY F) (aa (U 1) (aa (U 0) (aa (ae (.int 3)) af)))) (ae (.int 0))) (mi:=cK (aa (U 5) af)) (cap:=[6,2]) (src:=.ints 0 i) (ds:=intsFrom 0 i) (p:=fun d=>match d with | .int j=>(μ c j 3 == 0) | _=>false)
  (g:=fun d=>match d with | .int j=>.str (xs.getD j.toNat "") | _=>.non) (by simp[hin]) rfl (fun d hd=>by
   obtain⟨j,hj⟩:=List.mem_iff_getElem?.mp hd;obtain⟨rfl,hlt⟩:=fh hj;obtain⟨q0,q1,q⟩:=hμ c (0 + (j:Int)) 3 (by omega) (by omega) (by omega)
   generalize (0:Int) + (j:Int)=jj at *
   show cQ ((m2 (az .Eq) (mN (bY F) (aa (U 1) (aa (U 0) (aa (ae (.int 3)) af)))) (ae (.int 0))) [oI jj,oI c,oR x] Ω)=_
   simp[q]) (fun d hd _=>by
   obtain⟨j,hj⟩:=List.mem_iff_getElem?.mp hd;obtain⟨rfl,hlt⟩:=fh hj;rw[Int.zero_add]
   show aC (.ref x) (.int j) Ω=.ok (.str (xs.getD (j:Int).toNat "")) Ω
   refine cN hx (L2.dm ?_);simp[show j < xs.length by omega]) (by rw[dP];omega)
 have e:(((intsFrom 0 i).filter fun d=>match d with | .int j=>(μ c j 3 == 0) | _=>false).map fun d=>match d with | .int j=>D.str (xs.getD j.toNat "") | _=>.non)=(((List.range i).filter fun j:Nat=>(μ c j 3 == 0)).map fun j=>xs.getD j "").map .str:=by
  rw[jo,List.filter_map,List.map_map,List.map_map];rfl
 rw[e]at hD;refine⟨_,?_,hD⟩;rw[← rT hi];exact(List.filter_sublist).map _
def QG(F:List D->Out Rs):EM:=(eQ (m2 (az .NotEq) (U 7) (mN aR af)) (m2 (az .Eq) (mN (bY F) (aa (U 6) (aa (ae (.int 13)) (aa (ae (.int 3)) af)))) (ae (.int 1))))
def Jm(F:List D->Out Rs):SM:=(dG (QG F)
 (ah (ax 8 (mN (bY F) (aa (U 6) (aa (ae (.int 14)) (aa (mN (aQ .len) (aa (U 7) af)) af)))))
 (ah (ax 7 (A1 7 8))
 aj))
 aj)
def QH(F C:List D->Out Rs):SM:=
 (ah (ax 6 (mN (bY C) (aa (U 0) (aa (m2 (aP .Add) (U 1) (U 5)) af))))
 (ah (ax 7 (QF F))
 (ah (ax 7 (cj (U 7) true (ae .non) false (U 3)))
 (ah (cm (cV ik ei (U 7) af))
 (ah (Jm F)
 (ah (cm (cV ik bq (U 4) (aa (U 7) af)))
 aj))))))
def QI(F C:List D->Out Rs):SM:=
 (ah (ax 4 (mN aR af))
 (ah (cF (bV 5) (cK (aa (mN (aQ .len) (aa (U 2) af)) af))
 (QH F C))
 (ah (bg (U 4))
 aj)))
abbrev RV(ns:List Int)(st x mo q:Nat)(a5 a6 a7 a8:Option D):aU:=[some (SC ns),oI st,oR x,oI mo,oR q,a5,a6,a7,a8]
theorem EV(hμ:lp μ F){a0 a1 a2 a3 a4 a5 a8:Option D}{r:List Str}{w:Nat}(hw:Ω[w]?=some (.lst (r.map .str)))(hl:r.length<=100):∃ (r':List Str) (w':Nat) (B6:Option D) (ak:aG),r'.Perm r/\Jm F [a0,a1,a2,a3,a4,a5,oI c,oR w,a8] Ω=.nx [a0,a1,a2,a3,a4,a5,oI c,oR w',B6] ak/\ak[w']?=some (.lst (r'.map .str))/\(w'=w\/Ω.length<=w')/\ag [] Ω ak:=by
 obtain⟨ab,e1,K1⟩:=ne_nil (ρ:=[a0,a1,a2,a3,a4,a5,oI c,oR w,a8]) (i:=7) rfl hw;obtain⟨z0,z1,hz⟩:=hμ c 13 3 (by omega) (by omega) (by omega)
 have hw1:=K1.get _ _ hw (by simp)
 have e2:(m2 (az .Eq) (mN (bY F) (aa (U 6) (aa (ae (.int 13)) (aa (ae (.int 3)) af)))) (ae (.int 1))) [a0,a1,a2,a3,a4,a5,oI c,oR w,a8] ab=.ok (.bl (μ c 13 3 == 1)) ab:=by simp[hz]
 have e3:QG F [a0,a1,a2,a3,a4,a5,oI c,oR w,a8] Ω=.ok (.bl (decide (r≠[]) && (μ c 13 3 == 1))) ab:=by
  unfold QG;rw[iZ,e1,aq,bL]
  by_cases hr:r=[]
  ·subst hr;rfl
  ·rw[decide_eq_true hr,tH,e2,Bool.true_and]
 by_cases hc:r≠[]/\μ c 13 3=1
 ·have hp:0 < r.length:=List.length_pos_iff.mpr hc.1
  obtain⟨s0,s1,hs⟩:=hμ c 14 (r.length:Int) (by omega) (by omega) (by omega)
  obtain⟨t,ht⟩:∃ t:Nat,(t:Int)=μ c 14 (r.length:Int):=⟨(μ c 14 (r.length:Int)).toNat,by omega⟩
  rw[← ht]at hs;have hll:=i5 hw1;rw[List.length_map]at hll
  have r1:(ax 8 (mN (bY F) (aa (U 6) (aa (ae (.int 14)) (aa (mN (aQ .len) (aa (U 7) af)) af))))) [a0,a1,a2,a3,a4,a5,oI c,oR w,a8] ab=.nx [a0,a1,a2,a3,a4,a5,oI c,oR w,oI t] ab:=by
   simp[hll,hs]
  obtain⟨k,ao,e4,g4,K4,l4⟩:=ya (ρ:=[a0,a1,a2,a3,a4,a5,oI c,oR w,oI t]) (i:=7) (j:=8) rfl rfl hw1 (by omega)
  refine⟨r.drop t++r.take t,k,oI t,ao,p8 r,?_,g4,.inr (by have:=K1.len;omega),K1.trans K4⟩
  have hb:(decide (r≠[]) && (μ c 13 3 == 1))=true:=by simp[hc.1,hc.2]
  unfold Jm;rw[cZ,e3,hb,dc,bL,dq,cC,if_pos rfl,ai,r1,aB,ai,bj,e4];rfl
 ·refine⟨r,w,a8,ab,List.Perm.refl _,?_,hw1,.inl rfl,K1⟩
  have hb:(decide (r≠[]) && (μ c 13 3 == 1))=false:=by
   by_cases hr:r=[]
   ·simp[hr]
   ·have:μ c 13 3≠1:=fun z=>hc ⟨hr,z⟩
    simp[this]
  unfold Jm;rw[cZ,e3,hb];rfl
theorem EW(hμ:lp μ F)(mL:jn κ C){st mo q:Nat}{js:List Nat}{rs:List (List Str)}{a6 a7 a8:Option D}(hx:Ω[x]?=some (.lst (xs.map .str)))(hxn:xs.Nodup)(hi:i<=xs.length)(hl:xs.length<=100)(R:Rw Ω q js rs)(hq:q∉js)(hrl:rs.length<=100) :
  ∃ r j AU Xo B6 ak,p9 xs mo i r/\QH F C (RV ns st x mo q (oI i) a6 a7 a8) Ω=.nx (RV ns st x mo q (oI i) AU Xo B6) ak/\Rw ak q (js++[j]) (rs++[r])/\q∉js++[j]/\ag [q] Ω ak:=by
 have hcl:C [SC ns,.int ((st:Int) + (i:Int))]=.ok (false,.int (κ ns (st + i))):=by
  rw[show(st:Int) + (i:Int)=((st + i:Nat):Int) by omega]
  exact mL ns (st + i)
 have r1:(ax 6 (mN (bY C) (aa (U 0) (aa (m2 (aP .Add) (U 1) (U 5)) af)))) (RV ns st x mo q (oI i) a6 a7 a8) Ω=.nx (RV ns st x mo q (oI i) (some (.int (κ ns (st + i)))) a7 a8) Ω:=by
  simp[RV,hcl]
 generalize κ ns (st + i)=c at *;obtain⟨r,hsub,e2⟩:=EU (c:=c) hμ (a0:=some (SC ns)) (a1:=oI st) (a3:=oI mo) (a4:=oR q) (a7:=a7) (a8:=a8) hx hi hl;have Uz:r.length<=100:=by have:=hsub.length_le;rw[List.length_take]at this;omega
 have r2:ax 7 (QF F) (RV ns st x mo q (oI i) (oI c) a7 a8) Ω=.nx (RV ns st x mo q (oI i) (oI c) (oR Ω.length) a8) (Ω++[.lst (r.map .str)]):=by
  rw[bj,e2];rfl
 have g2:(Ω++[Cell.lst (r.map .str)])[Ω.length]?=some (.lst (r.map .str)):=av;have K2:ag [] Ω (Ω++[Cell.lst (r.map .str)]):=ag.app;generalize Ω++[Cell.lst (r.map .str)]=ao at *;have s3:=n5 (n:=mo) g2
 have r3:ax 7 (cj (U 7) true (ae .non) false (U 3)) (RV ns st x mo q (oI i) (oI c) (oR Ω.length) a8) ao=.nx (RV ns st x mo q (oI i) (oI c) (oR ao.length) a8) (ao++[.lst ((r.take mo).map .str)]):=by
  have:cj (U 7) true (ae .non) false (U 3) (RV ns st x mo q (oI i) (oI c) (oR Ω.length) a8) ao=.ok (.ref ao.length) (ao++[.lst ((r.take mo).map .str)]):=by
   rw[i6]
   show jL (.ref Ω.length) none (some (mo:Int)) ao=_
   exact s3
  rw[bj,this];rfl
 have g3:(ao++[Cell.lst ((r.take mo).map .str)])[ao.length]?=some (.lst ((r.take mo).map .str)):=av;have K3:ag [] ao (ao++[Cell.lst ((r.take mo).map .str)]):=ag.app;generalize ao++[Cell.lst ((r.take mo).map .str)]=aO at *;have hrv:=pS g3
 have r4:(cm (cV ik ei (U 7) af)) (RV ns st x mo q (oI i) (oI c) (oR ao.length) a8) aO=.nx (RV ns st x mo q (oI i) (oI c) (oR ao.length) a8) (aO.set ao.length (.lst ((r.take mo).map D.str).reverse)):=by
  rw[cI,ft (x:=.ref ao.length) (ak:=aO) rfl (eF g3),aZ,aq,hrv];rfl
 have g4:(aO.set ao.length (.lst ((r.take mo).map D.str).reverse))[ao.length]?=some (.lst ((r.take mo).reverse.map .str)):=by rw[List.map_reverse];exact bh g3
 have K4:ag [] Ω (aO.set ao.length (.lst ((r.take mo).map D.str).reverse)):=ag.new (K2.trans K3) (ag.set (fp:=[ao.length]) (by simp)) (by simpa using K2.len)
 generalize aO.set ao.length (.lst ((r.take mo).map D.str).reverse)=bR at *;obtain⟨r',w,B6,cg,hpm,r5,g5,hw,K5⟩:=EV (c:=c) hμ (a0:=some (SC ns)) (a1:=oI st) (a2:=oR x) (a3:=oI mo) (a4:=oR q) (a5:=oI i) (a8:=a8) g4 (by rw[List.length_reverse,List.length_take];omega)
 have hw':Ω.length<=w:=by
  have:=K2.len;have:=K4.len;rcases hw with z | z
  ·omega
  ·omega
 have B2:=K4.trans K5;have R5:=R.keep B2;have hL:=R.len;have hap:=dX (d:=.ref w) R5.ce (by simp;omega)
 have r6:(cm (cV ik bq (U 4) (aa (U 7) af))) (RV ns st x mo q (oI i) (oI c) (oR w) B6) cg=.nx (RV ns st x mo q (oI i) (oI c) (oR w) B6) (cg.set q (.lst (js.map .ref++[.ref w]))):=by
  rw[cI,ft (x:=.ref q) (ak:=cg) rfl (eF R5.ce)]
  show bU (bq (.ref q) [.ref w] cg) _=_
  rw[hap];rfl
 have lq:=bF R.ce;have K6:ag [q] cg (cg.set q (.lst (js.map .ref++[.ref w]))):=ag.set (by simp)
 have xE:q∉js++[w]:=fun z=>by
  rcases List.mem_append.mp z with z | z
  ·exact hq z
  ·have:=List.mem_singleton.mp z;omega
 have QJ:p9 xs mo i r':=by
  have hs2:(r.take mo).Sublist (xs.take i):=(List.take_sublist _ _).trans hsub;have hn2:(r.take mo).Nodup:=(hxn.sublist (List.take_sublist _ _)).sublist hs2;refine⟨hpm.nodup_iff.mpr (List.pairwise_reverse.mpr (List.Pairwise.imp (fun h=>Ne.symm h) hn2)),?_,fun y hy => ?_⟩
  ·rw[hpm.length_eq,List.length_reverse,List.length_take];omega
  ·exact hs2.subset (List.mem_reverse.mp (hpm.mem_iff.mp hy))
 refine⟨r',w,oI c,oR w,B6,_,QJ,?_,⟨?_,?_⟩,xE,(eV.up B2).trans K6⟩
 ·unfold QH
  rw[ai,r1,aB,ai,r2,aB,ai,r3,aB,ai,r4,aB,ai];have Xp:Jm F (RV ns st x mo q (oI i) (oI c) (oR ao.length) a8) bR=.nx (RV ns st x mo q (oI i) (oI c) (oR w) B6) cg:=r5;rw[Xp,aB,ai,r6];rfl
 ·rw[bh R5.ce];simp
 ·exact(R5.al.snoc g5).keep K6 (fun j hj z=>xE (by rw[← List.mem_singleton.mp z];exact hj))
def A3(RH:ba):Prop:=∀ (Ω:aG) (ns:List Int) (st x mo:Nat) (xs:List Str),Ω[x]?=some (.lst (xs.map .str))->xs.Nodup->xs.length<=12 ->
 ∃ k js rs ak,RH [SC ns,.int st,.ref x,.int mo] Ω=.ok (.ref k) ak/\Rw ak k js rs/\rs.length=xs.length/\(∀ (i:Nat) (r:List Str),rs[i]?=some r->p9 xs mo i r)/\ag [] Ω ak
theorem Jn(hμ:lp μ F)(mL:jn κ C):A3 (bN 9 4 (QI F C)):=by
 intro Ω ns st x mo xs hx hxn Qi;rw[bD (by rfl)]
 have e0:a_ 9 [SC ns,.int st,.ref x,.int mo]=[some (SC ns),oI st,oR x,oI mo,none,none,none,none,none]:=rfl;rw[e0];have g1:(Ω++[Cell.lst []])[Ω.length]?=some (.lst (([]:List Nat).map .ref)):=av;have K1:ag [] Ω (Ω++[Cell.lst []]):=ag.app;have r1:(ax 4 (mN aR af)) [some (SC ns),oI st,oR x,oI mo,none,none,none,none,none] Ω=.nx (RV ns st x mo Ω.length none none none none) (Ω++[Cell.lst []]):=by simp[RV,aH]
 have lx:=bF hx;generalize Ω++[Cell.lst []]=ab at *;have hx1:=K1.get _ _ hx (by simp)
 have hll:=i5 hx1;rw[List.length_map]at hll
 have eG:cK (aa (mN (aQ .len) (aa (U 2) af)) af) (RV ns st x mo Ω.length none none none none) ab=.ok (.ints 0 xs.length) ab:=by
  have:(mN (aQ .len) (aa (U 2) af)) (RV ns st x mo Ω.length none none none none) ab=.ok (.int xs.length) ab:=hll;rw[pR,aX,this,aq,aZ,aq,aq,tQ,if_pos (fg (by omega) (by omega)),Int.toNat_natCast]
 unfold QI;rw[ai,r1,aB,ai,df,eG,cC]
 refine cp (R:=fun r=>∃ k js rs ak,kY (sq r _)=.ok (.ref k) ak/\Rw ak k js rs/\rs.length=xs.length/\(∀ (i:Nat) (r:List Str),rs[i]?=some r->p9 xs mo i r)/\ag [] Ω ak) (ds:=intsFrom 0 xs.length)
  (fun i ρ ao=>∃ js rs a5 a6 a7 a8,ρ=RV ns st x mo Ω.length a5 a6 a7 a8/\Rw ao Ω.length js rs/\rs.length=i/\(∀ (i:Nat) (r:List Str),rs[i]?=some r->p9 xs mo i r)/\Ω.length∉js/\ag [Ω.length] ab ao) (fun _ _ _ _=>rfl) ?_ ?_ fuel 0 _ _ (by rw[dP];unfold fuel;omega) (Nat.zero_le _) ⟨[],[],none,none,none,none,rfl,⟨g1,.nil⟩,rfl,fun i r h=>by simp at h,by simp,ag.refl⟩
 ·rintro i d ρ ao hd ⟨js,rs,a5,a6,a7,a8,rfl,R,hrs,hok,hq,K⟩
  obtain⟨rfl,hi⟩:=fh hd;rw[Int.zero_add];refine⟨RV ns st x mo Ω.length (oI i) a6 a7 a8,rfl,?_⟩;obtain⟨r,j,b6,b7,b8,aO,h1,e3,R3,Qc,K3⟩:=EW (i:=i) (ns:=ns) (st:=st) (mo:=mo) (a6:=a6) (a7:=a7) (a8:=a8) hμ mL (K.get _ _ hx1 (by simp;omega)) hxn (by omega) (by omega) R hq (by omega)
  rw[e3];refine⟨_,_,_,_,_,_,rfl,R3,by simp[hrs],fun i' r' h => ?_,Qc,K.trans K3⟩
  by_cases hlt:i' < rs.length
  ·rw[List.getElem?_append_left hlt]at h
   exact hok i' r' h
  ·rw[List.getElem?_append_right (by omega)]at h
   have h0:i' - rs.length=0:=by
    have:=(List.getElem?_eq_some_iff.mp h).1;simp at this;omega
   rw[h0]at h;have hr':r=r':=by simpa using h
   subst hr';obtain rfl:i'=i:=by omega
   exact h1
 ·rintro ρ ao ⟨js,rs,a5,a6,a7,a8,rfl,R,hrs,hok,hq,K⟩
  rw[dP]at hrs;exact⟨Ω.length,js,rs,ao,rfl,R,hrs,hok,ag.new K1 K (by simp)⟩
end
section
variable{Ω ak:aG}{ρ:aU}{F C:List D->Out Rs}{κ:List Int->Nat->Int}{ns:List Int}{xs:List Str}{h e l x:Nat}{E:f7}{L:Str->List Str}{n:Str}{bW ck:List (Key×D)}
def UA:SM:=(ah (bg (ae (.bl false))) aj)
def Nt(C:List D->Out Rs):EM:=(m2 aC (mN aR (aa (ae (.int 4)) (aa (ae (.int 5)) (aa (ae (.int 6)) (aa (ae (.int 7)) (aa (ae (.int 4)) (aa (ae (.int 5)) (aa (ae (.int 6)) (aa (ae (.int 7)) (aa (ae (.int 1)) (aa (ae (.int 2)) (aa (ae (.int 3)) (aa (ae (.int 12)) af))))))))))))) (m2 (aP .Mod) (mN (bY C) (aa (U 0) (aa (ae (.int 0)) af))) (ae (.int 12))))
theorem EX(mL:jn κ C)(hi:ρ[0]?=some (some (SC ns))):∃ (m:Nat) (ak:aG),1<=m/\m<=12/\Nt C ρ Ω=.ok (.int m) ak/\ag [] Ω ak:=by
 have k0:C [SC ns,.int 0]=.ok (false,.int (κ ns 0)):=mL ns 0
 have h1:(mN aR (aa (ae (.int 4)) (aa (ae (.int 5)) (aa (ae (.int 6)) (aa (ae (.int 7)) (aa (ae (.int 4)) (aa (ae (.int 5)) (aa (ae (.int 6)) (aa (ae (.int 7)) (aa (ae (.int 1)) (aa (ae (.int 2)) (aa (ae (.int 3)) (aa (ae (.int 12)) af))))))))))))) ρ Ω=.ok (.ref Ω.length) (Ω++[.lst [.int 4,.int 5,.int 6,.int 7,.int 4,.int 5,.int 6,.int 7,.int 1,.int 2,.int 3,.int 12]]):=by
  show aR [.int 4,.int 5,.int 6,.int 7,.int 4,.int 5,.int 6,.int 7,.int 1,.int 2,.int 3,.int 12] Ω=_
  rw[cH,if_pos (aH (by simp))]
 have g1:(Ω++[Cell.lst [.int 4,.int 5,.int 6,.int 7,.int 4,.int 5,.int 6,.int 7,.int 1,.int 2,.int 3,.int 12]])[Ω.length]?=some (.lst [.int 4,.int 5,.int 6,.int 7,.int 4,.int 5,.int 6,.int 7,.int 1,.int 2,.int 3,.int 12]):=av;have K1:ag [] Ω (Ω++[Cell.lst [.int 4,.int 5,.int 6,.int 7,.int 4,.int 5,.int 6,.int 7,.int 1,.int 2,.int 3,.int 12]]):=ag.app;generalize Ω++[Cell.lst [.int 4,.int 5,.int 6,.int 7,.int 4,.int 5,.int 6,.int 7,.int 1,.int 2,.int 3,.int 12]]=ab at *
 have h2:(m2 (aP .Mod) (mN (bY C) (aa (U 0) (aa (ae (.int 0)) af))) (ae (.int 12))) ρ ab=.ok (.int (κ ns 0 % 12)) ab:=by
  simp[hi,k0]
 have hm:∃ m:Nat,1<=m/\m<=12/\L2.jH [D.int 4,.int 5,.int 6,.int 7,.int 4,.int 5,.int 6,.int 7,.int 1,.int 2,.int 3,.int 12] (κ ns 0 % 12)=oI m:=by
  have h0:0<=κ ns 0 % 12:=Int.emod_nonneg _ (by omega)
  have h12:κ ns 0 % 12 < 12:=Int.emod_lt_of_pos _ (by omega)
  generalize κ ns 0 % 12=s at *;have:s=0\/s=1\/s=2\/s=3\/s=4\/s=5\/s=6\/s=7\/s=8\/s=9\/s=10\/s=11:=by omega
  rcases this with rfl | rfl | rfl | rfl | rfl | rfl | rfl | rfl | rfl | rfl | rfl | rfl
  ·exact⟨4,by omega,by omega,rfl⟩
  ·exact⟨5,by omega,by omega,rfl⟩
  ·exact⟨6,by omega,by omega,rfl⟩
  ·exact⟨7,by omega,by omega,rfl⟩
  ·exact⟨4,by omega,by omega,rfl⟩
  ·exact⟨5,by omega,by omega,rfl⟩
  ·exact⟨6,by omega,by omega,rfl⟩
  ·exact⟨7,by omega,by omega,rfl⟩
  ·exact⟨1,by omega,by omega,rfl⟩
  ·exact⟨2,by omega,by omega,rfl⟩
  ·exact⟨3,by omega,by omega,rfl⟩
  ·exact⟨12,by omega,by omega,rfl⟩
 obtain⟨m,m1,m2',hat⟩:=hm;refine⟨m,ab,m1,m2',?_,K1⟩;unfold Nt;rw[dg,h1,aq,h2,aq];exact cN g1 hat
def Nu(C:List D->Out Rs)(NH:ba):EM:=(mN (aK NH) (aa (mN (bY C) (aa (U 0) (aa (ae (.int 1)) af))) (aa (U 1) af)))
def Nv(CN RH:ba):EM:=(mN (aK CN) (aa (U 2) (aa (mN (aK RH) (aa (U 0) (aa (ae (.int 2)) (aa (U 2) (aa (ae (.int 5)) af))))) af)))
structure Hand(Ω:aG)(x e l:Nat)(xs:List Str)(E:f7)(L:Str->List Str):Prop where
 nx:Ω[x]?=some (.lst (xs.map .str))
 pos:1<=xs.length
 vn:∀ n∈xs,AH n
 eq:nms E=xs
 Jo:ja E L
 el:∃ bW,cA Ω e bW/\aL Tr Ω bW E
 ln:∃ ck,cA Ω l ck/\aL Tr Ω ck (dH xs L)
 ne:e≠l
theorem Hand.keep(h:Hand Ω x e l xs E L)(K:ag [] Ω ak):Hand ak x e l xs E L:=by
 obtain⟨a1,a2,a3,a4,a5,⟨bW,a6,a7⟩,⟨ck,a8,a9⟩,a10⟩:=h;exact⟨K.get _ _ a1 (by simp),a2,a3,a4,a5,⟨bW,a6.keep K (by simp),a7.keep K (by simp)⟩,⟨ck,a8.keep K (by simp),a9.keep K (by simp)⟩,a10⟩
theorem A4(mL:jn κ C){NH CN RH:ba}(hN:A2 NH)(hC:AX CN)(hR:A3 RH){m:Nat}(h1:1<=m)(h12:m<=12){a2 a3 a4 a5 a6 a7:Option D} :
  ∃ x e l xs E L ab ao,Nu C NH [some (SC ns),oI m,a2,a3,a4,a5,a6,a7] Ω=.ok (.ref x) ab/\Nv CN RH [some (SC ns),oI m,oR x,a3,a4,a5,a6,a7] ab=.ok (.tup [.ref e,.ref l]) ao/\Hand ao x e l xs E L/\ag [] Ω ao:=by
 have k1:C [SC ns,.int 1]=.ok (false,.int (κ ns 1)):=mL ns 1;obtain⟨xs,x,ab,x1,x2,x3,x4,x5,K1⟩:=hN Ω (κ ns 1) m h1 h12;obtain⟨k,js,rs,ao,r1,R,r2,r3,K2⟩:=hR ab ns 2 x 5 xs x5 x1 (by omega)
 obtain⟨E,L,e,l,bW,ck,aO,c1,K3,c2,G,c3,c4,c5,c6,c7⟩:=hC ao x k js xs rs (K2.get _ _ x5 (by simp)) R r2 x1 (by omega) (fun i r h=>r3 i r h)
 refine⟨x,e,l,xs,E,L,ab,aO,?_,?_,⟨(K2.trans K3).get _ _ x5 (by simp),by omega,x2,c2,G,⟨bW,.inl c3,c4⟩,⟨ck,.inl c5,c6⟩,c7⟩,(K1.trans K2).trans K3⟩
 ·simp[Nu,k1,x4]
 ·have e1:(mN (aK RH) (aa (U 0) (aa (ae (.int 2)) (aa (U 2) (aa (ae (.int 5)) af))))) [some (SC ns),oI m,oR x,a3,a4,a5,a6,a7] ab=.ok (.ref k) ao:=by
   show lE (RH [SC ns,.int 2,.ref x,.int 5] ab)=_
   rw[show RH [SC ns,.int 2,.ref x,.int 5] ab=_ from r1]
   rfl
  have v2:U 2 [some (SC ns),oI m,oR x,a3,a4,a5,a6,a7] ab=.ok (.ref x) ab:=rfl;unfold Nv;rw[cM,aX,v2,aq,aX,e1,aq,aZ,aq,aq,aq,fK,c1,lr]
theorem yb{BU:ba}(hB:AZ BU)(H:Hand Ω x e l xs E L):∃ h ak,BU [.ref e] Ω=.ok (.ref h) ak/\bX Tr ak h E L/\Hand ak x e l xs E L/\Ω.length<=ak.length:=by
 obtain⟨a1,a2,a3,a4,a5,⟨bW,a6,a7⟩,⟨ck,a8,a9⟩,a10⟩:=H;obtain⟨h,ab,e1,H1,K1,g1,_⟩:=hB Ω e bW E L a6 a7 a5 (by rw[a4];exact a3)
 have nl:∀ j∈[e],∀ ds,Ω[j]?≠some (.lst ds):=fun j hj ds=>by rw[List.mem_singleton.mp hj];exact a6.nl ds
 have nx:x≠e:=fun z=>a6.nl _ (z▸a1)
 exact⟨h,ab,e1,H1,⟨K1.get _ _ a1 (by simpa using nx),a2,a3,a4,a5,⟨bW,.inr g1,a7.cT K1 nl⟩,⟨ck,a8.keep K1 (by simpa using Ne.symm a10),a9.cT K1 nl⟩,a10⟩,K1.len⟩
def QK(RR LN:ba):EM:=(sW (eY (mN (aK RR) (aa (U 5) (aa (U 3) (aa (U 6) af))))) (m2 (az .NotEq) (aV "House" "line" LN (U 5) (aa (U 6) af)) (m2 aC (U 4) (U 6))))
def Nw(RR LN:ba):SM:=(ah (dG (QK RR LN) UA aj) aj)
def Nx(RR:ba):SM:=(ah (dG (eY (mN (aK RR) (aa (U 7) (aa (U 3) (aa (U 6) af))))) UA aj) aj)
def QL(RO:ba):EM:=(m2 (az .Eq) (aV "House" "rows_of" RO (U 5) (aa (m2 aC (U 2) (ae (.int 0))) af)) (mN aR (aa (mN aR af) af)))
def EY(C:List D->Out Rs)(NH CN RH BU RR LN CP RO:ba):SM:=
 (ah (ax 1 (Nt C))
 (ah (ax 2 (Nu C NH))
 (ah (rh [3,4] (Nv CN RH))
 (ah (ax 5 (mN (aK BU) (aa (U 3) af)))
 (ah (cF (bV 6) (aM (U 2)) (Nw RR LN))
 (ah (ax 7 (aV "House" "copied" CP (U 5) af))
 (ah (cF (bV 6) (aM (U 2)) (Nx RR))
 (ah (bg (QL RO))
 aj))))))))
theorem EZ{RR LN:ba}(hR:x9 RR)(hN:rP LN){a0 a1 a2 a7:Option D}(H:Hand Ω x e l xs E L)(T:bX Tr Ω h E L)(hn:n∈xs):∃ ak,Nw RR LN [a0,a1,a2,oR e,oR l,oR h,oS n,a7] Ω=.nx [a0,a1,a2,oR e,oR l,oR h,oS n,a7] ak/\ag [] Ω ak:=by
 obtain⟨bW,b1,b2⟩:=H.el;have p6:n∈nms E:=by rw[H.eq];exact hn
 obtain⟨ab,e1,K1⟩:=hR Ω h e bW E L n T b1 b2 H.Jo p6;have H1:=H.keep K1;have T1:=T.keep K1;obtain⟨q,ao,e2,g2,K2,_⟩:=hN ab h E L Tr n T1 p6;obtain⟨ck,d1,d2⟩:=(H1.keep K2).ln;obtain⟨j,hv,_,hj⟩:=d2.at (n:=n) (by rw[eI];exact hn)
 rw[hU hn]at hj;have hix:=gO (n:=n) d1 hv
 have e1:(mN (aK RR) (aa (U 5) (aa (U 3) (aa (U 6) af)))) [a0,a1,a2,oR e,oR l,oR h,oS n,a7] Ω=.ok (.bl true) ab:=by
  show lE (RR [.ref h,.ref e,.str n] Ω)=_
  rw[e1];rfl
 have e2:aV "House" "line" LN (U 5) (aa (U 6) af) [a0,a1,a2,oR e,oR l,oR h,oS n,a7] ab=.ok (.ref q) ao:=by
  rw[dh T1 rfl (by decide)]
  show lE (LN [.ref h,.str n] ab)=_
  rw[e2];rfl
 have e3:(m2 aC (U 4) (U 6)) [a0,a1,a2,oR e,oR l,oR h,oS n,a7] ao=.ok (.ref j) ao:=hix;have e4:=n6 g2 hj;rw[decide_eq_true rfl]at e4;refine⟨ao,?_,K1.trans K2⟩
 have et:QK RR LN [a0,a1,a2,oR e,oR l,oR h,oS n,a7] Ω=.ok (.bl false) ao:=by
  unfold QK;rw[nU,jZ,e1,dc,bL,dq,aq,aq,bL]
  show Mir.By (some false) _ _=_
  rw[tI,dg,e2,aq,e3,aq,e4];rfl
 unfold Nw;rw[ai,cZ,et];rfl
theorem E3{RR:ba}(hR:x9 RR){a0 a1 a2 a4 a5:Option D}(H:Hand Ω x e l xs E L)(T:bX Tr Ω h E L)(hn:n∈xs):∃ ak,Nx RR [a0,a1,a2,oR e,a4,a5,oS n,oR h] Ω=.nx [a0,a1,a2,oR e,a4,a5,oS n,oR h] ak/\ag [] Ω ak:=by
 obtain⟨bW,b1,b2⟩:=H.el;have p6:n∈nms E:=by rw[H.eq];exact hn
 obtain⟨ab,e1,K1⟩:=hR Ω h e bW E L n T b1 b2 H.Jo p6
 have e1:(mN (aK RR) (aa (U 7) (aa (U 3) (aa (U 6) af)))) [a0,a1,a2,oR e,a4,a5,oS n,oR h] Ω=.ok (.bl true) ab:=by
  show lE (RR [.ref h,.ref e,.str n] Ω)=_
  rw[e1];rfl
 refine⟨ab,?_,K1⟩;unfold Nx;rw[ai,cZ,jZ,e1];rfl
theorem u_(G:ja E L)(h:(nms E)[0]?=some n):bt E n=[]:=by
 obtain⟨r,hr⟩:=kb h;have h1:=(G.el 0 _ hr).2.2;have h2:bt E n=r:=xU G.nd hr;rw[h2];cases r with
 | nil=>rfl
 | cons y r=>
  have:=h1 y (by simp)
  simp at this
theorem E4{RO:ba}(hR:u5 RO){a0 a1 a3 a4 a6 a7:Option D}(H:Hand Ω x e l xs E L)(T:bX Tr Ω h E L):∃ ak,QL RO [a0,a1,oR x,a3,a4,oR h,a6,a7] Ω=.ok (.bl true) ak:=by
 have hp:=H.pos;have h0:xs[0]?=some (xs[0]'(by omega)):=List.getElem?_eq_getElem (by omega)
 generalize xs[0]'(by omega)=n at h0
 have p6:n∈nms E:=by rw[H.eq];exact List.mem_of_getElem? h0
 have hrow:bt E n=[]:=u_ H.Jo (by rw[H.eq];exact h0)
 have hix:aC (.ref x) (.int 0) Ω=.ok (.str n) Ω:=cN H.nx (L2.dm (j:=0) (by simp[h0]))
 obtain⟨js,k,ab,e1,R1,K1,_⟩:=hR Ω h E L Tr n T H.Jo.gd p6;rw[hrow]at R1;have R1:Rw ab k js [[]]:=R1
 have e1:aV "House" "rows_of" RO (U 5) (aa (m2 aC (U 2) (ae (.int 0))) af) [a0,a1,oR x,a3,a4,oR h,a6,a7] Ω=.ok (.ref k) ab:=by
  have:(aa (m2 aC (U 2) (ae (.int 0))) af:AM) [a0,a1,oR x,a3,a4,oR h,a6,a7] Ω=.ok [.str n] Ω:=by
   show((aC (.ref x) (.int 0) Ω).bind _)=_
   rw[hix];rfl
  rw[dh T rfl (by decide),this,aq,e1]
  rfl
 have K2:ag [] ab (ab++[Cell.lst []]):=ag.app;have g2:(ab++[Cell.lst []])[ab.length]?=some (.lst (([]:List Str).map .str)):=av;have e2:(mN aR af) [a0,a1,oR x,a3,a4,oR h,a6,a7] ab=.ok (.ref ab.length) (ab++[.lst []]):=by rw[cM,aZ,aq,cH,if_pos (aH (by simp))]
 generalize ab++[Cell.lst []]=ao at *;have K3:ag [] ao (ao++[Cell.lst [.ref ab.length]]):=ag.app;have R3:Rw (ao++[Cell.lst [.ref ab.length]]) ao.length [ab.length] [[]]:=⟨av,.cons (K3.get _ _ g2 (by simp)) .nil⟩
 have e3:(mN aR (aa (mN aR af) af)) [a0,a1,oR x,a3,a4,oR h,a6,a7] ab=.ok (.ref ao.length) (ao++[Cell.lst [.ref ab.length]]):=by
  rw[cM,aX,e2,aq,aZ,aq,aq,cH,if_pos (aH (by simp))]
 generalize ao++[Cell.lst [.ref ab.length]]=aO at *;refine⟨aO,?_⟩;unfold QL;rw[dg,e1,aq,e3,aq,Uo ((R1.keep K2).keep K3) R3]
theorem yc(mL:jn κ C){NH CN RH BU RR LN CP RO:ba}(hN:A2 NH)(hC:AX CN)(hR:A3 RH)(hB:AZ BU)(hRR:x9 RR)(hL:rP LN)(hP:Ek CP)(Xq:u5 RO)(ns:List Int):∃ ak,bN 8 1 (EY C NH CN RH BU RR LN CP RO) [SC ns] []=.ok (.bl true) ak:=by
 rw[bD (by rfl)]
 have e0:a_ 8 [SC ns]=[some (SC ns),none,none,none,none,none,none,none]:=rfl;rw[e0];obtain⟨m,ir,m1,Xr,em,K0⟩:=EX (ρ:=[some (SC ns),none,none,none,none,none,none,none]) (Ω:=[]) mL rfl;have r1:ax 1 (Nt C) [some (SC ns),none,none,none,none,none,none,none] []=.nx [some (SC ns),oI m,none,none,none,none,none,none] ir:=by rw[bj,em];rfl
 obtain⟨x,e,l,xs,E,L,ab,ao,e1,e2,H2,K2⟩:=A4 (Ω:=ir) (ns:=ns) mL hN hC hR m1 Xr (a2:=none) (a3:=none) (a4:=none) (a5:=none) (a6:=none) (a7:=none);have r2:ax 2 (Nu C NH) [some (SC ns),oI m,none,none,none,none,none,none] ir=.nx [some (SC ns),oI m,oR x,none,none,none,none,none] ab:=by rw[bj,e1];rfl
 have r3:rh [3,4] (Nv CN RH) [some (SC ns),oI m,oR x,none,none,none,none,none] ab=.nx [some (SC ns),oI m,oR x,oR e,oR l,none,none,none] ao:=by
  unfold rh;rw[e2];rfl
 obtain⟨h,aO,e3,T3,H3,_⟩:=yb hB H2;have r4:ax 5 (mN (aK BU) (aa (U 3) af)) [some (SC ns),oI m,oR x,oR e,oR l,none,none,none] ao=.nx [some (SC ns),oI m,oR x,oR e,oR l,oR h,none,none] aO:=by simp[e3]
 have Xs:xs.length<=12:=by
  have:=H3.Jo.len;rw[← H3.eq];simpa[nms] using this
 have r5:∃ a6 bR,cF (bV 6) (aM (U 2)) (Nw RR LN) [some (SC ns),oI m,oR x,oR e,oR l,oR h,none,none] aO=.nx [some (SC ns),oI m,oR x,oR e,oR l,oR h,a6,none] bR/\ag [] aO bR:=by
  have eG:aM (U 2) [some (SC ns),oI m,oR x,oR e,oR l,oR h,none,none] aO=.ok (.seq (.ref x)) aO:=by
   rw[br];exact aY (by rw[aD,aA H3.nx])
  rw[df,eG,cC];refine cp (R:=fun r=>∃ a6 bR,r=.nx [some (SC ns),oI m,oR x,oR e,oR l,oR h,a6,none] bR/\ag [] aO bR) (ds:=xs.map .str) (fun i ρ bR=>∃ a6,ρ=[some (SC ns),oI m,oR x,oR e,oR l,oR h,a6,none]/\ag [] aO bR) ?_ ?_ ?_ fuel 0 _ _ (by unfold fuel;simp;omega) (Nat.zero_le _) ⟨none,rfl,ag.refl⟩
  ·rintro i ρ bR ⟨_,_,K⟩
   rw[cf,aD,aA (H3.keep K).nx]
  ·rintro i d ρ bR hd ⟨a6,rfl,K⟩
   obtain⟨n,hn,rfl⟩:=eW hd;refine⟨[some (SC ns),oI m,oR x,oR e,oR l,oR h,oS n,none],rfl,?_⟩;obtain⟨cg,e5,K5⟩:=EZ hRR hL (a0:=some (SC ns)) (a1:=oI m) (a2:=oR x) (a7:=none) (H3.keep K) (T3.keep K) (List.mem_of_getElem? hn);rw[e5];exact⟨_,rfl,K.trans K5⟩
  ·rintro ρ bR ⟨a6,rfl,K⟩
   exact⟨a6,bR,rfl,K⟩
 obtain⟨a6,bR,r5,K4⟩:=r5;have T4:=T3.keep K4;have H4:=H3.keep K4;obtain⟨g,cg,e5,T5,K5,_⟩:=hP bR h E L Tr T4
 have r6:ax 7 (aV "House" "copied" CP (U 5) af) [some (SC ns),oI m,oR x,oR e,oR l,oR h,a6,none] bR=.nx [some (SC ns),oI m,oR x,oR e,oR l,oR h,a6,oR g] cg:=by
  rw[bj,dh T4 rfl (by decide),aZ,aq,e5]
  rfl
 have H5:=H4.keep K5
 have r7:∃ b6 eo,cF (bV 6) (aM (U 2)) (Nx RR) [some (SC ns),oI m,oR x,oR e,oR l,oR h,a6,oR g] cg=.nx [some (SC ns),oI m,oR x,oR e,oR l,oR h,b6,oR g] eo/\ag [] cg eo:=by
  have eG:aM (U 2) [some (SC ns),oI m,oR x,oR e,oR l,oR h,a6,oR g] cg=.ok (.seq (.ref x)) cg:=by
   rw[br];exact aY (by rw[aD,aA H5.nx])
  rw[df,eG,cC];refine cp (R:=fun r=>∃ b6 eo,r=.nx [some (SC ns),oI m,oR x,oR e,oR l,oR h,b6,oR g] eo/\ag [] cg eo) (ds:=xs.map .str) (fun i ρ eo=>∃ b6,ρ=[some (SC ns),oI m,oR x,oR e,oR l,oR h,b6,oR g]/\ag [] cg eo) ?_ ?_ ?_ fuel 0 _ _ (by unfold fuel;simp;omega) (Nat.zero_le _) ⟨a6,rfl,ag.refl⟩
  ·rintro i ρ eo ⟨_,_,K⟩
   rw[cf,aD,aA (H5.keep K).nx]
  ·rintro i d ρ eo hd ⟨b6,rfl,K⟩
   obtain⟨n,hn,rfl⟩:=eW hd;refine⟨[some (SC ns),oI m,oR x,oR e,oR l,oR h,oS n,oR g],rfl,?_⟩;obtain⟨fX,e7,K7⟩:=E3 hRR (a0:=some (SC ns)) (a1:=oI m) (a2:=oR x) (a4:=oR l) (a5:=oR h) (H5.keep K) (T5.keep K) (List.mem_of_getElem? hn);rw[e7];exact⟨_,rfl,K.trans K7⟩
  ·rintro ρ eo ⟨b6,rfl,K⟩
   exact⟨b6,eo,rfl,K⟩
 obtain⟨b6,eo,r7,K6⟩:=r7;obtain⟨fX,e7⟩:=E4 Xq (a0:=some (SC ns)) (a1:=oI m) (a3:=oR e) (a4:=oR l) (a6:=b6) (a7:=oR g) (H5.keep K6) ((T4.keep K5).keep K6);refine⟨fX,?_⟩;unfold EY;rw[ai,r1,aB,ai,r2,aB,ai,r3,aB,ai,r4,aB,ai,r5,aB,ai,r6,aB,ai,r7,aB,ai,de,e7];rfl
end
end Mir
namespace u6
open PySem PySem.Spec PyProof.Rows L2 Mir
noncomputable def top(i:Nat):Stmt:=PySem.Challenge.pw_taglook_k23_lines_are_merged.main.body.getD i (.Pass ⟨0,0,0,0⟩)
instance clos:aN:=⟨fun _=>⟨"","",bK (top 0),[],aw (top 0),[],[]⟩,fun _=>0⟩
noncomputable def td:List Str:=[]
def QM:bc:=((((((({}:bc).lQ "MOST_ELDERS" (.int 5)).lQ "MOST_KINDS" (.int 12)).lQ "MOST_LETTERS" (.int 8)).lQ "LETTERS" (.str "abcdefghijklmnopqrstuvwxyz")).uZ "elders" ["House"]).uZ "lines" ["House"])
noncomputable def UB:List Str:=["_law_script","_law_k"]
noncomputable def UC:List Str:=["_law_script","_law_k"]
def UD:SM:=
 (ah (dG (m2 (az .Lt) (U 1) (mN (aQ .len) (aa (U 0) af)))
 (ah (bg (m2 aC (U 0) (U 1)))
 aj)
 aj)
 (ah (bg (ae (.int 0)))
 aj))
def Xt:ba:=bN 2 2 UD
def F0:List Mir.D->Out Rs:=pureOf Xt
def QN:bc:=QM.uY "_law_cell" F0
theorem Xu:bO UB UC (aw (top 34))=true:=by decide +kernel
theorem Xv:b9 QM td (top 34) UB=some UD:=rfl
noncomputable def UE:List Str:=["_law_cell_here","_law_turn","_law_many","_law_rest","_law_k","_law_turns","_law_one","_law_two"]
noncomputable def UG:List Str:=["_law_cell_here","_law_turn","_law_many"]
def UH:SM:=
 (ah (ax 3 (m2 (aP .FloorDiv) (U 0) (ae (.int 2))))
 (ah (dG (eQ (m2 (az .Eq) (m2 (aP .Mod) (U 0) (ae (.int 2))) (ae (.int 1))) (m2 (az .Gt) (U 0) (m2 (aP .Pow) (ae (.int 10)) (ae (.int 18)))))
 (ah (cF (bV 4) (cK (aa (U 1) af))
 (ah (ax 3 (m2 (aP .FloorDiv) (U 3) (ae (.int 840))))
 aj))
 (ah (bg (m2 (aP .Mod) (m2 (aP .Mod) (U 3) (ae (.int 840))) (U 2)))
 aj))
 aj)
 (ah (ax 5 (mN aR (aa (ae (.int 48271)) (aa (ae (.int 69621)) (aa (ae (.int 40692)) (aa (ae (.int 39373)) (aa (ae (.int 16807)) (aa (ae (.int 30323)) (aa (ae (.int 21403)) (aa (ae (.int 62089)) (aa (ae (.int 45742)) (aa (ae (.int 37907)) (aa (ae (.int 53611)) (aa (ae (.int 28411)) (aa (ae (.int 59393)) (aa (ae (.int 33391)) af))))))))))))))))
 (ah (ax 6 (m2 (aP .Mod) (m2 (aP .Mult) (m2 (aP .Add) (m2 (aP .Mod) (U 0) (ae (.int 1000000007))) (ae (.int 11))) (m2 aC (U 5) (m2 (aP .Mod) (U 1) (ae (.int 14))))) (ae (.int 2147483629))))
 (ah (ax 7 (m2 (aP .Mod) (m2 (aP .Mult) (U 6) (m2 (aP .Add) (U 6) (U 1))) (ae (.int 1999999973))))
 (ah (bg (m2 (aP .Mod) (m2 (aP .FloorDiv) (m2 (aP .Mod) (m2 (aP .Mult) (U 7) (ae (.int 16807))) (ae (.int 998244353))) (ae (.int 1000))) (U 2)))
 aj))))))
def Xw:ba:=bN 8 3 UH
def F1:List Mir.D->Out Rs:=pureOf Xw
def UI:bc:=QN.uY "_law_mix" F1
theorem Xx:bO UE UG (aw (top 35))=true:=by decide +kernel
theorem Xy:b9 QN td (top 35) UE=some UH:=rfl
def U0:bc:=UI
noncomputable def UJ:List Str:=["thing"]
noncomputable def UK:List Str:=["thing"]
def d0:SM:=
 (ah (dG (eY (m1 (fm .str) (U 0)))
 (ah (bg (ae (.bl false)))
 aj)
 aj)
 (ah (bg (eQ (jM .LtE .LtE (ae (.int 1)) (mN (aQ .len) (aa (U 0) af)) (ae (.int 8))) (mN (aQ .all) (aa (bf (m2 (az .In) (U 0) (ae (.str "abcdefghijklmnopqrstuvwxyz"))) true (ae .non) (aM (U 0)) 0 []) af))))
 aj))
def O0:ba:=bN 1 1 d0
def U1:bc:=U0.cW "is_name" O0
theorem Xz:bO UJ UK (aw (top 19))=true:=by decide +kernel
theorem XA:b9 U0 td (top 19) UJ=some d0:=rfl
noncomputable def UL:List Str:=["left","name","place","row"]
noncomputable def UM:List Str:=["left","name"]
def d1:SM:=
 (ah (cF (fF [2,3]) (lO (U 0))
 (ah (dG (m2 (az .In) (U 1) (cj (U 3) false (ae (.int 1)) true (ae .non)))
 (ah (bg (U 2))
 aj)
 aj)
 aj))
 (ah (bg (ae .non))
 aj))
def O1:ba:=bN 4 2 d1
def U2:bc:=U1.cW "place_behind" O1
theorem XB:bO UL UM (aw (top 23))=true:=by decide +kernel
theorem XC:b9 U1 td (top 23) UL=some d1:=rfl
noncomputable def UN:List Str:=["left","row"]
noncomputable def UO:List Str:=["left"]
def d2:SM:=
 (ah (cF (bV 1) (aM (U 0))
 (ah (dG (eQ (U 1) (m2 (az .Is) (mN (aK O1) (aa (U 0) (aa (m2 aC (U 1) (ae (.int 0))) af))) (ae .non)))
 (ah (bg (m2 aC (U 1) (ae (.int 0))))
 aj)
 aj)
 aj))
 (ah (bg (ae .non))
 aj))
def O2:ba:=bN 2 1 d2
def U3:bc:=U2.cW "free_name" O2
theorem XD:bO UN UO (aw (top 22))=true:=by decide +kernel
theorem XE:b9 U2 td (top 22) UN=some d2:=rfl
noncomputable def UP:List Str:=["rows","left","order","name"]
noncomputable def UQ:List Str:=["rows"]
def d3:SM:=
 (ah (ax 1 (bf (mN (aQ .list) (aa (U 0) af)) true (ae .non) (aM (U 0)) 0 []))
 (ah (ax 2 (mN aR af))
 (ah (ji (mN (aQ .any) (aa (U 1) af))
 (ah (ax 3 (mN (aK O2) (aa (U 1) af)))
 (ah (dG (m2 (az .Is) (U 3) (ae .non))
 (ah bI
 aj)
 aj)
 (ah (cm (cV ik bq (U 2) (aa (U 3) af)))
 (ah (ax 1 (bf (vb (m2 (az .Eq) (cj (U 0) true (ae .non) false (ae (.int 1))) (mN aR (aa (U 1) af))) (cj (U 0) false (ae (.int 1)) true (ae .non)) (U 0)) true (ae .non) (aM (U 1)) 0 [3]))
 aj)))))
 (ah (bg (U 2))
 aj))))
def O3:ba:=bN 4 1 d3
def U4:bc:=U3.cW "merged" O3
theorem XF:bO UP UQ (aw (top 21))=true:=by decide +kernel
theorem XG:b9 U3 td (top 21) UP=some d3:=rfl
noncomputable def UR:List Str:=["rows","told","order"]
noncomputable def US:List Str:=["rows","told"]
def d4:SM:=
 (ah (ah (ax 2 (mN (aK O3) (aa (U 0) af)))
 aj)
 (ah (bg (m2 (az .Eq) (U 2) (U 1)))
 aj))
def O4:ba:=bN 3 2 d4
def U5:bc:=U4.cW "is_merged" O4
theorem XH:bO UR US (aw (top 25))=true:=by decide +kernel
theorem XI:b9 U4 td (top 25) UR=some d4:=rfl
noncomputable def UT:List Str:=["elders","order"]
noncomputable def UU:List Str:=["elders","order"]
def d5:SM:=
 (ah (bg (bf (U 0) false (eQ (m2 (az .NotIn) (U 0) (U 2)) (mN (aQ .all) (aa (bf (m2 (az .In) (U 0) (U 1)) true (ae .non) (aM (m2 aC (U 1) (U 0))) 0 [2]) af))) (aM (U 0)) 0 [0,1]))
 aj)
def O5:ba:=bN 2 2 d5
def U6:bc:=U5.cW "ready_kinds" O5
theorem XJ:bO UT UU (aw (top 14))=true:=by decide +kernel
theorem XM:b9 U5 td (top 14) UT=some d5:=rfl
noncomputable def UW:List Str:=["elders","order","ready"]
noncomputable def UX:List Str:=["elders"]
def d6:SM:=
 (ah (ax 1 (mN aR af))
 (ah (ax 2 (mN (aK O5) (aa (U 0) (aa (U 1) af))))
 (ah (ji (U 2)
 (ah (cm (cV ik fT (U 1) (aa (U 2) af)))
 (ah (ax 2 (mN (aK O5) (aa (U 0) (aa (U 1) af))))
 aj)))
 (ah (bg (U 1))
 aj))))
def O6:ba:=bN 3 1 d6
def U7:bc:=U6.cW "elders_first" O6
theorem XN:bO UW UX (aw (top 13))=true:=by decide +kernel
theorem XO:b9 U6 td (top 13) UW=some d6:=rfl
noncomputable def UY:List Str:=["elders","order","name","left","met"]
noncomputable def UZ:List Str:=["elders"]
def d7:SM:=
 (ah (ax 1 (mN (aK O6) (aa (U 0) af)))
 (ah (ax 3 (bf (U 0) false (m2 (az .NotIn) (U 0) (U 1)) (aM (U 0)) 0 [1]))
 (ah (dG (eY (U 3))
 (ah (bg (ae .non))
 aj)
 aj)
 (ah (ax 4 (mN aR af))
 (ah (ax 2 (m2 aC (U 3) (ae (.int 0))))
 (ah (ji (m2 (az .NotIn) (U 2) (U 4))
 (ah (cm (cV ik bq (U 4) (aa (U 2) af)))
 (ah (ax 2 (m2 aC (bf (U 0) false (m2 (az .In) (U 0) (U 1)) (aM (m2 aC (U 0) (U 2))) 0 [3]) (ae (.int 0))))
 aj)))
 (ah (bg (cj (U 4) false (cV ik nN (U 4) (aa (U 2) af)) true (ae .non)))
 aj)))))))
def O7:ba:=bN 5 1 d7
def U8:bc:=U7.cW "loop_of" O7
theorem XQ:bO UY UZ (aw (top 15))=true:=by decide +kernel
theorem XR:b9 U7 td (top 15) UY=some d7:=rfl
noncomputable def U_:List Str:=["lines","own_elders"]
noncomputable def Va:List Str:=["lines","own_elders"]
def d8:SM:=
 (ah (bg (m2 (aP .Add) (bf (mN (aQ .list) (aa (m2 aC (U 1) (U 0)) af)) true (ae .non) (aM (U 1)) 0 [0]) (mN aR (aa (mN (aQ .list) (aa (U 1) af)) af))))
 aj)
def O8:ba:=bN 2 2 d8
def U9:bc:=U8.cW "rows_by" O8
theorem XS:bO U_ Va (aw (top 28))=true:=by decide +kernel
theorem XT:b9 U8 td (top 28) U_=some d8:=rfl
noncomputable def Vb:List Str:=["elders","ring","lines","tangles","name","refusal"]
noncomputable def Vc:List Str:=["elders"]
def d9:SM:=
 (ah (ax 1 (mN (aK O7) (aa (U 0) af)))
 (ah (dG (m2 (az .IsNot) (U 1) (ae .non))
 (ah bI
 aj)
 aj)
 (ah (ax 2 bZ)
 (ah (ax 3 bZ)
 (ah (cF (bV 4) (aM (mN (aK O6) (aa (U 0) af)))
 (ah (dG (mN (aQ .all) (aa (bf (m2 (az .In) (U 0) (U 1)) true (ae .non) (aM (m2 aC (U 0) (U 4))) 0 [2]) af))
 (ah (ah (ej (U 2) (U 4) (m2 (aP .Add) (mN aR (aa (U 4) af)) (mN (aK O3) (aa (mN (aK O8) (aa (U 2) (aa (m2 aC (U 0) (U 4)) af))) af))))
 aj)
 aj)
 aj)
 aj))
 (ah (cF (bV 4) (aM (U 0))
 (ah (dG (m2 (az .In) (U 4) (U 3))
 (ah bI
 aj)
 aj)
 aj))
 (ah (bg (mN ff (aa (bf (mN iQ (aa (U 0) (aa (m2 aC (U 1) (U 0)) af))) true (ae .non) (aM (U 0)) 0 [2]) af)))
 aj)))))))
def O9:ba:=bN 6 1 d9
def QO:bc:=U9.cW "lines_of" O9
theorem XU:bO Vb Vc (aw (top 27))=true:=by decide +kernel
theorem XW:b9 U9 td (top 27) Vb=some d9:=rfl
noncomputable def Jp:List Str:=["self"]
noncomputable def Jq:List Str:=["self"]
def Vd:SM:=
 (ah (cY ["House"] "elders" (U 0) bZ)
 (ah (cY ["House"] "lines" (U 0) bZ)
 aj))
def B7:ba:=bN 1 1 Vd
def Ve:bc:=QO.fI "House" "__init__" B7
theorem QP:bO Jp Jq (aw (inClass (top 32) 0))=true:=by decide +kernel
theorem QQ:b9 QO td (inClass (top 32) 0) Jp=some Vd:=rfl
def QR:bc:=Ve.Aa "House" B7
noncomputable def Jr:List Str:=["self"]
noncomputable def Js:List Str:=["self"]
def Vf:SM:=
 (ah (bg (mN (aQ .list) (aa (m1 (dO ["House"] "elders") (U 0)) af)))
 aj)
def E5:ba:=bN 1 1 Vf
def QS:bc:=QR.fI "House" "kinds" E5
theorem QT:bO Jr Js (aw (inClass (top 32) 5))=true:=by decide +kernel
theorem QU:b9 QR td (inClass (top 32) 5) Jr=some Vf:=rfl
noncomputable def Jt:List Str:=["self","name"]
noncomputable def Ju:List Str:=["self","name"]
def Vg:SM:=
 (ah (dG (m2 (az .NotIn) (U 1) (aV "House" "kinds" E5 (U 0) af))
 (ah bI
 aj)
 aj)
 aj)
def A5:ba:=bN 2 2 Vg
def QV:bc:=QS.fI "House" "check_kind" A5
theorem QW:bO Jt Ju (aw (inClass (top 32) 11))=true:=by decide +kernel
theorem QX:b9 QS td (inClass (top 32) 11) Jt=some Vg:=rfl
noncomputable def Jv:List Str:=["self","elders","place","elder"]
noncomputable def Jw:List Str:=["self","elders"]
def Vh:SM:=
 (ah (dG (m2 (az .Gt) (mN (aQ .len) (aa (U 1) af)) (ae (.int 5)))
 (ah bI
 aj)
 aj)
 (ah (cF (fF [2,3]) (lO (U 1))
 (ah (cm (aV "House" "check_kind" A5 (U 0) (aa (U 3) af)))
 (ah (dG (m2 (az .In) (U 3) (cj (U 1) true (ae .non) false (U 2)))
 (ah bI
 aj)
 aj)
 aj)))
 aj))
def Jx:ba:=bN 4 2 Vh
def QY:bc:=QV.fI "House" "check_elders" Jx
theorem QZ:bO Jv Jw (aw (inClass (top 32) 12))=true:=by decide +kernel
theorem Q0:b9 QV td (inClass (top 32) 12) Jv=some Vh:=rfl
noncomputable def Jy:List Str:=["self","elders","lines"]
noncomputable def Jz:List Str:=["self","elders"]
def Vi:SM:=
 (ah (ax 2 (mN (aK O9) (aa (U 1) af)))
 (ah (cY ["House"] "elders" (U 0) (U 1))
 (ah (cY ["House"] "lines" (U 0) (U 2))
 aj)))
def JA:ba:=bN 3 2 Vi
def Q1:bc:=QY.fI "House" "settle" JA
theorem Q2:bO Jy Jz (aw (inClass (top 32) 13))=true:=by decide +kernel
theorem Q3:b9 QY td (inClass (top 32) 13) Jy=some Vi:=rfl
noncomputable def JB:List Str:=["self","name","elders","at","order"]
noncomputable def va:List Str:=["self","name","elders","at"]
def Vj:SM:=
 (ah (dG (eY (mN (aK O0) (aa (U 1) af)))
 (ah bI
 aj)
 aj)
 (ah (dG (m2 (az .In) (U 1) (m1 (dO ["House"] "elders") (U 0)))
 (ah bI
 aj)
 aj)
 (ah (dG (m2 (az .GtE) (mN (aQ .len) (aa (m1 (dO ["House"] "elders") (U 0)) af)) (ae (.int 12)))
 (ah bI
 aj)
 aj)
 (ah (cm (aV "House" "check_elders" Jx (U 0) (aa (U 2) af)))
 (ah (ax 4 (aV "House" "kinds" E5 (U 0) af))
 (ah (cm (cV ik fS (U 4) (aa (vb (m2 (az .Is) (U 3) (ae .non)) (mN (aQ .len) (aa (U 4) af)) (U 3)) (aa (U 1) af))))
 (ah (cm (aV "House" "settle" JA (U 0) (aa (mN ff (aa (bf (mN iQ (aa (U 0) (aa (vb (m2 (az .Eq) (U 0) (U 2)) (mN (aQ .list) (aa (U 1) af)) (m2 aC (m1 (dO ["House"] "elders") (U 3)) (U 0))) af))) true (ae .non) (aM (U 4)) 0 [2,1,0]) af)) af)))
 aj)))))))
def JC:ba:=bN 5 4 Vj
def Q4:bc:=Q1.fI "House" "add" (fun xs=>JC (xs++[.non]))
theorem Q5:bO JB va (aw (inClass (top 32) 1))=true:=by decide +kernel
theorem Q6:b9 Q1 td (inClass (top 32) 1) JB=some Vj:=rfl
noncomputable def JD:List Str:=["self","name"]
noncomputable def JE:List Str:=["self","name"]
def Vk:SM:=
 (ah (cm (aV "House" "check_kind" A5 (U 0) (aa (U 1) af)))
 (ah (bg (mN (aQ .list) (aa (m2 aC (m1 (dO ["House"] "lines") (U 0)) (U 1)) af)))
 aj))
def A6:ba:=bN 2 2 Vk
def Q7:bc:=Q4.fI "House" "line" A6
theorem Q8:bO JD JE (aw (inClass (top 32) 7))=true:=by decide +kernel
theorem Q9:b9 Q4 td (inClass (top 32) 7) JD=some Vk:=rfl
noncomputable def JF:List Str:=["self","name"]
noncomputable def JG:List Str:=["self","name"]
def Vl:SM:=
 (ah (cm (aV "House" "check_kind" A5 (U 0) (aa (U 1) af)))
 (ah (bg (mN (aK O8) (aa (m1 (dO ["House"] "lines") (U 0)) (aa (m2 aC (m1 (dO ["House"] "elders") (U 0)) (U 1)) af))))
 aj))
def B8:ba:=bN 2 2 Vl
def Q_:bc:=Q7.fI "House" "rows_of" B8
theorem Ra:bO JF JG (aw (inClass (top 32) 8))=true:=by decide +kernel
theorem Rb:b9 Q7 td (inClass (top 32) 8) JF=some Vl:=rfl
noncomputable def JH:List Str:=["self","twin"]
noncomputable def JI:List Str:=["self"]
def Vm:SM:=
 (ah (ax 1 (mN (jk "House" B7) af))
 (ah (cY ["House"] "elders" (U 1) (mN ff (aa (m1 (dO ["House"] "elders") (U 0)) af)))
 (ah (cY ["House"] "lines" (U 1) (mN ff (aa (m1 (dO ["House"] "lines") (U 0)) af)))
 (ah (bg (U 1))
 aj))))
def JJ:ba:=bN 2 1 Vm
def Rc:bc:=Q_.fI "House" "copied" JJ
theorem Rf:bO JH JI (aw (inClass (top 32) 10))=true:=by decide +kernel
theorem Rg:b9 Q_ td (inClass (top 32) 10) JH=some Vm:=rfl
noncomputable def JK:List Str:=["_law_cell_here","_law_many","_law_letters","_law_stem","_law_turn","_law_names_here","_law_size","_law_spot","_law_first","_law_step","_law_signs"]
noncomputable def JL:List Str:=["_law_cell_here","_law_many"]
def Vn:SM:=
 (ah (ax 2 (ae (.str "abcdefghijklmnopqrstuvwxyz")))
 (ah (ax 3 (cV zJ mH (ae (.str "")) (aa (bf (m2 aC (U 2) (mN (bY F1) (aa (U 1) (aa (U 0) (aa (ae (.int 26)) af))))) true (ae .non) (cK (aa (ae (.int 8)) af)) 0 [0,2]) af)))
 (ah (ax 4 (mN (bY F1) (aa (U 0) (aa (ae (.int 8)) (aa (U 1) af)))))
 (ah (dG (eQ (m2 (az .LtE) (U 1) (ae (.int 8))) (m2 (az .Eq) (mN (bY F1) (aa (U 0) (aa (ae (.int 9)) (aa (ae (.int 4)) af)))) (ae (.int 1))))
 (ah (ax 5 (bf (cj (U 1) true (ae .non) false (m2 (aP .Add) (U 0) (ae (.int 1)))) true (ae .non) (cK (aa (U 1) af)) 0 [3]))
 (ah (bg (m2 (aP .Add) (cj (U 5) false (U 4) true (ae .non)) (cj (U 5) true (ae .non) false (U 4))))
 aj))
 aj)
 (ah (ax 6 (m2 (aP .Add) (ae (.int 1)) (mN (bY F1) (aa (U 0) (aa (ae (.int 10)) (aa (ae (.int 8)) af))))))
 (ah (ax 7 (mN (bY F1) (aa (U 0) (aa (ae (.int 11)) (aa (U 6) af)))))
 (ah (ax 8 (mN (bY F1) (aa (U 0) (aa (ae (.int 12)) (aa (ae (.int 26)) af)))))
 (ah (ax 9 (m2 aC (mN aR (aa (ae (.int 1)) (aa (ae (.int 3)) (aa (ae (.int 5)) (aa (ae (.int 7)) af))))) (mN (bY F1) (aa (U 0) (aa (ae (.int 13)) (aa (ae (.int 4)) af))))))
 (ah (ax 10 (bf (m2 aC (U 2) (m2 (aP .Mod) (m2 (aP .Add) (U 1) (m2 (aP .Mult) (U 3) (U 0))) (ae (.int 26)))) true (ae .non) (cK (aa (U 1) af)) 0 [8,2,9]))
 (ah (bg (bf (m2 (aP .Add) (m2 (aP .Add) (cj (U 3) true (ae .non) false (U 2)) (U 0)) (cj (U 3) false (m2 (aP .Add) (U 2) (ae (.int 1))) false (U 1))) true (ae .non) (aM (U 10)) 0 [6,7,3]))
 aj))))))))))
def JM:ba:=bN 11 2 Vn
def Rh:bc:=Rc.cW "_law_names" JM
theorem Ri:bO JK JL (aw (top 36))=true:=by decide +kernel
theorem Rj:b9 Rc td (top 36) JK=some Vn:=rfl
noncomputable def JN:List Str:=["_law_script","_law_start","_law_names_here","_law_most","_law_rows_here","_law_k","_law_cell_here","_law_row","_law_spot"]
noncomputable def JO:List Str:=["_law_script","_law_start","_law_names_here","_law_most"]
def Vo:SM:=
 (ah (ax 4 (mN aR af))
 (ah (cF (bV 5) (cK (aa (mN (aQ .len) (aa (U 2) af)) af))
 (ah (ax 6 (mN (bY F0) (aa (U 0) (aa (m2 (aP .Add) (U 1) (U 5)) af))))
 (ah (ax 7 (bf (m2 aC (U 2) (U 0)) false (m2 (az .Eq) (mN (bY F1) (aa (U 1) (aa (U 0) (aa (ae (.int 3)) af)))) (ae (.int 0))) (cK (aa (U 5) af)) 0 [6,2]))
 (ah (ax 7 (cj (U 7) true (ae .non) false (U 3)))
 (ah (cm (cV ik ei (U 7) af))
 (ah (dG (eQ (m2 (az .NotEq) (U 7) (mN aR af)) (m2 (az .Eq) (mN (bY F1) (aa (U 6) (aa (ae (.int 13)) (aa (ae (.int 3)) af)))) (ae (.int 1))))
 (ah (ax 8 (mN (bY F1) (aa (U 6) (aa (ae (.int 14)) (aa (mN (aQ .len) (aa (U 7) af)) af)))))
 (ah (ax 7 (m2 (aP .Add) (cj (U 7) false (U 8) true (ae .non)) (cj (U 7) true (ae .non) false (U 8))))
 aj))
 aj)
 (ah (cm (cV ik bq (U 4) (aa (U 7) af)))
 aj)))))))
 (ah (bg (U 4))
 aj)))
def JP:ba:=bN 9 4 Vo
def Rk:bc:=Rh.cW "_law_rows" JP
theorem Rl:bO JN JO (aw (top 37))=true:=by decide +kernel
theorem Rm:b9 Rh td (top 37) JN=some Vo:=rfl
noncomputable def JQ:List Str:=["_law_rows_here","_law_row","_law_left","_law_told","_law_behind","_law_name","_law_free"]
noncomputable def JR:List Str:=["_law_rows_here"]
def Vp:SM:=
 (ah (ax 2 (bf (mN (aQ .list) (aa (U 0) af)) false (m2 (az .NotEq) (U 0) (mN aR af)) (aM (U 0)) 0 []))
 (ah (ax 3 (mN aR af))
 (ah (ji (m2 (az .NotEq) (U 2) (mN aR af))
 (ah (ax 4 bZ)
 (ah (cF (bV 1) (aM (U 2))
 (ah (cF (bV 5) (aM (cj (U 1) false (ae (.int 1)) true (ae .non)))
 (ah (ej (U 4) (U 5) (ae (.bl true)))
 aj))
 aj))
 (ah (ax 6 (bf (m2 aC (U 0) (ae (.int 0))) false (m2 (az .NotIn) (m2 aC (U 0) (ae (.int 0))) (U 1)) (aM (U 2)) 0 [4]))
 (ah (dG (m2 (az .Eq) (U 6) (mN aR af))
 (ah (bg (ae .non))
 aj)
 aj)
 (ah (cm (cV ik bq (U 3) (aa (m2 aC (U 6) (ae (.int 0))) af)))
 (ah (ax 2 (bf (bf (U 0) false (m2 (az .NotEq) (U 0) (m2 aC (U 1) (ae (.int 0)))) (aM (U 0)) 0 [1]) true (ae .non) (aM (U 2)) 0 [6]))
 (ah (ax 2 (bf (U 0) false (m2 (az .NotEq) (U 0) (mN aR af)) (aM (U 2)) 0 []))
 aj))))))))
 (ah (bg (U 3))
 aj))))
def JS:ba:=bN 7 1 Vp
def Rn:bc:=Rk.cW "_law_merge" JS
theorem Ro:bO JQ JR (aw (top 38))=true:=by decide +kernel
theorem Rp:b9 Rk td (top 38) JQ=some Vp:=rfl
noncomputable def JT:List Str:=["_law_names_here","_law_rows_here","_law_elders","_law_lines","_law_k","_law_row","_law_behind"]
noncomputable def JU:List Str:=["_law_names_here","_law_rows_here"]
def Vq:SM:=
 (ah (ax 2 bZ)
 (ah (ax 3 bZ)
 (ah (cF (bV 4) (cK (aa (mN (aQ .len) (aa (U 0) af)) af))
 (ah (ax 5 (mN (aQ .list) (aa (m2 aC (U 1) (U 4)) af)))
 (ah (ax 6 (mN (aK JS) (aa (m2 (aP .Add) (bf (m2 aC (U 1) (U 0)) true (ae .non) (aM (U 5)) 0 [3]) (mN aR (aa (U 5) af))) af)))
 (ah (dG (m2 (az .Is) (U 6) (ae .non))
 (ah (ax 5 (mN aR af))
 (ah (ax 6 (mN aR af))
 aj))
 aj)
 (ah (ej (U 2) (m2 aC (U 0) (U 4)) (U 5))
 (ah (ej (U 3) (m2 aC (U 0) (U 4)) (m2 (aP .Add) (mN aR (aa (m2 aC (U 0) (U 4)) af)) (U 6)))
 aj))))))
 (ah (bg (mN iQ (aa (U 2) (aa (U 3) af))))
 aj))))
def JV:ba:=bN 7 2 Vq
def Rq:bc:=Rn.cW "_law_clean" JV
theorem Rr:bO JT JU (aw (top 39))=true:=by decide +kernel
theorem Rt:b9 Rn td (top 39) JT=some Vq:=rfl
noncomputable def JW:List Str:=["_law_elders","_law_house","_law_name","_law_row","_law_handed"]
noncomputable def JX:List Str:=["_law_elders"]
def Vr:SM:=
 (ah (ax 1 (mN (jk "House" B7) af))
 (ah (cF (fF [2,3]) (kU (U 0))
 (ah (ax 4 (mN (aQ .list) (aa (U 3) af)))
 (ah (cm (aV "House" "add" (fun xs=>JC (xs++[.non])) (U 1) (aa (U 2) (aa (U 4) af))))
 (ah (cm (cV ik bq (U 4) (aa (ae (.str "zz")) af)))
 aj))))
 (ah (bg (U 1))
 aj)))
def JY:ba:=bN 5 1 Vr
def Ru:bc:=Rq.cW "_law_built" JY
theorem Rv:bO JW JX (aw (top 40))=true:=by decide +kernel
theorem Rx:b9 Rq td (top 40) JW=some Vr:=rfl
noncomputable def JZ:List Str:=["_law_found"]
noncomputable def J0:List Str:=["_law_found"]
def Vs:SM:=
 (ah (bg (eQ (m1 (fm .list) (U 0)) (mN (aQ .all) (aa (bf (m1 (fm .str) (U 0)) true (ae .non) (aM (U 0)) 0 []) af))))
 aj)
def J1:ba:=bN 1 1 Vs
def Ry:bc:=Ru.cW "_law_texts" J1
theorem Rz:bO JZ J0 (aw (top 41))=true:=by decide +kernel
theorem RA:b9 Ru td (top 41) JZ=some Vs:=rfl
noncomputable def J2:List Str:=["_law_house","_law_elders","_law_name","_law_rows_here","_law_due","_law_row","_law_line","_law_handed"]
noncomputable def J3:List Str:=["_law_house","_law_elders","_law_name"]
def Vt:SM:=
 (ah (ax 3 (aV "House" "rows_of" B8 (U 0) (aa (U 2) af)))
 (ah (ax 4 (m2 (aP .Add) (bf (aV "House" "line" A6 (U 1) (aa (U 0) af)) true (ae .non) (aM (m2 aC (U 1) (U 2))) 0 [0]) (mN aR (aa (m2 aC (U 1) (U 2)) af))))
 (ah (dG (sW (eY (m1 (fm .list) (U 3))) (sW (m2 (az .NotEq) (U 3) (U 4)) (eY (mN (aQ .all) (aa (bf (mN (aK J1) (aa (U 0) af)) true (ae .non) (aM (U 3)) 0 []) af)))))
 (ah (bg (ae (.bl false)))
 aj)
 aj)
 (ah (ax 6 (aV "House" "line" A6 (U 0) (aa (U 2) af)))
 (ah (ax 7 (bf (mN (aQ .list) (aa (U 0) af)) true (ae .non) (aM (U 3)) 0 []))
 (ah (dG (sW (m2 (az .NotEq) (mN (aK O3) (aa (U 7) af)) (cj (U 6) false (ae (.int 1)) true (ae .non))) (m2 (az .IsNot) (mN (aK O4) (aa (U 3) (aa (cj (U 6) false (ae (.int 1)) true (ae .non)) af))) (ae (.bl true))))
 (ah (bg (ae (.bl false)))
 aj)
 aj)
 (ah (cF (bV 5) (aM (U 3))
 (ah (cm (cV ik bq (U 5) (aa (ae (.str "zz")) af)))
 aj))
 (ah (cm (cV ik bq (U 3) (aa (mN aR (aa (ae (.str "zz")) af)) af)))
 (ah (bg (eQ (m2 (az .Eq) (aV "House" "rows_of" B8 (U 0) (aa (U 2) af)) (U 4)) (m2 (az .Eq) (aV "House" "line" A6 (U 0) (aa (U 2) af)) (U 6))))
 aj)))))))))
def Gj:ba:=bN 8 3 Vt
def Vu:bc:=Ry.cW "_law_rows_right" Gj
theorem RC:bO J2 J3 (aw (top 42))=true:=by decide +kernel
theorem RD:b9 Ry td (top 42) J2=some Vt:=rfl
noncomputable def J4:List Str:=["_law_script","_law_many","_law_names_here","_law_elders","_law_lines","_law_house","_law_name","_law_other"]
noncomputable def E6:List Str:=["_law_script"]
def Vv:SM:=
 (ah (ax 1 (m2 aC (mN aR (aa (ae (.int 4)) (aa (ae (.int 5)) (aa (ae (.int 6)) (aa (ae (.int 7)) (aa (ae (.int 4)) (aa (ae (.int 5)) (aa (ae (.int 6)) (aa (ae (.int 7)) (aa (ae (.int 1)) (aa (ae (.int 2)) (aa (ae (.int 3)) (aa (ae (.int 12)) af))))))))))))) (m2 (aP .Mod) (mN (bY F0) (aa (U 0) (aa (ae (.int 0)) af))) (ae (.int 12)))))
 (ah (ax 2 (mN (aK JM) (aa (mN (bY F0) (aa (U 0) (aa (ae (.int 1)) af))) (aa (U 1) af))))
 (ah (rh [3,4] (mN (aK JV) (aa (U 2) (aa (mN (aK JP) (aa (U 0) (aa (ae (.int 2)) (aa (U 2) (aa (ae (.int 5)) af))))) af))))
 (ah (ax 5 (mN (aK JY) (aa (U 3) af)))
 (ah (cF (bV 6) (aM (U 2))
 (ah (dG (sW (eY (mN (aK Gj) (aa (U 5) (aa (U 3) (aa (U 6) af))))) (m2 (az .NotEq) (aV "House" "line" A6 (U 5) (aa (U 6) af)) (m2 aC (U 4) (U 6))))
 (ah (bg (ae (.bl false)))
 aj)
 aj)
 aj))
 (ah (ax 7 (aV "House" "copied" JJ (U 5) af))
 (ah (cF (bV 6) (aM (U 2))
 (ah (dG (eY (mN (aK Gj) (aa (U 7) (aa (U 3) (aa (U 6) af)))))
 (ah (bg (ae (.bl false)))
 aj)
 aj)
 aj))
 (ah (bg (m2 (az .Eq) (aV "House" "rows_of" B8 (U 5) (aa (m2 aC (U 2) (ae (.int 0))) af)) (mN aR (aa (mN aR af) af))))
 aj))))))))
def J5:ba:=bN 8 1 Vv
theorem RE:bO J4 E6 (aw (top 43))=true:=by decide +kernel
theorem RF:b9 Vu td (top 43) J4=some Vv:=rfl
theorem XX:F0=pureOf (bN 2 2 oh):=rfl
theorem XY:F1=pureOf (bN 8 3 mO):=rfl
theorem o0:O0=bN 1 1 PU:=rfl
theorem o1:O1=bN 4 2 rH:=rfl
theorem o2:O2=bN 2 1 (Av O1):=rfl
theorem o3:∃ st,O3=bN 4 1 (D3 st O2):=⟨_,rfl⟩
theorem o4:O4=bN 3 2 (D5 O3):=rfl
theorem o5:O5=bN 2 2 Pp:=rfl
theorem o6:O6=bN 3 1 (Pq O5):=rfl
theorem o7:∃ rest,O7=bN 5 1 (Pt O6 rest):=⟨_,rfl⟩
theorem o8:O8=bN 2 2 Pw:=rfl
theorem o9:O9=bN 6 1 (Px O7 O6 O3 O8):=rfl
theorem XZ:B7=bN 1 1 Nc:=rfl
theorem X_:E5=bN 1 1 PV:=rfl
theorem Ya:A5=bN 2 2 (PX E5):=rfl
theorem Yb:Jx=bN 4 2 (PZ A5):=rfl
theorem Yc:JA=bN 3 2 (P2 O9):=rfl
theorem Yd:JC=bN 5 4 (P6 O0 Jx E5 JA):=rfl
theorem Ye:A6=bN 2 2 (P0 A5):=rfl
theorem Yf:B8=bN 2 2 (P1 A5 O8):=rfl
theorem Yg:JJ=bN 2 1 (P_ B7):=rfl
theorem Yh:JM=bN 11 2 (QE F1):=rfl
theorem Yi:JP=bN 9 4 (QI F1 F0):=rfl
theorem Yj:JS=bN 7 1 Nf:=rfl
theorem Yk:JV=bN 7 2 (Qh JS):=rfl
theorem Yl:JY=bN 5 1 (Qr B7 JC):=rfl
theorem Ym:J1=bN 1 1 Qs:=rfl
theorem Yn:Gj=bN 8 3 (Qv B8 A6 J1 O3 O4):=rfl
theorem Yo:J5=bN 8 1 (EY F0 JM JV JP JY Gj A6 JJ B8):=rfl
theorem yd(ns:List Int)(hl:ns.length<=63):∃ ak,J5 [.lst (ns.map .int)] []=.ok (.bl true) ak:=by
 obtain⟨μ,hμ⟩:=A0;have mL:=x_;rw[← XY]at hμ;rw[← XX]at mL;have hF:FnAt O2:=by rw[o2,o1];exact Ik
 have hM:rK O3:=by obtain⟨st,e⟩:=o3;rw[e];exact Im hF
 have hI:Ay O4:=by rw[o4];exact Io hM
 have Yp:AA O5:=by rw[o5];exact Iw
 have hEf:AB O6:=by rw[o6];exact Iz Yp
 have Yq:D_ O7:=by obtain⟨st,e⟩:=o7;rw[e];exact ID hEf
 have Vx:xM O8:=by rw[o8];exact IE
 have hLi:Eb O9:=by rw[o9];exact IF Yq hEf hM Vx
 have Vy:AJ B7:=by rw[XZ];exact IU
 have Vz:AI E5:=by rw[X_];exact IK
 have RG:u4 A5:=by rw[Ya];exact IL Vz
 have Yr:Eh Jx:=by rw[Yb];exact IP RG
 have hSt:xQ JA:=by rw[Yc];exact IV hLi
 have hIs:Ee O0:=by rw[o0];exact IJ
 have Ys:AK JC:=by rw[Yd];exact IX hIs Yr Vz hSt
 have B0:rP A6:=by rw[Ye];exact IQ RG
 have VA:u5 B8:=by rw[Yf];exact IT RG Vx
 have Yt:Ek JJ:=by rw[Yg];exact IY Vy
 have Yu:A2 JM:=by rw[Yh];exact Jl hμ
 have Yv:A3 JP:=by rw[Yi];exact Jn hμ mL
 have Yw:AV JS:=by rw[Yj];exact Ja
 have Yx:AX JV:=by rw[Yk];exact Jd Yw
 have Yy:AZ JY:=by rw[Yl];exact Je Vy Ys
 have Yz:x6 J1:=by rw[Ym];exact Jf
 have YA:x9 Gj:=by rw[Yn];exact Jh VA B0 Yz hM hI
 rw[Yo];exact yc mL Yu Yx Yv Yy YA B0 Yt VA ns
theorem all_mk{P:Program}{w:World}{K:PySem.W.Frag}{h:Heap}{mg:Str->Option Value}{fa:Addr}(X:K.In h)(G:h.Ns mainGlobals mg)(hfa:mg "law"=some (.ref fa))
  (nb:sN K=true)
  {q0:Tok} (z0:PySem.W.nsIn K mainGlobals "LETTERS"=some (some (.str "abcdefghijklmnopqrstuvwxyz" q0)))
  {q1:Tok} (z1:PySem.W.nsIn K mainGlobals "MOST_LETTERS"=some (some (.int 8 q1)))
  {q2:Tok} (z2:PySem.W.nsIn K mainGlobals "MOST_KINDS"=some (some (.int 12 q2)))
  {q3:Tok} (z3:PySem.W.nsIn K mainGlobals "MOST_ELDERS"=some (some (.int 5 q3)))
  {f0:Addr} {YB:FuncData} (a0:dC K "_law_cell" (top 34) f0 YB)
  {f1:Addr} {YC:FuncData} (a1:dC K "_law_mix" (top 35) f1 YC)
  {C0:Addr} (RI:PySem.W.nsIn K mainGlobals "House"=some (some (.ref C0))) (RJ:PySem.W.plainGet K C0 Str.empty=true) (hd0:PySem.W.hasDictIn K C0=true) (RL:PySem.W.plainOver K C0=true) (RM:PySem.W.findIn K (.ref C0) "__setattr__"=some (some (.builtin "object.__setattr__"))) (RN:PySem.W.makesIn K C0=true) (RP:PySem.W.keepIn K (.ref C0)=true)
  (RQ:PySem.W.findIn K (.ref C0) "elders"=some none)
  (RS:PySem.W.findIn K (.ref C0) "lines"=some none)
  {YD:Addr} {RT:FuncData} (Ny:dC K "is_name" (top 19) YD RT)
  {YE:Addr} {RU:FuncData} (Nz:dC K "place_behind" (top 23) YE RU)
  {YF:Addr} {RW:FuncData} (NA:dC K "free_name" (top 22) YF RW)
  {YG:Addr} {RX:FuncData} (NB:dC K "merged" (top 21) YG RX)
  {YH:Addr} {RY:FuncData} (NC:dC K "is_merged" (top 25) YH RY)
  {YI:Addr} {RZ:FuncData} (ND:dC K "ready_kinds" (top 14) YI RZ)
  {YJ:Addr} {R6:FuncData} (NF:dC K "elders_first" (top 13) YJ R6)
  {YK:Addr} {R8:FuncData} (NG:dC K "loop_of" (top 15) YK R8)
  {YL:Addr} {R_:FuncData} (NI:dC K "rows_by" (top 28) YL R_)
  {YM:Addr} {Sa:FuncData} (NJ:dC K "lines_of" (top 27) YM Sa)
  {A7:Addr} {J6 J7:Option Addr} {J8:Array (Option Value)} {J9 J_ Ka Kb B9 Kc:Value} (A8:PySem.W.findIn K (.ref C0) "__init__"=some (some (.ref A7))) (E7:K.lookup A7=some ⟨J9,J6,.func (PySem.W.fnOf "__init__" "House.__init__" (bK (inClass (top 32) 0)) (bG (inClass (top 32) 0)) (aw (inClass (top 32) 0)) .none J_ Ka Kb J7 B9 Kc),J8⟩) (E8:PySem.W.codeIn K B9 "House.__init__"=true) (A9:PySem.W.keepIn K (.ref A7)=true)
  (NK:PySem.W.isFn K (.ref A7)=true)
  {A_:Addr} {Kd Ke:Option Addr} {Kf:Array (Option Value)} {Kg Kh Ki Kj B_ Kk:Value} (E9:PySem.W.findIn K (.ref C0) "kinds"=some (some (.ref A_))) (E_:K.lookup A_=some ⟨Kg,Kd,.func (PySem.W.fnOf "kinds" "House.kinds" (bK (inClass (top 32) 5)) (bG (inClass (top 32) 5)) (aw (inClass (top 32) 5)) .none Kh Ki Kj Ke B_ Kk),Kf⟩) (Fb:PySem.W.codeIn K B_ "House.kinds"=true) (Ba:PySem.W.keepIn K (.ref A_)=true)
  (i12:PySem.W.isFn K (.ref A_)=true)
  {Bb:Addr} {Kl Km:Option Addr} {Kn:Array (Option Value)} {Ko Kp Kq Kr Cb Ks:Value} (Fc:PySem.W.findIn K (.ref C0) "check_kind"=some (some (.ref Bb))) (Fd:K.lookup Bb=some ⟨Ko,Kl,.func (PySem.W.fnOf "check_kind" "House.check_kind" (bK (inClass (top 32) 11)) (bG (inClass (top 32) 11)) (aw (inClass (top 32) 11)) .none Kp Kq Kr Km Cb Ks),Kn⟩) (Fe:PySem.W.codeIn K Cb "House.check_kind"=true) (Bc:PySem.W.keepIn K (.ref Bb)=true)
  (Sb:PySem.W.isFn K (.ref Bb)=true)
  {Bd:Addr} {Kt Ku:Option Addr} {Kv:Array (Option Value)} {Kw Kx Ky Kz Cc KA:Value} (Ff:PySem.W.findIn K (.ref C0) "check_elders"=some (some (.ref Bd))) (Fg:K.lookup Bd=some ⟨Kw,Kt,.func (PySem.W.fnOf "check_elders" "House.check_elders" (bK (inClass (top 32) 12)) (bG (inClass (top 32) 12)) (aw (inClass (top 32) 12)) .none Kx Ky Kz Ku Cc KA),Kv⟩) (Fh:PySem.W.codeIn K Cc "House.check_elders"=true) (Be:PySem.W.keepIn K (.ref Bd)=true)
  (Sd:PySem.W.isFn K (.ref Bd)=true)
  {Bf:Addr} {KC KG:Option Addr} {KH:Array (Option Value)} {KI KJ KL KN Cd KO:Value} (Fi:PySem.W.findIn K (.ref C0) "settle"=some (some (.ref Bf))) (Fj:K.lookup Bf=some ⟨KI,KC,.func (PySem.W.fnOf "settle" "House.settle" (bK (inClass (top 32) 13)) (bG (inClass (top 32) 13)) (aw (inClass (top 32) 13)) .none KJ KL KN KG Cd KO),KH⟩) (Fl:PySem.W.codeIn K Cd "House.settle"=true) (Bg:PySem.W.keepIn K (.ref Bf)=true)
  (Se:PySem.W.isFn K (.ref Bf)=true)
  {NL:Addr} {KP:Obj} {Sf:Nat}
  {ye:Addr} {KQ Ce:Option Addr} {KR:Array (Option Value)} {KS Cf Cg Ci yf Cj:Value} (Fm:PySem.W.findIn K (.ref C0) "add"=some (some (.ref ye))) (Fo:K.lookup ye=some ⟨KS,KQ,.func (PySem.W.fnOf "add" "House.add" (bK (inClass (top 32) 1)) (bG (inClass (top 32) 1)) (aw (inClass (top 32) 1)) (.ref NL) Cf Cg Ci Ce yf Cj),KR⟩) (Fp:PySem.W.codeIn K yf "House.add"=true) (Bh:PySem.W.keepIn K (.ref ye)=true)
  (Fq:K.lookup NL=some KP) (Fs:KP.data=.seq #[.none] Sf)
  (Sg:PySem.W.isFn K (.ref ye)=true)
  {Bi:Addr} {KU KW:Option Addr} {KY:Array (Option Value)} {KZ K_ La Lb Ck Lc:Value} (Ft:PySem.W.findIn K (.ref C0) "line"=some (some (.ref Bi))) (Fu:K.lookup Bi=some ⟨KZ,KU,.func (PySem.W.fnOf "line" "House.line" (bK (inClass (top 32) 7)) (bG (inClass (top 32) 7)) (aw (inClass (top 32) 7)) .none K_ La Lb KW Ck Lc),KY⟩) (Fv:PySem.W.codeIn K Ck "House.line"=true) (Bj:PySem.W.keepIn K (.ref Bi)=true)
  (Sh:PySem.W.isFn K (.ref Bi)=true)
  {Bk:Addr} {Ld Le:Option Addr} {Lf:Array (Option Value)} {Lg Lh Li Lj Cm Lk:Value} (Fw:PySem.W.findIn K (.ref C0) "rows_of"=some (some (.ref Bk))) (Fx:K.lookup Bk=some ⟨Lg,Ld,.func (PySem.W.fnOf "rows_of" "House.rows_of" (bK (inClass (top 32) 8)) (bG (inClass (top 32) 8)) (aw (inClass (top 32) 8)) .none Lh Li Lj Le Cm Lk),Lf⟩) (Fy:PySem.W.codeIn K Cm "House.rows_of"=true) (Bl:PySem.W.keepIn K (.ref Bk)=true)
  (Si:PySem.W.isFn K (.ref Bk)=true)
  {Bm:Addr} {Ll Lm:Option Addr} {Ln:Array (Option Value)} {Lo Lp Lq Lr Cn Lu:Value} (Fz:PySem.W.findIn K (.ref C0) "copied"=some (some (.ref Bm))) (FA:K.lookup Bm=some ⟨Lo,Ll,.func (PySem.W.fnOf "copied" "House.copied" (bK (inClass (top 32) 10)) (bG (inClass (top 32) 10)) (aw (inClass (top 32) 10)) .none Lp Lq Lr Lm Cn Lu),Ln⟩) (FC:PySem.W.codeIn K Cn "House.copied"=true) (Bn:PySem.W.keepIn K (.ref Bm)=true)
  (Sj:PySem.W.isFn K (.ref Bm)=true)
  {Sk:Addr} {Lv:FuncData} (Bo:dC K "_law_names" (top 36) Sk Lv)
  {Sl:Addr} {Lw:FuncData} (Bp:dC K "_law_rows" (top 37) Sl Lw)
  {Sm:Addr} {Lx:FuncData} (Bq:dC K "_law_merge" (top 38) Sm Lx)
  {Sn:Addr} {Ly:FuncData} (Br:dC K "_law_clean" (top 39) Sn Ly)
  {So:Addr} {Lz:FuncData} (Bs:dC K "_law_built" (top 40) So Lz)
  {Sq:Addr} {LA:FuncData} (Bt:dC K "_law_texts" (top 41) Sq LA)
  {Sr:Addr} {LB:FuncData} (Bu:dC K "_law_rows_right" (top 42) Sr LB)
  {FD:Addr} {LC Co:Option Addr} {LD:Array (Option Value)} {LF Cp Cq Cr yg Ct:Value} (FE:PySem.W.nsIn K mainGlobals "law"=some (some (.ref FD))) (FF:K.lookup FD=some ⟨LF,LC,.func (PySem.W.fnOf "law" "law" (bK (top 43)) (bG (top 43)) (aw (top 43)) .none Cp Cq Cr Co yg Ct),LD⟩) (FG:PySem.W.codeIn K yg "law"=true) (FH:PySem.W.keepIn K (.ref FD)=true)
  : ∃ fd:FuncData,(∀ (s:Shared) (v:Value),BindsTo s fd ⟨[v],[]⟩ [("_law_script",v)])/\∀ base:Heap,K.In base->base.Ns mainGlobals mg->cU P w K mg base jS 30 fa fd E6 (dU (eZ mg) J5):=by
 have e:=hfa.symm.trans (PySem.W.mg_of X G FE);cases e;have E0:=a0.fn;have b0:=E0.binds (ps:=UC) fun _ _ _ _ _ _ us hl=>match us,hl with | [_,_],_=>rfl
 have E1:=a1.fn;have b1:=E1.binds (ps:=UG) fun _ _ _ _ _ _ us hl=>match us,hl with | [_,_,_],_=>rfl
 have Ss:=Ny.fn;have YN:=Ss.binds (ps:=UK) fun _ _ _ _ _ _ us hl=>match us,hl with | [_],_=>rfl
 have Su:=Nz.fn;have YO:=Su.binds (ps:=UM) fun _ _ _ _ _ _ us hl=>match us,hl with | [_,_],_=>rfl
 have Sv:=NA.fn;have YQ:=Sv.binds (ps:=UO) fun _ _ _ _ _ _ us hl=>match us,hl with | [_],_=>rfl
 have Sw:=NB.fn;have YR:=Sw.binds (ps:=UQ) fun _ _ _ _ _ _ us hl=>match us,hl with | [_],_=>rfl
 have Sx:=NC.fn;have YS:=Sx.binds (ps:=US) fun _ _ _ _ _ _ us hl=>match us,hl with | [_,_],_=>rfl
 have Sy:=ND.fn;have YT:=Sy.binds (ps:=UU) fun _ _ _ _ _ _ us hl=>match us,hl with | [_,_],_=>rfl
 have Sz:=NF.fn;have YU:=Sz.binds (ps:=UX) fun _ _ _ _ _ _ us hl=>match us,hl with | [_],_=>rfl
 have SA:=NG.fn;have YV:=SA.binds (ps:=UZ) fun _ _ _ _ _ _ us hl=>match us,hl with | [_],_=>rfl
 have SD:=NI.fn;have YW:=SD.binds (ps:=Va) fun _ _ _ _ _ _ us hl=>match us,hl with | [_,_],_=>rfl
 have SE:=NJ.fn;have YX:=SE.binds (ps:=Vc) fun _ _ _ _ _ _ us hl=>match us,hl with | [_],_=>rfl
 have LG:=fj (st:=(inClass (top 32) 0)) E7 E8 A9;have LH:=LG.binds (ps:=Jq) fun _ _ _ _ _ _ us hl=>match us,hl with | [_],_=>rfl
 have LJ:=fj (st:=(inClass (top 32) 5)) E_ Fb Ba;have SF:=LJ.binds (ps:=Js) fun _ _ _ _ _ _ us hl=>match us,hl with | [_],_=>rfl
 have LK:=fj (st:=(inClass (top 32) 11)) Fd Fe Bc;have SG:=LK.binds (ps:=Ju) fun _ _ _ _ _ _ us hl=>match us,hl with | [_,_],_=>rfl
 have LP:=fj (st:=(inClass (top 32) 12)) Fg Fh Be;have SH:=LP.binds (ps:=Jw) fun _ _ _ _ _ _ us hl=>match us,hl with | [_,_],_=>rfl
 have LQ:=fj (st:=(inClass (top 32) 13)) Fj Fl Bg;have SI:=LQ.binds (ps:=Jz) fun _ _ _ _ _ _ us hl=>match us,hl with | [_,_],_=>rfl
 have SJ:Ip K "add" "House.add" (inClass (top 32) 1) (.ref NL) ye _:=⟨⟨_,_,_,_,_,_,_,_,_,rfl,Fo,Fp⟩,Bh⟩
 have SK:Binds K (PySem.W.fnOf "add" "House.add" (bK (inClass (top 32) 1)) (bG (inClass (top 32) 1)) (aw (inClass (top 32) 1)) (.ref NL) Cf Cg Ci Ce yf Cj) va [.none]:=fun s us hi hl=>by
  match us,hl with
  | [],h=>simp[va]at h
  | [_],h=>simp[va]at h
  | [_,_],h=>simp[va]at h
  | [_,_,_],_=>exact PySem.W.binds_K hi rfl Fq Fs rfl rfl
  | _::_::_::_::_,h=>simp[va]at h
 have LR:=fj (st:=(inClass (top 32) 7)) Fu Fv Bj;have SN:=LR.binds (ps:=JE) fun _ _ _ _ _ _ us hl=>match us,hl with | [_,_],_=>rfl
 have LS:=fj (st:=(inClass (top 32) 8)) Fx Fy Bl;have SO:=LS.binds (ps:=JG) fun _ _ _ _ _ _ us hl=>match us,hl with | [_,_],_=>rfl
 have LU:=fj (st:=(inClass (top 32) 10)) FA FC Bn;have SQ:=LU.binds (ps:=JI) fun _ _ _ _ _ _ us hl=>match us,hl with | [_],_=>rfl
 have FI:=Bo.fn;have SR:=FI.binds (ps:=JL) fun _ _ _ _ _ _ us hl=>match us,hl with | [_,_],_=>rfl
 have FJ:=Bp.fn;have SS:=FJ.binds (ps:=JO) fun _ _ _ _ _ _ us hl=>match us,hl with | [_,_,_,_],_=>rfl
 have FK:=Bq.fn;have SU:=FK.binds (ps:=JR) fun _ _ _ _ _ _ us hl=>match us,hl with | [_],_=>rfl
 have FL:=Br.fn;have SV:=FL.binds (ps:=JU) fun _ _ _ _ _ _ us hl=>match us,hl with | [_,_],_=>rfl
 have FO:=Bs.fn;have SW:=FO.binds (ps:=JX) fun _ _ _ _ _ _ us hl=>match us,hl with | [_],_=>rfl
 have FP:=Bt.fn;have SX:=FP.binds (ps:=J0) fun _ _ _ _ _ _ us hl=>match us,hl with | [_],_=>rfl
 have FQ:=Bu.fn;have SY:=FQ.binds (ps:=J3) fun _ _ _ _ _ _ us hl=>match us,hl with | [_,_,_],_=>rfl
 have S0:=fj (st:=(top 43)) FF FG FH;refine⟨PySem.W.fnOf "law" "law" (bK (top 43)) (bG (top 43)) (aw (top 43)) .none Cp Cq Cr Co yg Ct,fun s v=>.of_eq rfl,fun base _ _ => ?_⟩
 have ve:=PySem.W.mg_of X G RI;have yh:oB K C0:=⟨RJ,hd0,RL,RM⟩;have V0:bC P w K mg base ({}:bc) 0:=bC.start (wC X G nb);have V1:=V0.lQ (x:="MOST_ELDERS") (d:=.int 5) (v:=.int 5) (PySem.W.mg_of X G z3) ⟨_,rfl⟩ rfl;have V2:=V1.lQ (x:="MOST_KINDS") (d:=.int 12) (v:=.int 12) (PySem.W.mg_of X G z2) ⟨_,rfl⟩ rfl;have V3:=V2.lQ (x:="MOST_LETTERS") (d:=.int 8) (v:=.int 8) (PySem.W.mg_of X G z1) ⟨_,rfl⟩ rfl;have V4:=V3.lQ (x:="LETTERS") (d:=.str "abcdefghijklmnopqrstuvwxyz") (v:=.str "abcdefghijklmnopqrstuvwxyz") (PySem.W.mg_of X G z0) ⟨_,rfl⟩ rfl;have V5:=V4.uZ (f:="elders") (Cs:=["House"]) (plain1 ve yh RQ);have V6:=V5.uZ (f:="lines") (Cs:=["House"]) (plain1 ve yh RS);have Y0:bC P w K mg base QM 0:=V6;have q0:=bo Y0 E0 Xu Xv;have Y1:bC P w K mg base QN 1:=(Y0.mono (Nat.le_succ 0)).uY (x:="_law_cell") (PySem.W.mg_of X G a0.ns) E0.kp b0 (tD q0) (Nat.le_refl _);have q1:=bo Y1 E1 Xx Xy;have Y2:bC P w K mg base UI 2:=(Y1.mono (Nat.le_succ 1)).uY (x:="_law_mix") (PySem.W.mg_of X G a1.ns) E1.kp b1 (tD q1) (Nat.le_refl _);have X0:bC P w K mg base U0 2:=Y2;have r0:=bo X0 Ss Xz XA;have X1:bC P w K mg base U1 3:=X0.cW (PySem.W.mg_of X G Ny.ns) Ss.kp YN r0;have r1:=bo X1 Su XB XC;have X2:bC P w K mg base U2 4:=X1.cW (PySem.W.mg_of X G Nz.ns) Su.kp YO r1;have r2:=bo X2 Sv XD XE;have X3:bC P w K mg base U3 5:=X2.cW (PySem.W.mg_of X G NA.ns) Sv.kp YQ r2;have r3:=bo X3 Sw XF XG;have X4:bC P w K mg base U4 6:=X3.cW (PySem.W.mg_of X G NB.ns) Sw.kp YR r3;have r4:=bo X4 Sx XH XI;have X5:bC P w K mg base U5 7:=X4.cW (PySem.W.mg_of X G NC.ns) Sx.kp YS r4;have r5:=bo X5 Sy XJ XM;have X6:bC P w K mg base U6 8:=X5.cW (PySem.W.mg_of X G ND.ns) Sy.kp YT r5;have r6:=bo X6 Sz XN XO;have X7:bC P w K mg base U7 9:=X6.cW (PySem.W.mg_of X G NF.ns) Sz.kp YU r6;have r7:=bo X7 SA XQ XR;have X8:bC P w K mg base U8 10:=X7.cW (PySem.W.mg_of X G NG.ns) SA.kp YV r7;have r8:=bo X8 SD XS XT;have X9:bC P w K mg base U9 11:=X8.cW (PySem.W.mg_of X G NI.ns) SD.kp YW r8;have r9:=bo X9 SE XU XW;have VB:bC P w K mg base QO 12:=X9.cW (PySem.W.mg_of X G NJ.ns) SE.kp YX r9;have r10:=bo VB LG QP QQ;have YY:bC P w K mg base Ve 13:=VB.fI ve yh ⟨A8,NK,A9⟩ LH r10;have VC:bC P w K mg base QR 14:=YY.Aa ve ⟨RN,A8,NK,RP⟩ LH r10 (by decide)
 have r12:=bo VC LJ QT QU;have VD:bC P w K mg base QS 15:=VC.fI ve yh ⟨E9,i12,Ba⟩ SF r12;have r13:=bo VD LK QW QX;have VE:bC P w K mg base QV 16:=VD.fI ve yh ⟨Fc,Sb,Bc⟩ SG r13;have r14:=bo VE LP QZ Q0;have VF:bC P w K mg base QY 17:=VE.fI ve yh ⟨Ff,Sd,Be⟩ SH r14;have r15:=bo VF LQ Q2 Q3;have VG:bC P w K mg base Q1 18:=VF.fI ve yh ⟨Fi,Se,Bg⟩ SI r15;have r16:=Az VG SJ Q5 Q6;have VH:bC P w K mg base Q4 19:=VG.Hw (Dd:=[.non]) ve yh ⟨Fm,Sg,Bh⟩ SK (.cons (show RelV .non Value.none from rfl) .nil) (fun _ _ _=>.one (by simp only[au])) r16
 have r17:=bo VH LR Q8 Q9;have VI:bC P w K mg base Q7 20:=VH.fI ve yh ⟨Ft,Sh,Bj⟩ SN r17;have r18:=bo VI LS Ra Rb;have VJ:bC P w K mg base Q_ 21:=VI.fI ve yh ⟨Fw,Si,Bl⟩ SO r18;have r19:=bo VJ LU Rf Rg;have VL:bC P w K mg base Rc 22:=VJ.fI ve yh ⟨Fz,Sj,Bn⟩ SQ r19;have r20:=bo VL FI Ri Rj;have VM:bC P w K mg base Rh 23:=VL.cW (PySem.W.mg_of X G Bo.ns) FI.kp SR r20;have r21:=bo VM FJ Rl Rm;have VN:bC P w K mg base Rk 24:=VM.cW (PySem.W.mg_of X G Bp.ns) FJ.kp SS r21;have r22:=bo VN FK Ro Rp;have VO:bC P w K mg base Rn 25:=VN.cW (PySem.W.mg_of X G Bq.ns) FK.kp SU r22;have r23:=bo VO FL Rr Rt;have VP:bC P w K mg base Rq 26:=VO.cW (PySem.W.mg_of X G Br.ns) FL.kp SV r23;have r24:=bo VP FO Rv Rx;have VQ:bC P w K mg base Ru 27:=VP.cW (PySem.W.mg_of X G Bs.ns) FO.kp SW r24;have r25:=bo VQ FP Rz RA;have VR:bC P w K mg base Ry 28:=VQ.cW (PySem.W.mg_of X G Bt.ns) FP.kp SX r25;have r26:=bo VR FQ RC RD;have YZ:bC P w K mg base Vu 29:=VR.cW (PySem.W.mg_of X G Bu.ns) FQ.kp SY r26;have r27:=bo YZ S0 RE RF;exact r27
theorem walk{l:PySem.W.OpenLaw}{q:Program}{loose:List Str}{XP:(Str->Option Value)->Heap->Prop}{YP:World->Heap->Prop}{d:DefRec}{K:Params->PySem.W.Frag}(hn:l.most=some 63)(hdf:d.params.defaults=[])
  (hY:∀ (w:World) (h:Heap),YP w h->(K w.params).In h) (hK:∀ pm,o_ (K pm)=true)
  (F:∀ (w:World) (mg:Str->Option Value) (fa:Addr) (h:Heap),(K w.params).In h->h.Ns mainGlobals mg->mg d.name=some (.ref fa) ->
   ∃ fd:FuncData,(∀ (s:Shared) (u:Value),BindsTo s fd ⟨[u],[]⟩ [("_law_script",u)])/\∀ base:Heap,(K w.params).In base->base.Ns mainGlobals mg->cU l.prog w (K w.params) mg base jS 30 fa fd E6 (dU (eZ mg) J5)) :
  PySem.W.WalkO q loose XP YP l.row.toRowW d [] (fun f vs=>PySem.call f vs):=
 L2.yR (n:=63) (k:=30) (x:="_law_script") (CX:=fun _=>jS) (sp:=fun w=>Hx J5) hn (by decide) hdf ⟨rfl,by decide,by decide⟩ hY (fun w mg fa h a b c=>let ⟨fd,q1,q2⟩:=F w mg fa h a b c;⟨fd,q1,fun base d e=>(q2 base d e).imp fun vs H Q E z=>z (eZ mg)⟩) (fun w H a ns hl _ hS κ=>z_ (Hd (hK w.params) hS) (yd ns hl).choose_spec) fun _ _ _ _ _ z=>z
end u6
def PySem.W.Fast.tw2050786122866063452:PySem.Program:=PySem.Challenge.pw_taglook_k23_lines_are_merged
theorem PySem.W.Fast.te2050786122866063452:PySem.Challenge.pw_taglook_k23_lines_are_merged=PySem.W.Fast.tw2050786122866063452:=rfl
def PySem.W.Fast.tw6899301463489621859:Nat:=0
def PySem.W.Fast.tw10883881667902906051:Nat:=0
def PySem.W.Fast.tw13005466110494063510:Nat:=0
def PySem.W.Fast.tw14870769630469175561:Nat:=0
def PySem.W.Fast.tw13711717812690311648:Nat:=0
def PySem.W.Fast.tw3010301366786987107:Nat:=0
def PySem.W.Fast.tw7426821216366767269:Nat:=0
def PySem.W.Fast.tw3230135722931356419:Nat:=0
def PySem.W.Fast.tw9456535151978364402:Nat:=0
def PySem.W.Fast.tw2771614639128649130:Nat:=0
def PySem.W.Fast.tw15714678692815050955:Nat:=0
def PySem.W.Fast.tw11590984467758398249:Nat:=0
def PySem.W.Fast.tw6503207515866418220:Nat:=0
def PySem.W.Fast.tw8030732534112486321:Nat:=0
def PySem.W.Fast.tw15982340089251310702:Nat:=0
def PySem.W.Fast.tw10117950922636616585:Nat:=0
def PySem.W.Fast.tw3043761979707694707:Nat:=0
def PySem.W.Fast.tw14392308609725946709:Nat:=0
def PySem.W.Fast.tw6775593682947480662:Nat:=0
def PySem.W.Fast.tw7300690669095713092:Nat:=0
def PySem.W.Fast.tw7984605570071282427:Nat:=0
def PySem.W.Fast.tw14617419771647112050:Nat:=0
def PySem.W.Fast.tw13030018540714942551:Nat:=0
def PySem.W.Fast.tw17757249279270181744:Nat:=0
def PySem.W.Fast.tw962609065371501199:Nat:=0
def PySem.W.Fast.tw252262738728747793:Nat:=0
def PySem.W.Fast.tw15535414725870312466:Nat:=0
def PySem.W.Fast.tw13869973035234814630:Nat:=0
open PySem PySem.W PyProof.Rows
set_option maxRecDepth 100000 in
set_option maxHeartbeats 0 in
theorem PySem.Challenge.cw_taglook_k23_lines_are_merged_holds : PySem.Challenge.rw_taglook_k23_lines_are_merged.Holds := by
 w_on;o_law;k_head;(case hw=>w_witness2)
 k_fill
 refine u6.walk (l:=PySem.Challenge.rw_taglook_k23_lines_are_merged) rfl rfl (fun w h Y=>PySem.W.kIn_of Y) ?hK ?F
 case hK=>intro pm;exact(Eq.refl true)
 case F=>
  intro w mg fa h KX G hmg;refine' u6.all_mk KX G hmg ?nb ?z0 ?z1 ?z2 ?z3 ?a0 ?a1 ?RI ?RJ ?hd0 ?RL ?RM ?RN ?RP ?RQ ?RS ?Ny ?Nz ?NA ?NB ?NC ?ND ?NF ?NG ?NI ?NJ ?A8 ?E7 ?E8 ?A9 ?NK ?E9 ?E_ ?Fb ?Ba ?i12 ?Fc ?Fd ?Fe ?Bc ?Sb ?Ff ?Fg ?Fh ?Be ?Sd ?Fi ?Fj ?Fl ?Bg ?Se ?Fm ?Fo ?Fp ?Bh ?Fq ?Fs ?Sg ?Ft ?Fu ?Fv ?Bj ?Sh ?Fw ?Fx ?Fy ?Bl ?Si ?Fz ?FA ?FC ?Bn ?Sj ?Bo ?Bp ?Bq ?Br ?Bs ?Bt ?Bu ?FE ?FF ?FG ?FH
  (case nb=>exact(Eq.refl true))
  (case z0 | z1 | z2 | z3=>k_is)
  (case a0 | a1=>refine' Mir.lB ?a ?l ?c ?k;(case a=>k_is);(case l=>k_is);(case c=>k_is);(case k=>k_is))
  (case RI | RJ | hd0 | RL | RM | RN | RP | RQ | RS=>k_is)
  (case Ny | Nz | NA | NB | NC | ND | NF | NG | NI | NJ=>refine' Mir.lB ?a ?l ?c ?k;(case a=>k_is);(case l=>k_is);(case c=>k_is);(case k=>k_is))
  (case A8 | E7 | E8 | A9 | NK | E9 | E_ | Fb | Ba | i12 | Fc | Fd | Fe | Bc | Sb | Ff | Fg | Fh | Be | Sd | Fi | Fj | Fl | Bg | Se | Fm | Fo | Fp | Bh | Fq=>k_is)
  (case Fs=>exact rfl)
  (case Sg | Ft | Fu | Fv | Bj | Sh | Fw | Fx | Fy | Bl | Si | Fz | FA | FC | Bn | Sj=>k_is)
  (case Bo | Bp | Bq | Br | Bs | Bt | Bu=>refine' Mir.lB ?a ?l ?c ?k;(case a=>k_is);(case l=>k_is);(case c=>k_is);(case k=>k_is))
  (case FE | FF | FG | FH=>k_is)
