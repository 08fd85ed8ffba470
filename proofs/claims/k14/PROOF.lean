import PyProof.Rows.All
import Wide.All
import OpenK.AllK
import Wide.FinOn
import Lean
import PyProof.EqAt
import PyProof.EqKinds
import PyProof.TupleCall
import PyProof.ExcClass3
import PyProof.ExcAttrAll.ValueError
import KE.KIsAll
import PyProof.ExcBaseAll.ValueError
import PyProof.RulesAs
import KE.KTryMore
import PyProof.EnumFor
import PyProof.EnumMake
import PyProof.EnumStmt
import PyProof.Rows.EnumRows
import PyProof.RulesTry
import PyProof.Rows.StrWeight2
import PyProof.AutoListH
import PyProof.ListRange
import PyProof.ListCopy
import PyProof.Rows.FactsT1
import PyProof.Rows.FactsT2
import PyProof.Rows.SetFrom
import PyProof.SetRoads
import PyProof.Draws
import PyProof.Rows.SortStr
import PyProof.Rows.SortShell
import PyProof.Rows.SortWalk
import PyProof.Rows.StrMeet
import PyProof.FitsReplace
import PySem.Challenge.RW_taglook_k14_whole_order_or_ring
set_option Elab.async false
set_option bootstrap.genMatcherCode false
set_option genSizeOfSpec false
set_option linter.all false
set_option maxRecDepth 100000
set_option maxHeartbeats 4000000
noncomputable section
namespace L2
open PySem PySem.Spec PyProof.Rows
abbrev Key:=Sum Int Str
noncomputable def rW:Key->Value->Bool
 | .inl k,v=>Value.isInt k v
 | .inr x,v=>Value.isStrOf x v
noncomputable def LV(w:World):Key->Int
 | .inl k=>hashInt k
 | .inr x=>hashStr w x
theorem bX:∀ {k:Key} {v:Value},rW k v=true->(∃ i t,k=Sum.inl i/\v=Value.int i t)\/(∃ x t,k=Sum.inr x/\v=Value.str x t)
 | .inl i,v,h=>by
  obtain⟨t,e⟩:=Value.isInt_shape (k:=i) (v:=v) h;exact .inl ⟨i,t,rfl,e⟩
 | .inr x,v,h=>by
  obtain⟨t,e⟩:=Value.isStrOf_shape (x:=x) (v:=v) h;exact .inr ⟨x,t,rfl,e⟩
theorem tZ(x:Str)(t:Tok):rW (.inr x) (.str x t)=true:=by simp[rW,Value.isStrOf]
theorem B7(a b:Int):decide ((Sum.inl a:Key)=Sum.inl b)=(a == b):=by
 by_cases e:a=b
 ·subst e;simp
 ·have h:¬ (Sum.inl a:Key)=Sum.inl b:=fun q=>e (Sum.inl.inj q)
  rw[decide_eq_false h];exact(beq_eq_false_iff_ne.mpr e).symm
theorem B8(a b:Str):decide ((Sum.inr a:Key)=Sum.inr b)=decide (a=b):=by
 by_cases e:a=b
 ·subst e;simp
 ·have h:¬ (Sum.inr a:Key)=Sum.inr b:=fun q=>e (Sum.inr.inj q)
  rw[decide_eq_false h,decide_eq_false e]
theorem B9(a:Int)(b:Str):decide ((Sum.inl a:Key)=Sum.inr b)=false:=decide_eq_false (fun q=>nomatch q)
theorem B_(a:Str)(b:Int):decide ((Sum.inr a:Key)=Sum.inl b)=false:=decide_eq_false (fun q=>nomatch q)
def cK(prog:Program)(w:World):PySem.KeyKind prog w Key where
 is:=rW
 hash:=LV w
 inj:=fun v a b ha hb=>by
  rcases bX ha with ⟨i,t,rfl,rfl⟩ | ⟨x,t,rfl,rfl⟩
  ·rcases bX hb with ⟨j,u,rfl,e⟩ | ⟨y,u,rfl,e⟩
   ·injection e with e1 _;rw[e1]
   ·exact nomatch e
  ·rcases bX hb with ⟨j,u,rfl,e⟩ | ⟨y,u,rfl,e⟩
   ·exact nomatch e
   ·injection e with e1 _;rw[e1]
 byValue:=fun k v h=>by
  rcases bX h with ⟨i,t,rfl,rfl⟩ | ⟨x,t,rfl,rfl⟩<;>rfl
 pyHash:=fun hv h=>by
  rcases bX hv with ⟨i,t,rfl,rfl⟩ | ⟨x,t,rfl,rfl⟩
  ·exact wpAny_pyHash_int h
  ·exact wpAny_pyHash_str h
 eqBool:=fun hu hv h=>by
  rcases bX hu with ⟨i,t,rfl,rfl⟩ | ⟨x,t,rfl,rfl⟩
  ·rcases bX hv with ⟨j,u,rfl,rfl⟩ | ⟨y,u,rfl,rfl⟩
   ·rw[B7]at h;exact wpAny_eqBool_int h
   ·rw[B9]at h;exact SeqAt.EqAt.int_str i t y u _ _ _ _ h
  ·rcases bX hv with ⟨j,u,rfl,rfl⟩ | ⟨y,u,rfl,rfl⟩
   ·rw[B_]at h;exact SeqAt.EqAt.str_int x t j u _ _ _ _ h
   ·rw[B8]at h;exact wpAny_eqBool_str h
 «strs» := fun k x t v h=>by
  rcases bX h with ⟨i,u,rfl,e⟩ | ⟨y,u,rfl,e⟩
  ·exact nomatch e
  ·injection e with e1 _
   subst e1;cases v<;>rfl
theorem jr(prog:Program)(w:World)(x:Str)(t:Tok):(cK prog w).is (.inr x) (.str x t)=true:=tZ x t
inductive V where
 | non | bl (b:Bool) | int (i:Int) | str (x:Str) | E4 (b:Array UInt8) | flt (b:UInt64) | ref (a:Addr) | ty (n:String)
 deriving DecidableEq
def RelV:V->Value->Prop
 | .non,u=>u=Value.none
 | .bl b,u=>u=Value.bool b
 | .int i,u=>∃ t,u=Value.int i t
 | .str x,u=>∃ t,u=Value.str x t
 | .E4 b,u=>∃ t,u=Value.bytes b t
 | .flt b,u=>∃ t,u=Value.float b t
 | .ref a,u=>u=Value.ref a
 | .ty n,u=>u=Value.type n
abbrev Vals:List V->List Value->Prop:=Paired RelV
theorem Vals.length{xs:List V}{us:List Value}(r:Vals xs us):xs.length=us.length:=Paired.length r
theorem Vals.get:∀ {xs:List V} {us:List Value} {i:Nat} {x:V},Vals xs us->xs[i]?=some x->∃ u,us[i]?=some u/\RelV x u
 | _,_,_,_,.nil,e=>by simp at e
 | _,_,0,_,.cons r _,e=>by simp at e;subst e;exact⟨_,rfl,r⟩
 | _,_,i + 1,x,.cons _ t,e=>by
  obtain⟨u,h1,h2⟩:=Vals.get (i:=i) (x:=x) t (by simpa using e)
  exact⟨u,by simpa using h1,h2⟩
theorem Vals.append:∀ {xs ys:List V} {us ws:List Value},Vals xs us->Vals ys ws->Vals (xs++ys) (us++ws)
 | _,_,_,_,.nil,s=>s
 | _,_,_,_,.cons r t,s=>.cons r (Vals.append t s)
theorem Vals.take:∀ {xs:List V} {us:List Value} (n:Nat),Vals xs us->Vals (xs.take n) (us.take n)
 | _,_,0,_=>.nil
 | _,_,_ + 1,.nil=>.nil
 | _,_,n + 1,.cons r t=>.cons r (Vals.take n t)
theorem Vals.drop:∀ {xs:List V} {us:List Value} (n:Nat),Vals xs us->Vals (xs.drop n) (us.drop n)
 | _,_,0,r=>r
 | _,_,_ + 1,.nil=>.nil
 | _,_,n + 1,.cons _ t=>Vals.drop n t
def mY:Option V->Option Value->Prop
 | some v,some u=>RelV v u
 | none,none=>True
 | _,_=>False
def KV{κ:Type}:List (κ×V)->List (κ×Value)->Prop:=Paired fun (p:κ×V) (q:κ×Value)=>p.1=q.1/\RelV p.2 q.2
noncomputable def kV:Key->V
 | .inl i=>.int i
 | .inr x=>.str x
inductive HO where
 | lst (xs:List V)
 | tup (xs:List V)
 | dK (kvs:List (Key×V)) | dT (kvs:List (List Key×V))
 | set (S:Int->Bool) (n:Nat)
 | ins (C dx:Addr) (fs:List (Str×V))
 | own (x:Addr)
 | xd (fs:List (Str×V))
 | met (f x:Addr)
 | LW (lo hi:Int)
 | jG (o:Obj) (u:HO)
 | Cb (ps:Array Value)
 | ext (φ:Heap->Prop)
abbrev Hp:=Addr->Option HO
noncomputable def upd(H:Hp)(a:Addr)(o:HO):Hp:=fun b=>if b=a then some o else H b
theorem bE{H:Hp}{a:Addr}{o:HO}:upd H a o a=some o:=by unfold upd;rw[if_pos rfl]
theorem aI{H:Hp}{a b:Addr}{o:HO}(h:b≠a):upd H a o b=H b:=by unfold upd;rw[if_neg h]
theorem br{H:Hp}{a b:Addr}{o:HO}(h:H a=some o)(h':H b=none):a≠b:=by
 intro e;subst e;rw[h]at h';cases h'
section
variable(P:Program)(w:World)
def cL(H:Hp)(h:Heap)(a:Addr):HO->Prop
 | .lst xs=>xs.length<=sizeLine/\∃ (its:List Value) (n:Nat),Vals xs its/\h.get? a=some { cls:=.type "list",data:=.seq its.toArray n }
 | .tup xs=>xs.length<=sizeLine/\∃ its:List Value,Vals xs its/\IsTup h a its.toArray
 | .dK kvs=>kvs.length<=sizeLine/\(a == sysModules)=false/\∃ vs,KV kvs vs/\h.DictOf (cK P w) a vs
 | .dT kvs=>kvs.length<=sizeLine/\(a == sysModules)=false/\∃ xs:List (List Key×Addr×Value),
   Paired (fun (p:List Key×V) (q:List Key×Addr×Value)=>p.1=q.1/\H q.2.1=some (.tup (p.1.map kV))/\RelV p.2 q.2.2) kvs xs /\
   ∃ o es ep,h.get? a=some o/\o.ExactDict/\o.data=.dict es ep/\es.toList=xs.map (entryOfKey (tupleKind (cK P w)))/\(xs.map (·.1)).Nodup
 | .set S n=>h.SetOf (intKind P w) a S n
 | .ins C dx fs=>H dx=some (.own a)/\fs.length<=1000/\dx≠a/\h.get? a=some (PySem.W.instObj C dx) /\
   ∃ mA,h.Ns1 dx mA/\(∀ f,mY (fs.lookup f) (mA f))/\PySem.Within mA (fs.map (·.1))
 | .own _=>∃ o,h.get? a=some o
 | .xd fs=>∃ mA,h.Ns1 a mA/\∀ f,mY (fs.lookup f) (mA f)
 | .LW lo hi=>∃ t u v,h.get? a=some { cls:=.type "range",data:=.fields #[.int lo t,.int hi u,.int 1 v] }
 | .jG o u=>h.get? a=some o/\cL H h a u
 | .Cb ps=>h.get? a=some { cls:=.none,data:=.fields ps }
 | .met f x=>h.get? a=some (PySem.W.methodObj (.ref f) (.ref x))
 | .ext φ=>φ h/\(∃ o,h.get? a=some o)/\∀ h1 h2:Heap,φ h1->(∀ o,h1.get? a=some o->h2.get? a=some o)->φ h2
def jt(H:Hp)(h:Heap):Prop:=∀ a o,H a=some o->cL P w H h a o
end
section
variable{P:Program}{w:World}{H H':Hp}{h h':Heap}{a:Addr}{o:HO}
theorem cL.lt(x:cL P w H h a o):a < h.objs.size:=by
 cases o with
 | lst xs=>obtain⟨_,_,_,_,e⟩:=x;exact Heap.lt_size e
 | tup xs=>obtain⟨_,_,_,p⟩:=x;exact p.lt
 | dK kvs=>obtain⟨_,_,_,_,o,_,_,e,_⟩:=x;exact Heap.lt_size e
 | dT kvs=>obtain⟨_,_,_,_,o,_,_,e,_⟩:=x;exact Heap.lt_size e
 | set S n=>obtain⟨o,_,_,_,e,_⟩:=x;exact Heap.lt_size e
 | ins C dx fs=>obtain⟨_,_,_,e,_⟩:=x;exact Heap.lt_size e
 | own y=>obtain⟨_,e⟩:=x;exact Heap.lt_size e
 | xd fs=>obtain⟨_,⟨_,_,_,e,_⟩,_⟩:=x;exact Heap.lt_size e
 | LW lo hi=>obtain⟨_,_,_,e⟩:=x;exact Heap.lt_size e
 | jG ob u=>obtain⟨e,_⟩:=x;exact Heap.lt_size e
 | Cb ps=>exact Heap.lt_size (show h.get? a=some _ from x)
 | met f y=>exact Heap.lt_size (show h.get? a=some _ from x)
 | ext φ=>obtain⟨_,⟨_,e⟩,_⟩:=x;exact Heap.lt_size e
theorem Paired.Fu{α β:Type}{F G:α->β->Prop}:∀ {l₁:List α} {l₂:List β},Paired F l₁ l₂->(∀ a b,F a b->G a b)->Paired G l₁ l₂
 | _,_,.nil,_=>.nil
 | _,_,.cons r t,f=>.cons (f _ _ r) (Paired.Fu t f)
theorem cL.stay(x:cL P w H h a o)(k:∀ b u,(b=a\/H b=some (.own a))->h.get? b=some u->h'.get? b=some u)
  (ho:∀ b,H b=some (.own a)->H' b=some (.own a)) (ht:∀ b xs,H b=some (.tup xs)->H' b=some (.tup xs)):cL P w H' h' a o:=by
 induction o with
 | lst xs=>obtain⟨z,its,n,r,e⟩:=x;exact⟨z,its,n,r,k _ _ (.inl rfl) e⟩
 | tup xs=>obtain⟨z,its,r,ob,e,c⟩:=x;exact⟨z,its,r,ob,k _ _ (.inl rfl) e,c⟩
 | dK kvs=>obtain⟨z,y,vs,r,ob,es,ep,e,c⟩:=x;exact⟨z,y,vs,r,ob,es,ep,k _ _ (.inl rfl) e,c⟩
 | dT kvs=>
  obtain⟨z,y,xs,r,ob,es,ep,e,c⟩:=x;exact⟨z,y,xs,Paired.Fu r fun p q z=>⟨z.1,ht _ _ z.2.1,z.2.2⟩,ob,es,ep,k _ _ (.inl rfl) e,c⟩
 | set S n=>obtain⟨ob,es,ep,t,e,c⟩:=x;exact⟨ob,es,ep,t,k _ _ (.inl rfl) e,c⟩
 | ins C dx fs=>
  obtain⟨d,z,ne,e,mA,⟨od,es,ep,e2,c⟩,r⟩:=x;exact⟨ho _ d,z,ne,k _ _ (.inl rfl) e,mA,⟨od,es,ep,k _ _ (.inr d) e2,c⟩,r⟩
 | own y=>obtain⟨ob,e⟩:=x;exact⟨ob,k _ _ (.inl rfl) e⟩
 | xd fs=>obtain⟨mA,⟨od,es,ep,e,c⟩,r⟩:=x;exact⟨mA,⟨od,es,ep,k _ _ (.inl rfl) e,c⟩,r⟩
 | LW lo hi=>obtain⟨t,u,v,e⟩:=x;exact⟨t,u,v,k _ _ (.inl rfl) e⟩
 | jG ob u ih=>obtain⟨e,q⟩:=x;exact⟨k _ _ (.inl rfl) e,ih q⟩
 | Cb ps=>
  have e:h.get? a=some { cls:=.none,data:=.fields ps }:=x
  show h'.get? a=some { cls:=.none,data:=.fields ps }
  exact k a _ (.inl rfl) e
 | met f y=>
  have e:h.get? a=some (PySem.W.methodObj (.ref f) (.ref y)):=x
  show h'.get? a=some (PySem.W.methodObj (.ref f) (.ref y))
  exact k a _ (.inl rfl) e
 | ext φ=>obtain⟨p,⟨o,e⟩,st⟩:=x;exact⟨st _ _ p fun o q=>k _ _ (.inl rfl) q,⟨o,k _ _ (.inl rfl) e⟩,st⟩
theorem jt.lt(x:jt P w H h)(e:H a=some o):a < h.objs.size:=(x a o e).lt
theorem jt.fresh(x:jt P w H h)(e:h.objs.size<=a):H a=none:=by
 cases q:H a with
 | none=>rfl
 | some u=>exact absurd (Nat.lt_of_lt_of_le (x.lt q) e) (Nat.lt_irrefl _)
theorem jt.kept(x:jt P w H h)(k:∀ b u,h.get? b=some u->h'.get? b=some u):jt P w H h':=fun a o e=>
 (x a o e).stay (fun b u _ q=>k b u q) (fun _ q=>q) fun _ _ q=>q
theorem jt.laid(x:jt P w H h)(k:∀ b u,h.get? b=some u->h'.get? b=some u)(hp:h.objs.size<=a)(new:cL P w (upd H a o) h' a o):jt P w (upd H a o) h':=fun b u e=>by
 have hn:=x.fresh hp
 by_cases hb:b=a
 ·subst hb;rw[bE]at e;cases e;exact new
 ·rw[aI hb]at e
  exact(x b u e).stay (fun c v _ q=>k c v q) (fun c q=>by rw[aI (br q hn)];exact q) fun c xs q=>by rw[aI (br q hn)];exact q
end
def Rd(H:Hp)(a:Addr)(u:HO):Prop:=H a=some u\/∃ o,H a=some (.jG o u)
theorem Rd.ok{P:Program}{w:World}{H:Hp}{h:Heap}{a:Addr}{u:HO}(r:Rd H a u)(x:jt P w H h):cL P w H h a u:=by
 rcases r with r | ⟨o,r⟩
 ·exact x a u r
 ·obtain⟨_,q⟩:=x a _ r
  exact q
def JJ:Option HO->Prop
 | some (.lst _)=>True
 | some (.dK _)=>True
 | some (.dT _)=>True
 | some (.set _ _)=>True
 | some (.ins _ _ _)=>True
 | some (.ext _)=>True
 | _=>False
section
variable{P:Program}{w:World}{H:Hp}{h h':Heap}{x e:Addr}{o':HO}
theorem jt.write(ok:jt P w H h)(mu:JJ (H x))(he:e=x\/H e=some (.own x))(k:∀ b u,b≠e->h.get? b=some u->h'.get? b=some u)(heo:∃ u,h'.get? e=some u)
  (new:cL P w (upd H x o') h' x o'):jt P w (upd H x o') h':=fun b u q=>by
 have Fv:∀ c y,H c=some (.own y)->c≠x:=fun c y r z=>by subst z;rw[r]at mu;exact mu
 have LX:∀ c xs,H c=some (.tup xs)->c≠x:=fun c xs r z=>by subst z;rw[r]at mu;exact mu
 by_cases hb:b=x
 ·subst hb;rw[bE]at q;cases q;exact new
 ·rw[aI hb]at q
  by_cases hbe:b=e
  ·have q':H b=some (.own x):=by
    rcases he with z | z
    ·exact absurd (hbe.trans z) hb
    ·rw[hbe];exact z
   rw[q]at q';cases q'
   obtain⟨v,hv⟩:=heo;exact⟨v,by rw[hbe];exact hv⟩
  ·refine(ok b u q).stay (fun c v hc r=>k c v ?_ r) (fun c r=>by rw[aI (Fv c b r)];exact r) fun c xs r=>by rw[aI (LX c xs r)];exact r
   rcases hc with rfl | hc
   ·exact hbe
   ·rintro rfl
    rcases he with z | z
    ·exact Fv c b hc z
    ·rw[hc]at z;cases z;exact hb rfl
end
structure Un(fs ex:List Addr)(H H':Hp)(h h':Heap):Prop where
 keep:∀ b o,h.get? b=some o->H b=none->b∉fs->b∉ex->h'.get? b=some o
 slot:∀ b o,h.get? b=some o->H b=none->b∈fs->b∉ex->∃ sl,h'.get? b=some { o with slots:=sl }
 free:∀ b o,h.get? b=some o->H b=none->b∉ex->H' b=none
 there:∀ b o,h.get? b=some o->b∉ex->∃ o',h'.get? b=some o'
 tups:∀ b xs,H b=some (.tup xs)->H' b=some (.tup xs)
 iq:∀ b o u,H b=some (.jG o u)->H' b=some (.jG o u)
 jH:∀ b ps,H b=some (.Cb ps)->∃ more,H' b=some (.Cb (ps++more))
section
variable{fs fs' ex ex':List Addr}{H H1 H2:Hp}{h h1 h2 h':Heap}{a x e:Addr}{o:HO}
theorem Un.any(u:Un fs ex H H1 h h1){b:Addr}{ob:Obj}(q:h.get? b=some ob)(n:H b=none)(hx:b∉ex):∃ sl,h1.get? b=some { ob with slots:=sl }:=by
 by_cases hb:b∈fs
 ·exact u.slot b ob q n hb hx
 ·exact⟨ob.slots,u.keep b ob q n hb hx⟩
theorem Un.kept(k:∀ b u,h.get? b=some u->h'.get? b=some u):Un fs ex H H h h':=
 ⟨fun b ob q _ _ _=>k b ob q,fun b ob q _ _ _=>⟨ob.slots,k b ob q⟩,fun _ _ _ n _=>n,fun b ob q _=>⟨ob,k b ob q⟩,fun _ _ q=>q,fun _ _ _ q=>q,fun _ ps q=>⟨#[],by rw[q];simp⟩⟩
theorem Un.refl:Un fs ex H H h h:=Un.kept fun _ _ q=>q
theorem Un.laid(k:∀ b u,h.get? b=some u->h'.get? b=some u)(hp:h.objs.size<=a)(hn:H a=none):Un fs ex H (upd H a o) h h' where
 keep:=fun b u q _ _ _=>k b u q
 slot:=fun b u q _ _ _=>⟨u.slots,k b u q⟩
 free:=fun b u q n _=>by rw[aI (Nat.ne_of_lt (Nat.lt_of_lt_of_le (Heap.lt_size q) hp))];exact n
 there:=fun b u q _=>⟨u,k b u q⟩
 tups:=fun b xs q=>by rw[aI (br q hn)];exact q
 iq:=fun b u xs q=>by rw[aI (br q hn)];exact q
 jH:=fun b ps q=>⟨#[],by rw[aI (br q hn),q];simp⟩
theorem Un.write(mu:JJ (H x))(he:e=x\/H e=some (.own x))(k:∀ b u,b≠e->h.get? b=some u->h'.get? b=some u)(heo:∃ u,h'.get? e=some u):Un fs ex H (upd H x o) h h':=by
 have hx:∀ b,H b=none->b≠x:=fun b n z=>by subst z;rw[n]at mu;exact mu
 have hb:∀ b,H b=none->b≠e:=fun b n z=>by
  subst z;rcases he with r | r
  ·exact hx b n r
  ·rw[n]at r;cases r
 have hm:∀ b u,H b=some u->¬ JJ (some u)->b≠x:=fun b u q nm z=>by subst z;rw[q]at mu;exact nm mu
 refine⟨fun b u q n _ _=>k b u (hb b n) q,fun b u q n _ _=>⟨u.slots,k b u (hb b n) q⟩,fun b u q n _=>by rw[aI (hx b n)];exact n,fun b u q _ => ?_,
  fun b xs q=>by rw[aI (hm b _ q fun z=>z)];exact q,fun b u xs q=>by rw[aI (hm b _ q fun z=>z)];exact q,fun b ps q=>⟨#[],by rw[aI (hm b _ q fun z=>z),q];simp⟩⟩
 by_cases hbe:b=e
 ·subst hbe;exact heo
 ·exact⟨u,k b u hbe q⟩
theorem Un.mono(u:Un fs ex H H1 h h1)(hs:∀ b∈fs,b∈fs')(hx:∀ b∈ex,b∈ex'):Un fs' ex' H H1 h h1:=
 ⟨fun b ob q n hb he=>u.keep b ob q n (fun z=>hb (hs b z)) fun z=>he (hx b z),fun _ _ q n _ he=>u.any q n fun z=>he (hx _ z),fun b ob q n he=>u.free b ob q n fun z=>he (hx b z),fun b ob q he=>u.there b ob q fun z=>he (hx b z),u.tups,u.iq,u.jH⟩
end
noncomputable def JK(h:Heap)(H:Hp):List Addr:=(List.range h.objs.size).filter fun a=>(H a).isSome
def mZ(h:Heap)(H:Hp):Heap:=PySem.W.hideAll h (JK h H)
theorem t8(h:Heap)(H:Hp):(mZ h H).objs.size=h.objs.size:=PySem.W.hideAll_size _ _
theorem vg{h:Heap}{H:Hp}{b:Addr}{o:Obj}(e:h.get? b=some o)(n:H b=none):(mZ h H).get? b=some o:=
 PySem.W.hideAll_get _ e fun hm=>by
  have q:(H b).isSome=true:=(List.mem_filter.mp hm).2;rw[n]at q;simp at q
theorem yF{h:Heap}{H:Hp}{b:Addr}{o:Obj}(e:(mZ h H).get? b=some o):h.get? b=some o/\H b=none:=by
 have e':h.get? b=some o:=PySem.W.of_hideAll (JK h H) e;refine⟨e',?_⟩;cases q:H b with
 | none=>rfl
 | some x=>
  have hm:b∈JK h H:=List.mem_filter.mpr ⟨List.mem_range.mpr (Heap.lt_size e'),by simp[q]⟩
  have z:(mZ h H).get? b=none:=PySem.W.hideAll_none (JK h H) hm;rw[z]at e;cases e
noncomputable def yG(g h:Heap)(L:Addr):List (Addr×Obj):=(List.range h.objs.size).filterMap fun a=>if a=L\/(g.get? a).isSome=true then none else (h.get? a).map fun o=>(a,o)
def rest(g h:Heap)(L d:Addr):List (Addr×Obj):=(yG g h L).filter fun p=>decide (p.1≠d)
structure Mod(K:PySem.W.Frag)(mg:Str->Option Value)(base:Heap):Prop where
 E5:K.In base
 glob:base.Ns mainGlobals mg
 blt:∃ mb,base.Ns builtinsNs mb/\∀ x:Str,x≠"__name__"->mb x=bootBuiltins x
 nolimit:base.NoLimit
structure Cx where
 prog:Program
 w:World
 K:PySem.W.Frag
 mg:Str->Option Value
 base:Heap
 A:Around
 N:List Str
 s₀:Shared
 H₀:Hp
 env:Env
 outer:List Env
 stack:List Env
 ex:List Addr
 fn:Str->Bool
 calm:Bool
 pn:List (Addr×Obj)
 xe:Value->Shared->Prop
noncomputable def frs(l:List Env):List Addr:=l.filterMap (·.frame)
abbrev Cx.fs(X:Cx):List Addr:=frs X.outer
def yw(sc:Scope)(x:Str):Prop:=sc.names.lookup x=some .local\/sc.names.lookup x=some .cell\/sc.names.lookup x=some .free
def Loc(sc:Scope)(x:Str):Prop:=sc.names.lookup x=some .local\/sc.names.lookup x=some .cell
def Look(env:Env)(h:Heap)(m:Str->Option Value)(x:Str)(u:Value):Prop:=
 (env.kindOf x=some .local/\m x=some u)\/((env.kindOf x=some .cell\/env.kindOf x=some .free)/\∃ c,env.cells.lookup x=some c/\h.IsCell c (some u))
structure Cx.Ok(X:Cx):Prop where
 mod:Mod X.K X.mg X.base
 kind:X.env.scope.kind=.function
 glob:X.env.globals=mainGlobals
 blt:X.env.builtins=builtinsNs
 above:X.s₀.heap.objs.size<=X.env.locals
 inj:∀ x y c,X.env.cells.lookup x=some c->X.env.cells.lookup y=some c->x=y
 has:∀ x,(X.env.kindOf x=some .cell\/X.env.kindOf x=some .free)->∃ c,X.env.cells.lookup x=some c
 cab:∀ x c,X.fn x=true->X.env.cells.lookup x=some c->X.s₀.heap.objs.size<=c
 hd:X.calm=true->X.A.handled=none
 frames:X.A.frames=some X.stack
 Bo:X.stack=X.outer\/(X.stack=X.env::X.outer/\X.env.frame=some X.env.locals)
 Cc:∀ b∈X.ex,b≠X.env.locals/\∀ x c,X.env.cells.lookup x=some c->c≠b
 bs:∀ b o,X.base.get? b=some o->X.s₀.heap.get? b=some o/\X.H₀ b=none
 t9:X.base.objs.size<=X.s₀.heap.objs.size
 oO:∀ b o,X.base.get? b=some o->b∉X.ex
 oP:∀ b∈X.ex,b∉X.fs
 gh:X.s₀.heap.FunFrames X.base X.outer
 vh:∀ b∈X.fs,X.H₀ b=none
structure Inv(X:Cx)(pins:List (Addr×Obj))(σ:List (Option V))(H:Hp)(s:Shared):Prop where
 ok:X.Ok
 os:s.os=X.s₀.os
 bare:AllBare s.gens
 base:Un X.fs X.ex X.H₀ H X.s₀.heap s.heap
 loc:∃ m,s.heap.Ns X.env.locals m/\∀ (i:Nat) (x:Str) (v:V),X.N[i]?=some x->σ[i]?=some (some v)->yw X.env.scope x->∃ u,RelV v u/\Look X.env s.heap m x u
 cell:∀ x c,X.env.cells.lookup x=some c->∃ v,s.heap.IsCell c v
 free:H X.env.locals=none
 dn:∀ x c,X.env.cells.lookup x=some c->(H c=none\/∃ o u,H c=some (.jG o u))/\(X.fn x=true->H c=none)
 pin:∀ p∈X.pn++pins,s.heap.get? p.1=some p.2/\H p.1=none/\p.1≠X.env.locals/\p.1∉X.fs/\∀ v,p.2.data≠.cell v
 hok:jt X.prog X.w H s.heap
 len:σ.length=X.N.length
section
variable{X:Cx}{pins:List (Addr×Obj)}{σ:List (Option V)}{H H':Hp}{s:Shared}{h':Heap}
theorem Cx.Ok.LY(ok:X.Ok){b:Addr}{o:Obj}(e:X.base.get? b=some o):b∉X.fs:=fun hb=>by
 have:=(ok.gh.mem hb).1;rw[e]at this;cases this
theorem Inv.bs(I:Inv X pins σ H s):∀ b o,X.base.get? b=some o->s.heap.get? b=some o/\H b=none:=fun b o e=>
 ⟨I.base.keep b o (I.ok.bs b o e).1 (I.ok.bs b o e).2 (I.ok.LY e) (I.ok.oO b o e),I.base.free b o (I.ok.bs b o e).1 (I.ok.bs b o e).2 (I.ok.oO b o e)⟩
theorem Inv.bk(I:Inv X pins σ H s):∀ b o,X.base.get? b=some o->s.heap.get? b=some o:=fun b o e=>(I.bs b o e).1
theorem Inv.mod(I:Inv X pins σ H s):Mod X.K X.mg X.base:=I.ok.mod
theorem Inv.gi(I:Inv X pins σ H s):X.K.In s.heap:=I.ok.mod.E5.keeps I.bk
theorem Inv.lt(I:Inv X pins σ H s):X.env.locals < s.heap.objs.size:=let ⟨_,hn,_⟩:=I.loc;hn.lt
theorem Inv.sz(I:Inv X pins σ H s):X.s₀.heap.objs.size<=s.heap.objs.size:=Nat.le_trans I.ok.above (Nat.le_of_lt I.lt)
theorem Inv.LZ(I:Inv X pins σ H s){a:Addr}(h:s.heap.objs.size<=a):a∉X.fs:=fun hb=>by
 obtain⟨_,o,ho,_⟩:=I.ok.gh.mem hb;exact absurd (Nat.lt_of_lt_of_le (Heap.lt_size ho) (Nat.le_trans I.sz h)) (Nat.lt_irrefl _)
theorem Inv.yx(I:Inv X pins σ H s):∀ x c,X.env.cells.lookup x=some c->c≠X.env.locals:=fun x c e z=>by
 obtain⟨v,o,ho,hd⟩:=I.cell x c e;obtain⟨m,⟨o',es,ep,ho',hd',_⟩,_⟩:=I.loc;rw[z,ho']at ho;cases ho;rw[hd']at hd;cases hd
theorem Inv.gh(I:Inv X pins σ H s):s.heap.FunFrames X.base X.outer:=by
 have all:∀ (l:List Env),(∀ b∈frs l,b∈X.fs)->X.s₀.heap.FunFrames X.base l->s.heap.FunFrames X.base l:=by
  intro l
  induction l with
  | nil=>intro _ _;trivial
  | cons env r ih=>
   intro hs hl;obtain⟨hk,⟨L,o,hf,hn,ho,hd⟩,hr⟩:=hl;have hL:L∈X.fs:=hs L (by unfold frs;rw[List.filterMap_cons,hf];exact List.mem_cons_self)
   obtain⟨sl,e⟩:=I.base.slot L o ho (I.ok.vh L hL) hL fun z=>I.ok.oP L z hL
   exact⟨hk,⟨L,_,hf,hn,e,hd⟩,ih (fun b hb=>hs b (by unfold frs;rw[List.filterMap_cons,hf];exact List.mem_cons_of_mem _ hb)) hr⟩
 exact all X.outer (fun _ hb=>hb) I.ok.gh
theorem Inv.stack(I:Inv X pins σ H s):s.heap.FunFrames X.base X.stack:=by
 rcases I.ok.Bo with e | ⟨e,hf⟩
 ·rw[e];exact I.gh
 ·rw[e]
  obtain⟨m,hn,_⟩:=I.loc;refine .cons (by rw[I.ok.kind];decide) hf hn ?_ I.gh
  exact Heap.get?_none_of_le (Nat.le_trans I.ok.t9 I.ok.above)
theorem Inv.m5(I:Inv X pins σ H s):∀ b∈frs X.stack,b∈X.env.locals::X.fs:=fun b hb=>by
 rcases I.ok.Bo with e | ⟨e,hf⟩
 ·rw[e]at hb;exact List.mem_cons_of_mem _ hb
 ·rw[e]at hb
  unfold frs at hb;rw[List.filterMap_cons,hf]at hb;exact hb
theorem Inv.jR(I:Inv X pins σ H s):∀ b∈frs X.stack,H b=none:=fun b hb=>by
 rcases List.mem_cons.mp (I.m5 b hb) with e | hb
 ·rw[e];exact I.free
 ·obtain⟨_,o,ho,_⟩:=I.ok.gh.mem hb
  exact I.base.free b o ho (I.ok.vh b hb) fun z=>I.ok.oP b z hb
theorem Inv.step{g':Array GenState}{t':Nat}{d':Drawn}{ch:List Addr}(I:Inv X pins σ H s)
  (hch:∀ b∈ch,(b∈X.ex\/X.s₀.heap.objs.size<=b)/\b≠X.env.locals/\(∀ x c,X.env.cells.lookup x=some c->c≠b)/\∀ p∈X.pn++pins,p.1≠b)
  (keep:∀ b o,b≠X.env.locals->b∉X.fs->b∉ch->s.heap.get? b=some o->H b=none->h'.get? b=some o)
  (slot:∀ b o,b≠X.env.locals->b∈X.fs->b∉ch->s.heap.get? b=some o->H b=none->∃ sl,h'.get? b=some { o with slots:=sl }) (free:∀ b o,b∉ch->s.heap.get? b=some o->H b=none->H' b=none)
  (there:∀ b o,b∉ch->s.heap.get? b=some o->∃ o',h'.get? b=some o')
  (tups:∀ b xs,H b=some (.tup xs)->H' b=some (.tup xs)) (iq:∀ b o u,H b=some (.jG o u)->H' b=some (.jG o u)) (jH:∀ b ps,H b=some (.Cb ps)->∃ more,H' b=some (.Cb (ps++more)))
  (ns:∀ m,s.heap.Ns X.env.locals m->h'.Ns X.env.locals m) (hok:jt X.prog X.w H' h') (hg:AllBare g') :
  Inv X pins σ H' { s with heap:=h',gens:=g',drawn:=d',toks:=t' }:=by
 have E6:∀ b o,X.s₀.heap.get? b=some o->b≠X.env.locals:=fun b o e=>Nat.ne_of_lt (Nat.lt_of_lt_of_le (Heap.lt_size e) I.ok.above)
 have E7:∀ b o,X.s₀.heap.get? b=some o->b∉X.ex->b∉ch:=fun b o e hx hb=>by
  rcases(hch b hb).1 with z | z
  ·exact hx z
  ·exact absurd (Nat.lt_of_lt_of_le (Heap.lt_size e) z) (Nat.lt_irrefl _)
 have cellK:∀ x c,X.env.cells.lookup x=some c->∀ v,s.heap.IsCell c v->h'.IsCell c v:=fun x c e v ⟨o,ho,hd⟩=>by
  have Bp:c∉ch:=fun z=>(hch c z).2.2.1 x c e rfl
  rcases(I.dn x c e).1 with hn | ⟨oz,uz,hz⟩
  ·by_cases hc:c∈X.fs
   ·obtain⟨sl,q⟩:=slot c o (I.yx x c e) hc Bp ho hn
    exact⟨_,q,hd⟩
   ·exact⟨o,keep c o (I.yx x c e) hc Bp ho hn,hd⟩
  ·have e1:s.heap.get? c=some oz:=(I.hok c _ hz).1
   have e2:h'.get? c=some oz:=(hok c _ (iq c oz uz hz)).1;rw[ho]at e1;cases e1
   exact⟨o,e2,hd⟩
 refine⟨I.ok,I.os,hg,⟨fun b o e n hb hx => ?_,fun b o e n hb hx => ?_,fun b o e n hx => ?_,fun b o e hx => ?_,fun b xs e=>tups b xs (I.base.tups b xs e),fun b o xs e=>iq b o xs (I.base.iq b o xs e),fun b ps e => ?_⟩,?_,fun x c e => ?_,?_,fun x c e => ?_,fun p hp => ?_,hok,I.len⟩
 ·exact keep b o (E6 b o e) hb (E7 b o e hx) (I.base.keep b o e n hb hx) (I.base.free b o e n hx)
 ·obtain⟨sl,e1⟩:=I.base.slot b o e n hb hx
  obtain⟨sl',e2⟩:=slot b _ (E6 b o e) hb (E7 b o e hx) e1 (I.base.free b o e n hx);exact⟨sl',e2⟩
 ·obtain⟨o',e1⟩:=I.base.there b o e hx
  exact free b o' (E7 b o e hx) e1 (I.base.free b o e n hx)
 ·obtain⟨o',e1⟩:=I.base.there b o e hx
  exact there b o' (E7 b o e hx) e1
 ·obtain⟨m1,e1⟩:=I.base.jH b ps e
  obtain⟨m2,e2⟩:=jH b _ e1;exact⟨m1++m2,by rw[e2,Array.append_assoc]⟩
 ·obtain⟨m,hn,hl⟩:=I.loc
  refine⟨m,ns m hn,fun i x v e1 e2 e3 => ?_⟩
  obtain⟨u,r,l⟩:=hl i x v e1 e2 e3;refine⟨u,r,?_⟩;rcases l with l | ⟨k,c,e,z⟩
  ·exact .inl l
  ·exact .inr ⟨k,c,e,cellK x c e _ z⟩
 ·obtain⟨v,z⟩:=I.cell x c e
  exact⟨v,cellK x c e v z⟩
 ·obtain⟨m,⟨o,_,_,ho,_⟩,_⟩:=I.loc
  exact free _ o (fun z=>(hch _ z).2.1 rfl) ho I.free
 ·obtain⟨v,o,ho,hd⟩:=I.cell x c e
  have Bp:c∉ch:=fun z=>(hch c z).2.2.1 x c e rfl
  refine⟨?_,fun hf=>free c o Bp ho ((I.dn x c e).2 hf)⟩
  rcases(I.dn x c e).1 with hn | ⟨oz,uz,hz⟩
  ·exact .inl (free c o Bp ho hn)
  ·exact .inr ⟨oz,uz,iq c oz uz hz⟩
 ·obtain⟨e,n,ne,nf,d⟩:=I.pin p hp
  have Bp:p.1∉ch:=fun z=>(hch p.1 z).2.2.2 p hp rfl
  exact⟨keep p.1 p.2 ne nf Bp e n,free p.1 p.2 Bp e n,ne,nf,d⟩
theorem Inv.un{t':Nat}(I:Inv X pins σ H s)(u:Un X.fs [] H H' s.heap h')(hok:jt X.prog X.w H' h'):Inv X pins σ H' { s with heap:=h',toks:=t' }:=by
 obtain⟨m,⟨o,es,ep,ho,r⟩,_⟩:=id I.loc;obtain⟨sl,hL⟩:=u.any ho I.free (by simp)
 exact I.step (g':=s.gens) (d':=s.drawn) (ch:=[]) (fun _ z=>nomatch z) (fun b o _ hb _ e n=>u.keep b o e n hb (by simp)) (fun b o _ hb _ e n=>u.slot b o e n hb (by simp)) (fun b o _ e n=>u.free b o e n (by simp)) (fun b o _ e=>u.there b o e (by simp)) u.tups u.iq u.jH (fun m' hm=>by
  obtain⟨o',es',ep',ho',r'⟩:=hm;rw[ho]at ho';cases ho'
  exact⟨_,es',ep',hL,r'⟩) hok I.bare
theorem Inv.call{g':Array GenState}{t':Nat}{d':Drawn}{ch:List Addr}(I:Inv X pins σ H s)(u:Un (frs X.stack) ch H H' s.heap h')(hok:jt X.prog X.w H' h')(hg:AllBare g')
  (hch:∀ b∈ch,(b∈X.ex\/X.s₀.heap.objs.size<=b)/\b≠X.env.locals/\(∀ x c,X.env.cells.lookup x=some c->c≠b)/\∀ p∈X.pn++pins,p.1≠b) :
  Inv X pins σ H' { s with heap:=h',gens:=g',drawn:=d',toks:=t' }:=by
 obtain⟨m,⟨o,es,ep,ho,r⟩,_⟩:=id I.loc;obtain⟨sl,hL⟩:=u.any ho I.free fun z=>(hch _ z).2.1 rfl
 exact I.step (ch:=ch) hch (fun b o hL hb hc e n=>u.keep b o e n (fun z=>(List.mem_cons.mp (I.m5 b z)).elim hL hb) hc) (fun b o _ _ hc e n=>u.any e n hc) (fun b o hc e n=>u.free b o e n hc) (fun b o hc e=>u.there b o e hc) u.tups u.iq u.jH (fun m' hm=>by
  obtain⟨o',es',ep',ho',r'⟩:=hm;rw[ho]at ho';cases ho'
  exact⟨_,es',ep',hL,r'⟩) hok hg
theorem Inv.turned{t':Nat}{it:Addr}(I:Inv X pins σ H s)(k:∀ b o,b≠it->s.heap.get? b=some o->h'.get? b=some o)(hn:H it=none)(hL:it≠X.env.locals)
  (h1:it∈X.ex\/X.s₀.heap.objs.size<=it) (h2:∀ x c,X.env.cells.lookup x=some c->c≠it) (h3:∀ p∈X.pn++pins,p.1≠it):Inv X pins σ H { s with heap:=h',toks:=t' }:=by
 have P_:∀ b u,H b=some u->b≠it:=fun b u e z=>by rw[z,hn]at e;cases e
 refine I.step (g':=s.gens) (d':=s.drawn) (ch:=[it]) (fun b hb => ?_) (fun b o _ _ hc e _=>k b o (fun z=>hc (by simp[z])) e) (fun b o _ _ hc e _=>⟨o.slots,k b o (fun z=>hc (by simp[z])) e⟩) (fun _ _ _ _ n=>n)
  (fun b o hc e=>⟨o,k b o (fun z=>hc (by simp[z])) e⟩) (fun _ _ e=>e) (fun _ _ _ e=>e) (fun b ps e=>⟨#[],by rw[e];simp⟩) (fun m hm => ?_) (fun b u e => ?_) I.bare
 ·have e:b=it:=by simpa using hb
  subst e;exact⟨h1,hL,h2,h3⟩
 ·obtain⟨o,es,ep,ho,r⟩:=hm
  exact⟨o,es,ep,k _ o (Ne.symm hL) ho,r⟩
 ·refine(I.hok b u e).stay (fun c v hc q=>k c v ?_ q) (fun _ q=>q) fun _ _ q=>q
  rcases hc with z | z
  ·rw[z];exact P_ b u e
  ·exact P_ c _ z
theorem Inv.tok(I:Inv X pins σ H s)(t:Nat):Inv X pins σ H { s with toks:=t }:=I.un (h':=s.heap) (t':=t) Un.refl I.hok
theorem Inv.kept{t':Nat}(I:Inv X pins σ H s)(k:∀ b u,s.heap.get? b=some u->h'.get? b=some u):Inv X pins σ H { s with heap:=h',toks:=t' }:=I.un (Un.kept k) (I.hok.kept k)
theorem Inv.laid{a:Addr}{o:HO}{t':Nat}(I:Inv X pins σ H s)(k:∀ b u,s.heap.get? b=some u->h'.get? b=some u)(hp:s.heap.objs.size<=a)(new:cL X.prog X.w (upd H a o) h' a o) :
  Inv X pins σ (upd H a o) { s with heap:=h',toks:=t' }:=I.un (Un.laid k hp (I.hok.fresh hp)) (I.hok.laid k hp new)
theorem Inv.write{x e:Addr}{o:HO}{t':Nat}(I:Inv X pins σ H s)(mu:JJ (H x))(he:e=x\/H e=some (.own x))(k:∀ b u,b≠e->s.heap.get? b=some u->h'.get? b=some u)(heo:∃ u,h'.get? e=some u)
  (new:cL X.prog X.w (upd H x o) h' x o):Inv X pins σ (upd H x o) { s with heap:=h',toks:=t' }:=I.un (Un.write mu he k heo) (I.hok.write mu he k heo new)
theorem Inv.weak{σ':List (Option V)}(I:Inv X pins σ H s)(hl:σ'.length=σ.length)(w:∀ (i:Nat) v,σ'[i]?=some (some v)->σ[i]?=some (some v)):Inv X pins σ' H s:=
 ⟨I.ok,I.os,I.bare,I.base,let ⟨m,hn,hl'⟩:=I.loc;⟨m,hn,fun i x v e1 e2 e3=>hl' i x v e1 (w i v e2) e3⟩,I.cell,I.free,I.dn,I.pin,I.hok,hl.trans I.len⟩
theorem Inv.rX{Bq:List (Addr×Obj)}(I:Inv X pins σ H s)(h:∀ p∈Bq,s.heap.get? p.1=some p.2/\H p.1=none/\p.1≠X.env.locals/\p.1∉X.fs/\∀ v,p.2.data≠.cell v):Inv X Bq σ H s:=
 ⟨I.ok,I.os,I.bare,I.base,I.loc,I.cell,I.free,I.dn,fun p hp=>(List.mem_append.mp hp).elim (fun z=>I.pin p (List.mem_append_left _ z)) (h p),I.hok,I.len⟩
theorem oQ{N:List Str}(hN:N.Nodup){i j:Nat}{x:Str}(a:N[i]?=some x)(b:N[j]?=some x):i=j:=by
 obtain⟨h1,e1⟩:=List.getElem?_eq_some_iff.mp a;obtain⟨h2,e2⟩:=List.getElem?_eq_some_iff.mp b;exact(List.getElem_inj hN).mp (e1.trans e2.symm)
theorem l_{M:Model}{A:Around}{E:Value->Shared->Prop}{i:Nat}{x:Str}{v:V}{u:Value}{Q:Unit->Shared->Prop}(I:Inv X pins σ H s)(hN:X.N.Nodup)(hi:X.N[i]?=some x)(hx:Loc X.env.scope x)(r:RelV v u)
  (h:∀ s',Inv X pins (σ.set i (some v)) H s'->(∃ a,Heap.SameBut a s.heap s'.heap/\(a=X.env.locals\/X.env.cells.lookup x=some a))->Q () s') (hf:X.fn x=true\/X.env.scope.names.lookup x=some .local:=by first | exact .inl rfl | exact .inr rfl | assumption):wpAny M A (storeName X.env x u) Q E s:=by
 obtain⟨m,hn,hl⟩:=id I.loc;have hcls:(X.env.scope.kind == .class || (X.env.scope.kind == .module && X.env.locals != X.env.globals))=false:=by rw[I.ok.kind];rfl
 have Fw:i < σ.length:=by rw[I.len];exact(List.getElem?_eq_some_iff.mp hi).1
 have yx:=I.yx
 have tracked:∀ {a:Addr} {h':Heap},(∃ o,s.heap.get? a=some o/\H a=none)->Heap.SameBut a s.heap h'->jt X.prog X.w H h':=fun {a h'} ha hs b ob e=>by
  obtain⟨_,_,hfree⟩:=ha;refine(I.hok b ob e).stay (fun c w' hc q=>(hs.2 c ?_).trans q) (fun _ q=>q) fun _ _ q=>q
  rintro rfl;rcases hc with rfl | hc
  ·rw[hfree]at e;cases e
  ·rw[hfree]at hc;cases hc
 rcases hx with hk | hk
 ·refine wpAny_storeName_local hk hn (fun h' hn' hs => ?_) hcls
  obtain⟨oL,_,_,hoL,_⟩:=id hn;refine h _ ⟨I.ok,I.os,I.bare,⟨fun b o e n hb hx => ?_,fun b o e n hb hx => ?_,I.base.free,fun b o e hx => ?_,I.base.tups,I.base.iq,I.base.jH⟩,⟨_,hn',fun j y v' e1 e2 e3 => ?_⟩,fun y c e => ?_,I.free,I.dn,fun p hp => ?_,tracked ⟨oL,hoL,I.free⟩ hs,by simpa using I.len⟩ ⟨_,hs,.inl rfl⟩
  ·exact(hs.2 b (Nat.ne_of_lt (Nat.lt_of_lt_of_le (Heap.lt_size e) I.ok.above))).trans (I.base.keep b o e n hb hx)
  ·obtain⟨sl,e1⟩:=I.base.slot b o e n hb hx
   exact⟨sl,(hs.2 b (Nat.ne_of_lt (Nat.lt_of_lt_of_le (Heap.lt_size e) I.ok.above))).trans e1⟩
  ·obtain⟨o',e1⟩:=I.base.there b o e hx
   exact⟨o',(hs.2 b (Nat.ne_of_lt (Nat.lt_of_lt_of_le (Heap.lt_size e) I.ok.above))).trans e1⟩
  ·by_cases hj:j=i
   ·subst hj
    rw[hi]at e1;cases e1
    rw[List.getElem?_set_self Fw]at e2;cases e2;exact⟨u,r,.inl ⟨hk,by simp⟩⟩
   ·rw[List.getElem?_set_ne (Ne.symm hj)]at e2
    obtain⟨u',r',q⟩:=hl j y v' e1 e2 e3;refine⟨u',r',?_⟩;rcases q with ⟨k,e⟩ | ⟨k,c,e,z⟩
    ·refine .inl ⟨k,?_⟩
     have:y≠x:=fun e=>hj (oQ hN e1 (e▸hi))
     simp[this,e]
    ·exact .inr ⟨k,c,e,z.sameBut hs (yx y c e)⟩
  ·obtain⟨w',z⟩:=I.cell y c e
   exact⟨w',z.sameBut hs (yx y c e)⟩
  ·obtain⟨e,n,ne,nf,d⟩:=I.pin p hp
   exact⟨(hs.2 p.1 ne).trans e,n,ne,nf,d⟩
 ·have hfn:X.fn x=true:=by
   rcases hf with z | z
   ·exact z
   ·rw[z]at hk;cases hk
  obtain⟨c,hc⟩:=I.ok.has x (.inl hk);obtain⟨w',z⟩:=I.cell x c hc;refine wpAny_storeName_cell I.ok.kind hk hc z (fun h' hc' hs => ?_)
  obtain⟨oc,hoc,L4⟩:=id z;refine h { s with heap:=h' } ⟨I.ok,I.os,I.bare,⟨fun b o e n hb hx => ?_,fun b o e n hb hx => ?_,I.base.free,fun b o e hx => ?_,I.base.tups,I.base.iq,I.base.jH⟩,⟨m,hn.sameBut hs (Ne.symm (yx x c hc)),fun j y v' e1 e2 e3 => ?_⟩,fun y c' e => ?_,I.free,I.dn,fun p hp => ?_,tracked ⟨oc,hoc,(I.dn x c hc).2 hfn⟩ hs,by simpa using I.len⟩ ⟨c,hs,.inr hc⟩
  ·exact(hs.2 b (Nat.ne_of_lt (Nat.lt_of_lt_of_le (Heap.lt_size e) (I.ok.cab x c hfn hc)))).trans (I.base.keep b o e n hb hx)
  ·obtain⟨sl,e1⟩:=I.base.slot b o e n hb hx
   exact⟨sl,(hs.2 b (Nat.ne_of_lt (Nat.lt_of_lt_of_le (Heap.lt_size e) (I.ok.cab x c hfn hc)))).trans e1⟩
  ·obtain⟨o',e1⟩:=I.base.there b o e hx
   exact⟨o',(hs.2 b (Nat.ne_of_lt (Nat.lt_of_lt_of_le (Heap.lt_size e) (I.ok.cab x c hfn hc)))).trans e1⟩
  ·by_cases hj:j=i
   ·subst hj
    rw[hi]at e1;cases e1
    rw[List.getElem?_set_self Fw]at e2;cases e2;exact⟨u,r,.inr ⟨.inl hk,c,hc,hc'⟩⟩
   ·rw[List.getElem?_set_ne (Ne.symm hj)]at e2
    obtain⟨u',r',q⟩:=hl j y v' e1 e2 e3;refine⟨u',r',?_⟩;rcases q with q | ⟨k,c',e,z'⟩
    ·exact .inl q
    ·refine .inr ⟨k,c',e,z'.sameBut hs ?_⟩
     rintro rfl;exact hj (oQ hN e1 (I.ok.inj _ _ _ e hc▸hi))
  ·by_cases hcc:c'=c
   ·subst hcc;exact⟨_,hc'⟩
   ·obtain⟨w2,z2⟩:=I.cell y c' e
    exact⟨w2,z2.sameBut hs hcc⟩
  ·obtain⟨e,n,ne,nf,d⟩:=I.pin p hp
   refine⟨(hs.2 p.1 ?_).trans e,n,ne,nf,d⟩;intro q;rw[q,hoc]at e;have q':oc=p.2:=Option.some.inj e;exact d w' (by rw[← q'];exact L4)
theorem kj{M:Model}{A:Around}{E:Value->Shared->Prop}{i:Nat}{x:Str}{v:V}{u:Value}{Q:Unit->Shared->Prop}(I:Inv X pins σ H s)(hN:X.N.Nodup)(hi:X.N[i]?=some x)(hx:Loc X.env.scope x)(r:RelV v u)
  (h:∀ s',Inv X pins (σ.set i (some v)) H s'->Q () s') (hf:X.fn x=true\/X.env.scope.names.lookup x=some .local:=by first | exact .inl rfl | exact .inr rfl | assumption):wpAny M A (storeName X.env x u) Q E s:=
 l_ I hN hi hx r (fun s' I' _=>h s' I') hf
theorem Inv.call'{s':Shared}{ch:List Addr}(I:Inv X pins σ H s)(ho:s'.os=s.os)(u:Un (frs X.stack) ch H H' s.heap s'.heap)(hok:jt X.prog X.w H' s'.heap)(hg:AllBare s'.gens)
  (hch:∀ b∈ch,(b∈X.ex\/X.s₀.heap.objs.size<=b)/\b≠X.env.locals/\(∀ x c,X.env.cells.lookup x=some c->c≠b)/\∀ p∈X.pn++pins,p.1≠b):Inv X pins σ H' s':=by
 obtain⟨h',g',d',t',o'⟩:=s';have e:o'=s.os:=ho;subst e;exact I.call (g':=g') (t':=t') (d':=d') u hok hg hch
end
abbrev XK:=Value->Option Addr->Hp->Prop
abbrev St:=List (Option V)
abbrev VK:=V->Hp->Prop
abbrev TE:=St->Hp->VK->Prop
abbrev TT:=St->Hp->(Bool->Hp->Prop)->Prop
abbrev TA:=St->Hp->(List V->Hp->Prop)->Prop
structure Ends where
 nx:St->Hp->Prop
 rt:VK
 bk:St->Hp->Prop:=fun _ _=>False
 ct:St->Hp->Prop:=fun _ _=>False
abbrev TS:=Ends->St->Hp->Prop
def EP(X:Cx)(pins:List (Addr×Obj))(σ:St)(Q:VK)(u:Value)(s':Shared):Prop:=∃ v H',Inv X pins σ H' s'/\RelV v u/\Q v H'
def TP(X:Cx)(pins:List (Addr×Obj))(σ:St)(Q:Bool->Hp->Prop)(b:Bool)(s':Shared):Prop:=∃ H',Inv X pins σ H' s'/\Q b H'
def AP(X:Cx)(pins:List (Addr×Obj))(σ:St)(Q:List V->Hp->Prop)(us:List Value)(s':Shared):Prop:=∃ vs H',Inv X pins σ H' s'/\Vals vs us/\Q vs H'
def SP(X:Cx)(pins:List (Addr×Obj))(D:Ends)(f:Flow)(s':Shared):Prop:=
 match f with
 | .next=>∃ σ' H',Inv X pins σ' H' s'/\D.nx σ' H'
 | .brk=>∃ σ' H',Inv X pins σ' H' s'/\D.bk σ' H'
 | .cont=>∃ σ' H',Inv X pins σ' H' s'/\D.ct σ' H'
 | .ret u=>∃ v σ' H',Inv X pins σ' H' s'/\RelV v u/\D.rt v H'
def PE(X:Cx)(e:Expr)(t:TE):Prop:=
 ∀ (pins:List (Addr×Obj)) (s:Shared) (σ:St) (H:Hp) (Q:VK),Inv X pins σ H s->t σ H Q->wpAny (model X.prog X.w) X.A (eval e X.env) (EP X pins σ Q) X.xe s
def PT(X:Cx)(e:Expr)(t:TT):Prop:=
 ∀ (pins:List (Addr×Obj)) (s:Shared) (σ:St) (H:Hp) (Q:Bool->Hp->Prop),Inv X pins σ H s->t σ H Q->wpAny (model X.prog X.w) X.A (isTrue e X.env (eval e X.env)) (TP X pins σ Q) X.xe s
def PW(X:Cx)(e:Expr)(t:TT):Prop:=
 ∀ (whole:Sem Value) (pins:List (Addr×Obj)) (s:Shared) (σ:St) (H:Hp) (Q:Bool->Hp->Prop),Inv X pins σ H s->t σ H Q->wpAny (model X.prog X.w) X.A (isTrue e X.env whole) (TP X pins σ Q) X.xe s
theorem PW.pt{X:Cx}{e:Expr}{t:TT}(h:PW X e t):PT X e t:=h _
def PA(X:Cx)(es:List Expr)(t:TA):Prop:=
 ∀ (pos:Pos) (pins:List (Addr×Obj)) (s:Shared) (σ:St) (H:Hp) (Q:List V->Hp->Prop),Inv X pins σ H s->t σ H Q->wpAny (model X.prog X.w) X.A (spliced (backTo pos (starEach es X.env))) (AP X pins σ Q) X.xe s
def PS(X:Cx)(st:Stmt)(t:TS):Prop:=
 ∀ (pins:List (Addr×Obj)) (s:Shared) (σ:St) (H:Hp) (D:Ends),Inv X pins σ H s->t D σ H->wpAny (model X.prog X.w) X.A (exec st X.env) (SP X pins D) X.xe s
def iE(X:Cx)(st:List Stmt)(t:TS):Prop:=
 ∀ (pins:List (Addr×Obj)) (s:Shared) (σ:St) (H:Hp) (D:Ends),Inv X pins σ H s->t D σ H->wpAny (model X.prog X.w) X.A (execs st X.env) (SP X pins D) X.xe s
theorem cz{α:Type}{t:Sem α}{Q Q':α->Shared->Prop}{M:Model}{A:Around}{E:Value->Shared->Prop}{s:Shared}(h:wpAny M A t Q E s)(hQ:∀ a s,Q a s->Q' a s):wpAny M A t Q' E s:=wpAny_mono h hQ fun _ _ x=>x
section
variable{X:Cx}
noncomputable def L5(i:Nat):TE:=fun σ H Q=>∃ v,σ[i]?=some (some v)/\Q v H
noncomputable def tC(v:V):TE:=fun _ H Q=>Q v H
theorem km{i:Nat}{x:Str}{pos:Pos}(hN:X.N[i]?=some x)(hv:yw X.env.scope x)(hd:(x == ("__debug__":Str))=false:=by decide)(hcd:(x == ("__classdict__":Str))=false:=by decide):PE X (.Name x pos) (L5 i):=by
 intro pins s σ H Q I h;obtain⟨v,e,h⟩:=h;obtain⟨m,hn,hl⟩:=I.loc;obtain⟨u,r,l⟩:=hl i x v hN e hv;have fin:EP X pins σ Q u s:=⟨v,H,I,r,h⟩;rcases l with ⟨hk,hm⟩ | ⟨hk,c,hc,hcell⟩
 ·exact wpAny_Name (wpAny_loadName_local I.ok.kind hk hn hm fin) hd
 ·rcases hk with hk | hk
  ·exact wpAny_Name (wpAny_loadName_cell I.ok.kind hk hc hcell fin) hd
  ·exact wpAny_Name (wpAny_loadName_free I.ok.kind hk hc hcell fin hcd) hd
theorem Cd{i j pos}:PE X (.Constant (.int i) j pos) (tC (.int i)):=fun _ _ _ H _ I h=>wpAny_Constant_int ⟨.int i,H,I.tok _,⟨_,rfl⟩,h⟩
theorem Br{b j pos}:PE X (.Constant (.bool b) j pos) (tC (.bl b)):=fun _ _ _ H _ I h=>Constant_bool ⟨.bl b,H,I,rfl,h⟩
theorem Ce{j pos}:PE X (.Constant .none j pos) (tC .non):=fun _ _ _ H _ I h=>Constant_none ⟨.non,H,I,rfl,h⟩
theorem vi{x j pos}:PE X (.Constant (.str x) j pos) (tC (.str x)):=fun _ _ _ H _ I h=>Calls.Constant_str ⟨.str x,H,I.tok _,⟨_,rfl⟩,h⟩
def Gl(X:Cx)(x:Str):Prop:=X.env.kindOf x=some .globalImplicit
theorem gT{E:Value->Shared->Prop}{pins:List (Addr×Obj)}{s:Shared}{σ:St}{H:Hp}{x:Str}{u:Value}{pos:Pos}{Q:Value->Shared->Prop}(I:Inv X pins σ H s)(hg:Gl X x)(hm:X.mg x=some u)(h:Q u s)
  (hd:(x == ("__debug__":Str))=false:=by decide):wpAny (model X.prog X.w) X.A (eval (.Name x pos) X.env) Q E s:=
 Calls.Name_function_global I.ok.kind hg (Calls.loadGlobal_global (by rw[I.ok.glob];exact I.mod.glob.keeps I.bk) hm h) hd
theorem fL{E:Value->Shared->Prop}{pins:List (Addr×Obj)}{s:Shared}{σ:St}{H:Hp}{x:Str}{u:Value}{pos:Pos}{Q:Value->Shared->Prop}(I:Inv X pins σ H s)(hg:Gl X x)(hm:X.mg x=none)(hv:bootBuiltins x=some u)(h:Q u s)
  (hn:x≠"__name__":=by decide) (hd:(x == ("__debug__":Str))=false:=by decide):wpAny (model X.prog X.w) X.A (eval (.Name x pos) X.env) Q E s:=by
 obtain⟨mb,h1,h2⟩:=I.mod.blt;exact Calls.Name_function_global I.ok.kind hg (Calls.loadGlobal_builtin (by rw[I.ok.glob];exact I.mod.glob.keeps I.bk) hm (by rw[I.ok.blt];exact h1.keeps I.bk) ((h2 x hn).trans hv) h) hd
theorem yH{x:Str}{v:V}{u:Value}{pos:Pos}(hg:Gl X x)(hm:X.mg x=some u)(r:RelV v u)(hd:(x == ("__debug__":Str))=false:=by decide):PE X (.Name x pos) (tC v):=
 fun _ _ _ H _ I h=>gT I hg hm ⟨v,H,I,r,h⟩ hd
theorem yJ{x:Str}{v:V}{u:Value}{pos:Pos}(hg:Gl X x)(hm:X.mg x=none)(hv:bootBuiltins x=some u)(r:RelV v u)(hn:x≠"__name__":=by decide)(hd:(x == ("__debug__":Str))=false:=by decide):PE X (.Name x pos) (tC v):=
 fun _ _ _ H _ I h=>fL I hg hm hv ⟨v,H,I,r,h⟩ hn hd
variable{a b:Expr}{ta tb:TE}{pos:Pos}
variable{tA JL:TT}{rest:List Expr}
noncomputable def L6(t u:TT):TT:=fun σ H Q=>t σ H fun c H1=>if c=true then u σ H1 Q else Q false H1
noncomputable def RX(t u:TT):TT:=fun σ H Q=>t σ H fun c H1=>if c=true then Q true H1 else u σ H1 Q
noncomputable def L7(t:TT):TT:=fun σ H Q=>t σ H fun c H1=>Q (!c) H1
theorem yK(ha:PT X a tA):PW X (.BoolOp .And [a] pos) tA:=by
 intro wh pins s σ H Q I h;refine isTrue_and (cz (ha pins s σ H Q I h) fun c s1 e => ?_)
 cases c with
 | true=>exact isTrue_and_nil e
 | false=>exact e
theorem Cf(ha:PT X a tA):PW X (.BoolOp .Or [a] pos) tA:=by
 intro wh pins s σ H Q I h;refine isTrue_or (cz (ha pins s σ H Q I h) fun c s1 e => ?_)
 cases c with
 | false=>exact isTrue_or_nil e
 | true=>exact e
theorem Cg(ha:PT X a tA)(hb:PW X (.BoolOp .And (b::rest) pos) JL):PW X (.BoolOp .And (a::b::rest) pos) (L6 tA JL):=by
 intro wh pins s σ H Q I h;refine isTrue_and (cz (ha pins s σ H _ I h) fun c s1 ⟨H1,I1,q1⟩ => ?_)
 cases c with
 | true=>exact hb wh pins s1 σ H1 Q I1 q1
 | false=>exact⟨H1,I1,q1⟩
theorem Fx(ha:PT X a tA)(hb:PW X (.BoolOp .Or (b::rest) pos) JL):PW X (.BoolOp .Or (a::b::rest) pos) (RX tA JL):=by
 intro wh pins s σ H Q I h;refine isTrue_or (cz (ha pins s σ H _ I h) fun c s1 ⟨H1,I1,q1⟩ => ?_)
 cases c with
 | true=>exact⟨H1,I1,q1⟩
 | false=>exact hb wh pins s1 σ H1 Q I1 q1
theorem Ci(ha:PT X a tA):PT X (.UnaryOp .Not a pos) (L7 tA):=by
 intro pins s σ H Q I h;exact isTrue_not (ha pins s σ H (fun c H1=>Q (!c) H1) I h)
theorem Cj{op}{t:TE}(h:PE X a t):PE X (.BoolOp op [a] pos) t:=fun pins s σ H Q I hw=>BoolOp_one (h pins s σ H Q I hw)
noncomputable def E8(t:TT)(ta tb:TE):TE:=fun σ H Q=>t σ H fun c H1=>if c=true then ta σ H1 Q else tb σ H1 Q
theorem vj{c:Expr}(hc:PT X c tA)(ha:PE X a ta)(hb:PE X b tb):PE X (.IfExp c a b pos) (E8 tA ta tb):=by
 intro pins s σ H Q I h;refine wpAny_IfExp (cz (hc pins s σ H _ I h) fun d s1 ⟨H1,I1,q1⟩ => ?_)
 cases d with
 | true=>exact ha pins s1 σ H1 Q I1 q1
 | false=>exact hb pins s1 σ H1 Q I1 q1
end
def ju(K:PySem.W.Frag)(H:Hp)(a:Addr)(xs:List V):Prop:=
 Rd H a (.lst xs) \/
  ∃ (o:Obj) (its:Array Value) (n:Nat),K.lookup a=some o/\o.cls=.type "list"/\o.dict=none/\o.data=.seq its n/\its.size<=sizeLine/\Vals xs its.toList
def f7(K:PySem.W.Frag)(H:Hp)(a:Addr)(xs:List V):Prop:=
 Rd H a (.tup xs) \/
  ∃ (o:Obj) (its:Array Value) (n:Nat),K.lookup a=some o/\o.cls=.type "tuple"/\o.data=.seq its n/\its.size<=sizeLine/\Vals xs its.toList
noncomputable def L8:Value->Option V
 | .none=>some .non
 | .bool b=>some (.bl b)
 | .int i _=>some (.int i)
 | .str x _=>some (.str x)
 | .bytes b _=>some (.E4 b)
 | .float b _=>some (.flt b)
 | .ref a=>some (.ref a)
 | .type n=>some (.ty n)
 | _=>none
theorem RelV.abs{x:V}{u:Value}(r:RelV x u):L8 u=some x:=by
 cases x with
 | non=>cases r;rfl
 | bl _=>cases r;rfl
 | int _=>obtain⟨t,rfl⟩:=r;rfl
 | str _=>obtain⟨t,rfl⟩:=r;rfl
 | E4 _=>obtain⟨t,rfl⟩:=r;rfl
 | flt _=>obtain⟨t,rfl⟩:=r;rfl
 | ref _=>cases r;rfl
 | ty _=>cases r;rfl
theorem RelV.inj{x y:V}{u:Value}(r:RelV x u)(q:RelV y u):x=y:=Option.some.inj (r.abs.symm.trans q.abs)
theorem Vals.inj:∀ {xs ys:List V} {us:List Value},Vals xs us->Vals ys us->xs=ys
 | _,_,_,.nil,.nil=>rfl
 | _,_,_,.cons r t,.cons r' t'=>by rw[r.inj r',Vals.inj t t']
section
variable{X:Cx}{pins:List (Addr×Obj)}{σ:St}{H:Hp}{s:Shared}{a:Addr}{xs ys:List V}
theorem f7.of{K:PySem.W.Frag}(h:H a=some (.tup xs)):f7 K H a xs:=.inl (.inl h)
theorem Inv.list(I:Inv X pins σ H s)(h:ju X.K H a xs):∃ its:List Value,Vals xs its/\PlainL s.heap a its.toArray/\xs.length<=sizeLine:=by
 rcases h with h | ⟨o,its,n,hk,hc,hd,hs,hz,r⟩
 ·obtain⟨z,its,n,r,e⟩:=h.ok I.hok
  exact⟨its,r,⟨_,n,e,rfl,rfl,rfl⟩,z⟩
 ·refine⟨its.toList,r,⟨o,n,I.gi a o hk,hc,hd,by simpa using hs⟩,?_⟩
  have e:=r.length;simp only[Array.length_toList]at e;omega
theorem Inv.tuple(I:Inv X pins σ H s)(h:f7 X.K H a xs):∃ its:List Value,Vals xs its/\IsTup s.heap a its.toArray/\xs.length<=sizeLine:=by
 rcases h with h | ⟨o,its,n,hk,hc,hs,hz,r⟩
 ·obtain⟨z,its,r,p⟩:=h.ok I.hok
  exact⟨its,r,p,z⟩
 ·refine⟨its.toList,r,⟨o,I.gi a o hk,hc,n,by simpa using hs⟩,?_⟩
  have e:=r.length;simp only[Array.length_toList]at e;omega
theorem Inv.oR(I:Inv X pins σ H s)(h:ju X.K H a xs)(h':ju X.K H a ys):xs=ys:=by
 obtain⟨its,r,⟨o,n,e,_,_,d⟩,_⟩:=I.list h;obtain⟨its',r',⟨o',n',e',_,_,d'⟩,_⟩:=I.list h';rw[e]at e';cases e'
 rw[d]at d';injection d' with d1 _;have:its=its':=by simpa using congrArg Array.toList d1
 subst this;exact r.inj r'
theorem Inv.mf(I:Inv X pins σ H s)(h:f7 X.K H a xs)(h':f7 X.K H a ys):xs=ys:=by
 obtain⟨its,r,⟨o,e,_,n,d⟩,_⟩:=I.tuple h;obtain⟨its',r',⟨o',e',_,n',d'⟩,_⟩:=I.tuple h';rw[e]at e';cases e'
 rw[d]at d';injection d' with d1 _;have:its=its':=by simpa using congrArg Array.toList d1
 subst this;exact r.inj r'
end
abbrev Cx.wish(X:Cx)(E:Value->Shared->Prop):Cx:={ X with xe:=E }
abbrev Cx.jv(X:Cx):Cx:=X.wish fun _ _=>False
theorem Cx.Ok.wish{X:Cx}(ok:X.Ok)(E:Value->Shared->Prop):(X.wish E).Ok:=
 ⟨ok.mod,ok.kind,ok.glob,ok.blt,ok.above,ok.inj,ok.has,ok.cab,ok.hd,ok.frames,ok.Bo,ok.Cc,ok.bs,ok.t9,ok.oO,ok.oP,ok.gh,ok.vh⟩
theorem Cx.Ok.fh{X:Cx}{E:Value->Shared->Prop}(ok:(X.wish E).Ok):X.Ok:=
 ⟨ok.mod,ok.kind,ok.glob,ok.blt,ok.above,ok.inj,ok.has,ok.cab,ok.hd,ok.frames,ok.Bo,ok.Cc,ok.bs,ok.t9,ok.oO,ok.oP,ok.gh,ok.vh⟩
section
variable{X:Cx}{pins:List (Addr×Obj)}{σ:St}{H:Hp}{s:Shared}{E:Value->Shared->Prop}
theorem Inv.wish(I:Inv X pins σ H s)(E:Value->Shared->Prop):Inv (X.wish E) pins σ H s:=⟨I.ok.wish E,I.os,I.bare,I.base,I.loc,I.cell,I.free,I.dn,I.pin,I.hok,I.len⟩
theorem Inv.fh(I:Inv (X.wish E) pins σ H s):Inv X pins σ H s:=⟨I.ok.fh,I.os,I.bare,I.base,I.loc,I.cell,I.free,I.dn,I.pin,I.hok,I.len⟩
theorem SP.fh{D:Ends}{f:Flow}{s':Shared}(h:SP (X.wish E) pins D f s'):SP X pins D f s':=by
 cases f with
 | next=>obtain⟨σ',H',I,q⟩:=h;exact⟨σ',H',I.fh,q⟩
 | brk=>obtain⟨σ',H',I,q⟩:=h;exact⟨σ',H',I.fh,q⟩
 | cont=>obtain⟨σ',H',I,q⟩:=h;exact⟨σ',H',I.fh,q⟩
 | ret u=>obtain⟨v,σ',H',I,r,q⟩:=h;exact⟨v,σ',H',I.fh,r,q⟩
theorem iE.jv{st:List Stmt}{t:TS}(h:iE X.jv st t):iE X st t:=fun pins s σ H D I hw=>
 wpAny_mono (h pins s σ H D (I.wish _) hw) (fun _ _ q=>q.fh) fun _ _ z=>False.elim z
end
section
variable{X:Cx}{st:Stmt}{rest:List Stmt}{t u:TS}{e:Expr}{te:TE}{pos:Pos}
noncomputable def Fy:TS:=fun D σ H=>D.nx σ H
noncomputable def L9(t u:TS):TS:=fun D σ H=>t { D with nx:=u D } σ H
theorem yL:iE X [] Fy:=fun _ _ σ H _ I h=>wpAny_execs_nil ⟨σ,H,I,h⟩
theorem vk(h1:PS X st t)(h2:iE X rest u):iE X (st::rest) (L9 t u):=by
 intro pins s σ H D I h;refine wpAny_execs_cons (cz (h1 pins s σ H { D with nx:=u D } I h) fun f s1 q => ?_)
 cases f with
 | next=>
  obtain⟨σ',H',I',q⟩:=q;exact h2 pins s1 σ' H' D I' q
 | ret v=>exact q
 | brk=>exact q
 | cont=>exact q
theorem rY(h1:PS X st t):iE X [st] t:=by
 intro pins s σ H D I h;refine wpAny_execs_cons (cz (h1 pins s σ H D I h) fun f s1 q => ?_)
 cases f with
 | next=>exact wpAny_execs_nil q
 | ret v=>exact q
 | brk=>exact q
 | cont=>exact q
theorem Inv.quiet{pins:List (Addr×Obj)}{σ:St}{H:Hp}{s:Shared}(I:Inv X pins σ H s):interactive X.env=false:=by simp[interactive,I.ok.kind]
noncomputable def Fz(te:TE):TS:=fun D σ H=>te σ H fun _ H1=>D.nx σ H1
theorem yM(he:PE X e te)(hs:swapsWith e none pos.line X.env=pure false:=by rfl):PS X (.Expr e pos) (Fz te):=by
 intro pins s σ H D I h;exact wpAny_Expr_any (cz (he pins s σ H _ I h) fun v s1 ⟨x,H1,I1,r1,q1⟩=>⟨σ,H1,I1,q1⟩) I.quiet hs
noncomputable def L_(te:TE):TS:=fun D σ H=>te σ H D.rt
theorem qA(he:PE X e te):PS X (.Return (some e) pos) (L_ te):=by
 intro pins s σ H D I h;exact wpAny_Return_some (cz (he pins s σ H _ I h) fun v s1 ⟨x,H1,I1,r1,q1⟩=>⟨x,σ,H1,I1,r1,q1⟩)
noncomputable def Ma(c:TT)(t u:TS):TS:=fun D σ H=>c σ H fun b H1=>if b=true then t D σ H1 else u D σ H1
theorem FA{c:Expr}{a b:List Stmt}{tc:TT}(hc:PT X c tc)(ha:iE X a t)(hb:iE X b u):PS X (.If c a b pos) (Ma tc t u):=by
 intro pins s σ H D I h;refine wpAny_If (cz (hc pins s σ H _ I h) fun d s1 ⟨H1,I1,q1⟩ => ?_)
 cases d with
 | true=>exact ha pins s1 σ H1 D I1 q1
 | false=>exact hb pins s1 σ H1 D I1 q1
end
abbrev TG:=V->St->Hp->(St->Hp->Prop)->Prop
abbrev Bs:=List V->St->Hp->(St->Hp->Prop)->Prop
def PG(X:Cx)(target:Expr)(t:TG):Prop:=
 ∀ (pins:List (Addr×Obj)) (s:Shared) (σ:St) (H:Hp) (v:V) (u:Value) (Q:St->Hp->Prop),Inv X pins σ H s->RelV v u->t v σ H Q ->
  wpAny (model X.prog X.w) X.A (assign target X.env u) (fun _ s'=>∃ σ' H',Inv X pins σ' H' s'/\Q σ' H') X.xe s
def FC(X:Cx)(ts:List Expr)(t:Bs):Prop:=
 ∀ (pins:List (Addr×Obj)) (s:Shared) (σ:St) (H:Hp) (vs:List V) (us:List Value) (Q:St->Hp->Prop),Inv X pins σ H s->Vals vs us->t vs σ H Q ->
  wpAny (model X.prog X.w) X.A (assignInOrder ((assignEach ts X.env).map (·.2)) us) (fun _ s'=>∃ σ' H',Inv X pins σ' H' s'/\Q σ' H') X.xe s
section
variable{X:Cx}{pos:Pos}
noncomputable def ic(i:Nat):TG:=fun v σ H Q=>Q (σ.set i (some v)) H
theorem jS{i:Nat}{x:Str}(hN:X.N.Nodup)(hi:X.N[i]?=some x)(hx:Loc X.env.scope x)(hf:X.fn x=true\/X.env.scope.names.lookup x=some .local:=by first | exact .inl rfl | exact .inr rfl | assumption):PG X (.Name x pos) (ic i):=by
 intro pins s σ H v u Q I r h;exact wpAny_assign_Name (kj I hN hi hx r (fun s' I'=>⟨_,H,I',h⟩) hf)
noncomputable def FD:Bs:=fun vs σ H Q=>vs=[]/\Q σ H
noncomputable def Bt(t:TG)(u:Bs):Bs:=fun vs σ H Q=>∃ v r,vs=v::r/\t v σ H fun σ' H'=>u r σ' H' Q
theorem yN:FC X [] FD:=by
 intro pins s σ H vs us Q I r h;obtain⟨e,h⟩:=h;subst e;cases r;exact assignInOrder_nil ⟨σ,H,I,h⟩
theorem vm{e:Expr}{es:List Expr}{t:TG}{u:Bs}(h1:PG X e t)(h2:FC X es u)
  (hs:(assignEach (e::es) X.env).map (·.2)=assign e X.env::(assignEach es X.env).map (·.2):=by rfl):FC X (e::es) (Bt t u):=by
 intro pins s σ H vs us Q I r h;obtain⟨v,vr,e1,h⟩:=h;subst e1;cases r with
 | cons r rr=>
  rw[hs];refine assignInOrder_cons (cz (h1 pins s σ H _ _ _ I r h) fun _ s1 ⟨Ck,H1,I1,q1⟩ => ?_)
  exact h2 pins s1 Ck H1 _ _ Q I1 rr q1
noncomputable def yO(K:PySem.W.Frag)(n:Nat)(t:Bs):TG:=fun v σ H Q=>∃ a xs,v=.ref a/\f7 K H a xs/\xs.length=n/\t xs σ H Q
theorem Cm{es:List Expr}{k:Nat}{t:Bs}{n:Nat}(hc:X.calm=true)(h:FC X es t)
  (hn:(assignEach es X.env).length=n:=by rfl) (hst:(assignEach es X.env).findIdx? (·.1)=none:=by rfl):PG X (.Tuple es k pos) (yO X.K n t):=by
 intro pins s σ H v u Q I r hw;obtain⟨a,xs,e1,hq,hl,hw⟩:=hw;subst e1;cases r;obtain⟨its,rv,ht,hz⟩:=I.tuple hq;refine assign_Tuple_tuple (I.ok.hd hc) ht (by simp[hn,← hl,rv.length]) hst fun h' hx => ?_
 have I1:Inv X pins σ H { s with heap:=h' }:=I.kept (t':=s.toks) fun b o e=>hx b o (Nat.ne_of_lt (Heap.lt_size e)) e
 exact h pins _ σ H xs _ Q I1 (by simpa using rv) hw
noncomputable def Cn(te:TE)(g:TG):TS:=fun D σ H=>te σ H fun x H1=>g x σ H1 D.nx
theorem Co{tg e:Expr}{te:TE}{g:TG}(he:PE X e te)(hg:PG X tg g)(hs:swapsWithSole [tg] e pos.line X.env=pure false:=by rfl)(hw:swappedStores [tg] e X.env=pure none:=by rfl)
  (h1:(assignEach [tg] X.env).map (·.2)=[assign tg X.env]:=by rfl):PS X (.Assign [tg] e pos) (Cn te g):=by
 intro pins s σ H D I h;refine wpAny_Assign_stores (cz (he pins s σ H _ I h) fun v s1 ⟨x,H1,I1,r1,q1⟩ => ?_) hs hw
 rw[h1];exact cz (hg pins s1 σ H1 x v _ I1 r1 q1) fun _ s2 q=>q
theorem Cp{i:Nat}{x:Str}{e:Expr}{te:TE}{pos':Pos}(hN:X.N.Nodup)(hi:X.N[i]?=some x)(hx:Loc X.env.scope x)(he:PE X e te)(hs:swapsWith e (some (.Name x pos')) pos.line X.env=pure false:=by rfl)(hf:X.fn x=true\/X.env.scope.names.lookup x=some .local:=by first | exact .inl rfl | exact .inr rfl | assumption) :
  PS X (.Assign [.Name x pos'] e pos) (Cn te (ic i)):=by
 intro pins s σ H D I h;refine wpAny_Assign_Name (cz (he pins s σ H _ I h) fun v s1 ⟨y,H1,I1,r1,q1⟩ => ?_) hs
 exact kj I1 hN hi hx r1 (fun s2 I2=>⟨_,H1,I2,q1⟩) hf
noncomputable def Cq(c:TT)(tb:TS):TS:=fun D σ H=>∃ W:Nat->St->Hp->Prop,(∃ m,W m σ H)/\∀ m σ H,W m σ H ->
 c σ H fun b H1=>if b=true then ∃ N:St->Hp->Prop,(∀ σ' H',N σ' H'->∃ m',m' < m/\W m' σ' H')/\tb { D with nx:=N,ct:=N,bk:=D.nx } σ H1 else D.nx σ H1
theorem vn{c:Expr}{body:List Stmt}{tc:TT}{tb:TS}(hp:PassesOwn (model X.prog X.w) X.A X.env X.xe)(hc:PT X c tc)(hb:iE X body tb):PS X (.While c body [] pos) (Cq tc tb):=by
 intro pins s σ H D I h;obtain⟨W,⟨m0,w0⟩,turn⟩:=h;refine wpAny_While (codeAny_whileLoop (fun n s'=>∃ σ' H',Inv X pins σ' H' s'/\W n σ' H') ?_ m0 ⟨σ,H,I,w0⟩)
 rintro n s1 ⟨Ck,H1,I1,w1⟩;refine wpAny_passesOwn hp (cz (hc pins s1 Ck H1 _ I1 (turn n Ck H1 w1)) fun b s2 ⟨H2,I2,q2⟩ => ?_)
 cases b with
 | true=>
  obtain⟨N,hN,q2⟩:=q2;rw[if_pos rfl];refine wpAny_passesOwn hp (cz (hb pins s2 Ck H2 _ I2 q2) fun f s3 q3 => ?_)
  cases f with
  | next=>
   obtain⟨qB,H3,I3,n3⟩:=q3;obtain⟨m',hm,w3⟩:=hN qB H3 n3;exact⟨m',hm,qB,H3,I3,w3⟩
  | cont=>
   obtain⟨qB,H3,I3,n3⟩:=q3;obtain⟨m',hm,w3⟩:=hN qB H3 n3;exact⟨m',hm,qB,H3,I3,w3⟩
  | brk=>exact q3
  | ret v=>exact q3
 | false=>
  rw[if_neg Bool.false_ne_true];exact wpAny_execs_nil ⟨Ck,H2,I2,q2⟩
end
structure It where
 go:Nat->Hp->Prop
 JM:Nat->Hp->V->Hp->Prop
 stop:Nat->Hp->Prop
def lO(X:Cx)(pins:List (Addr×Obj))(H:Hp)(b:Addr):Prop:=
 H b=none/\b≠X.env.locals/\b∉X.fs/\(b∈X.ex\/X.s₀.heap.objs.size<=b)/\(∀ x c,X.env.cells.lookup x=some c->c≠b)/\∀ p∈X.pn++pins,p.1≠b
theorem Inv.vo{X:Cx}{pins:List (Addr×Obj)}{σ:St}{H H':Hp}{s:Shared}{b:Addr}(I:Inv X pins σ H s)(hb:s.heap.objs.size<=b)(hn:H' b=none):lO X pins H' b:=by
 refine⟨hn,Nat.ne_of_gt (Nat.lt_of_lt_of_le I.lt hb),I.LZ hb,.inr (Nat.le_trans I.sz hb),fun x c e z => ?_,fun p hp z => ?_⟩
 ·obtain⟨v,q⟩:=I.cell x c e
  exact absurd (Nat.lt_of_lt_of_le q.lt (by rw[z];exact hb)) (Nat.lt_irrefl _)
 ·exact absurd (Nat.lt_of_lt_of_le (Heap.lt_size (I.pin p hp).1) (by rw[z];exact hb)) (Nat.lt_irrefl _)
structure Turn(P:Program)(w:World)(K:PySem.W.Frag)(tg:Expr)(J:It)(fp:List Addr)(it:Addr)(tn:Nat->Heap->Prop):Prop where
 mem:it∈fp
 obj:∀ i h,tn i h->∀ b∈fp,∃ o,h.get? b=some o/\∀ v,o.data≠.cell v
 keep:∀ i h h',tn i h->(∀ b∈fp,∀ o,h.get? b=some o->h'.get? b=some o)->tn i h'
 item:∀ (X:Cx),X.prog=P->X.w=w->X.K=K->X.calm=true->∀ (i:Nat) (pins:List (Addr×Obj)) (s:Shared) (σ:St) (H:Hp) (E:Value->Shared->Prop),Inv X pins σ H s->(∀ b∈fp,lO X pins H b)->tn i s.heap->J.go i H ->
  wpAny (model P w) X.A (pyNext (.ref it)) (fun r s1=>∃ u,r=some u /\
   wpAny (model P w) X.A (letOwnedTupleGo tg (.ref it) u) (fun _ s2=>∃ x H',Inv X pins σ H' s2/\RelV x u/\J.JM i H x H'/\tn (i + 1) s2.heap/\∀ b∈fp,H' b=none) E s1) E s
 done:∀ (X:Cx),X.prog=P->X.w=w->X.K=K->X.calm=true->∀ (i:Nat) (pins:List (Addr×Obj)) (s:Shared) (σ:St) (H:Hp) (E:Value->Shared->Prop),Inv X pins σ H s->(∀ b∈fp,lO X pins H b)->tn i s.heap->J.stop i H ->
  wpAny (model P w) X.A (pyNext (.ref it)) (fun r s1=>r=none/\Inv X pins σ H s1) E s
 self:∀ (A:Around) (i:Nat) (s:Shared) (Q:Value->Shared->Prop) (E:Value->Shared->Prop),tn i s.heap->Q (.ref it) s->wpAny (model P w) A (pyIter (.ref it)) Q E s
abbrev TI:=St->Hp->(It->Hp->Prop)->Prop
def PIE(X:Cx)(pins:List (Addr×Obj))(σ:St)(tg:Expr)(R:It->Hp->Prop)(itv:Value)(s2:Shared):Prop:=
 ∃ (it:Addr) (fp:List Addr) (tn:Nat->Heap->Prop) (J:It) (H':Hp),itv=.ref it/\Inv X pins σ H' s2/\Turn X.prog X.w X.K tg J fp it tn/\tn 0 s2.heap/\(∀ b∈fp,lO X pins H' b)/\R J H'
def PI(X:Cx)(tg iter:Expr)(wi:TI):Prop:=
 ∀ (pins:List (Addr×Obj)) (s:Shared) (σ:St) (H:Hp) (R:It->Hp->Prop),Inv X pins σ H s->wi σ H R ->
  wpAny (model X.prog X.w) X.A (eval iter X.env) (fun v s1=>wpAny (model X.prog X.w) X.A (pyIter v) (PIE X pins σ tg R) X.xe s1) X.xe s
theorem rZ{M:Model}{A:Around}{E:Value->Shared->Prop}{s:Shared}{tg:Expr}{it:Addr}{u:Value}{o:Obj}{n:String}{vs:Array Value}{Q:Unit->Shared->Prop}(ho:s.heap.get? it=some o)(hc:o.cls=.type n)(hd:o.data=.fields vs)
    (hn:["enumerate","zip","dict_itemiterator","dict_reverseitemiterator","odict_iterator","itertools.zip_longest","itertools.pairwise"].contains n=false) (hQ:Q () s):wpAny M A (letOwnedTupleGo tg (.ref it) u) Q E s:=by
  unfold letOwnedTupleGo
  cases tg<;>first
    | exact wpAny_pure hQ
    | (cases u<;>first
        | exact wpAny_pure hQ
        | (refine wpAny_bind (wpAny_load ho ?_)
           rw[hc,hd]
           show wpAny M A (if (["enumerate","zip","dict_itemiterator","dict_reverseitemiterator","odict_iterator","itertools.zip_longest","itertools.pairwise"].contains n && vs[0]? == some (rawInt _))=true then _ else _) Q E s
           rw[if_neg (by intro h;rw[hn,Bool.false_and]at h;cases h)]
           exact wpAny_pure hQ))
noncomputable def Mb(K:PySem.W.Frag)(a:Addr):It:=
 ⟨fun i H=>∃ xs x,ju K H a xs/\xs[i]?=some x,fun i H x H'=>H'=H/\∀ xs,ju K H a xs->xs[i]?=some x,fun i H=>∃ xs,ju K H a xs/\xs.length<=i⟩
noncomputable def Mc(K:PySem.W.Frag)(a:Addr):It:=
 ⟨fun i H=>∃ xs x,f7 K H a xs/\xs[i]?=some x,fun i H x H'=>H'=H/\∀ xs,f7 K H a xs->xs[i]?=some x,fun i H=>∃ xs,f7 K H a xs/\xs.length<=i⟩
noncomputable def FE(lo:Int)(n:Nat):It:=⟨fun i _=>i < n,fun i H x H'=>H'=H/\x=.int (lo + i),fun i _=>n<=i⟩
theorem t_{P:Program}{w:World}{K:PySem.W.Frag}{tg:Expr}(a it:Addr):Turn P w K tg (Mb K a) [it] it (fun i h=>h.IsListIter it a i) where
 mem:=by simp
 obj:=fun i h st b hb=>by
  have e:b=it:=by simpa using hb
  subst e;obtain⟨o,e,c,d⟩:=st;exact⟨o,e,fun v z=>by rw[d]at z;cases z⟩
 keep:=fun i h h' st k=>st.at fun o e=>k it (by simp) o e
 item:=by
  intro X hP hw hK hc i pins s σ H E I hf st hg;subst hP hw hK;obtain⟨xs,x,hq,hx⟩:=hg;obtain⟨its,rv,p,hz⟩:=I.list hq;obtain⟨u,hu,ru⟩:=rv.get hx;obtain⟨f0,f1,f2,f3,f4,f5⟩:=hf it (by simp)
  refine wpAny_pyNext_list_item st p.isList (x:=u) (by simpa using hu) fun h' st' sb => ?_
  have I1:Inv X pins σ H { s with heap:=h' }:=I.turned (t':=s.toks) (fun b o hb e=>(sb.2 b hb).trans e) f0 f1 f3 f4 f5
  obtain⟨o,e,c,d⟩:=id st';exact⟨u,rfl,rZ (s:={ s with heap:=h' }) e c d (by decide) ⟨x,H,I1,ru,⟨rfl,fun ys hy=>by rw[I.oR hy hq];exact hx⟩,st',fun b hb=>(hf b hb).1⟩⟩
 done:=by
  intro X hP hw hK hc i pins s σ H E I hf st hg;subst hP hw hK;obtain⟨xs,hq,hx⟩:=hg;obtain⟨its,rv,p,hz⟩:=I.list hq;obtain⟨f0,f1,f2,f3,f4,f5⟩:=hf it (by simp)
  have hl:=rv.length;exact wpAny_pyNext_list_end (I.ok.hd hc) st p.isList (by simp;omega) fun h' eb=>⟨rfl,I.turned (t':=s.toks) (fun b o hb e=>eb b o hb e) f0 f1 f3 f4 f5⟩
 self:=fun _ _ _ _ _ st h=>wpAny_pyIter_listiter st h
theorem qD{P:Program}{w:World}{K:PySem.W.Frag}{tg:Expr}(a it:Addr):Turn P w K tg (Mc K a) [it] it (fun i h=>h.IsTupleIter it a i) where
 mem:=by simp
 obj:=fun i h st b hb=>by
  have e:b=it:=by simpa using hb
  subst e;obtain⟨o,e,c,d⟩:=st;exact⟨o,e,fun v z=>by rw[d]at z;cases z⟩
 keep:=fun i h h' st k=>st.at fun o e=>k it (by simp) o e
 item:=by
  intro X hP hw hK hc i pins s σ H E I hf st hg;subst hP hw hK;obtain⟨xs,x,hq,hx⟩:=hg;obtain⟨its,rv,p,hz⟩:=I.tuple hq;obtain⟨u,hu,ru⟩:=rv.get hx;obtain⟨f0,f1,f2,f3,f4,f5⟩:=hf it (by simp)
  refine wpAny_pyNext_tuple_item st (show s.heap.IsTuple a its.toArray from p) (x:=u) (by simpa using hu) fun h' st' sb => ?_
  have I1:Inv X pins σ H { s with heap:=h' }:=I.turned (t':=s.toks) (fun b o hb e=>(sb.2 b hb).trans e) f0 f1 f3 f4 f5
  obtain⟨o,e,c,d⟩:=id st';exact⟨u,rfl,rZ (s:={ s with heap:=h' }) e c d (by decide) ⟨x,H,I1,ru,⟨rfl,fun ys hy=>by rw[I.mf hy hq];exact hx⟩,st',fun b hb=>(hf b hb).1⟩⟩
 done:=by
  intro X hP hw hK hc i pins s σ H E I hf st hg;subst hP hw hK;obtain⟨xs,hq,hx⟩:=hg;obtain⟨its,rv,p,hz⟩:=I.tuple hq;obtain⟨f0,f1,f2,f3,f4,f5⟩:=hf it (by simp)
  have hl:=rv.length;exact wpAny_pyNext_tuple_end (I.ok.hd hc) st (show s.heap.IsTuple a its.toArray from p) (by simp;omega) fun h' eb=>⟨rfl,I.turned (t':=s.toks) (fun b o hb e=>eb b o hb e) f0 f1 f3 f4 f5⟩
 self:=fun _ _ _ _ _ st h=>wpAny_pyIter_tupleiter st h
theorem qE{P:Program}{w:World}{K:PySem.W.Frag}{tg:Expr}(it:Addr)(lo:Int)(n:Nat):Turn P w K tg (FE lo n) [it] it (fun i h=>IsRangeIter h it (lo + (i:Nat) * 1) ((n:Int) - (i:Nat)) 1) where
 mem:=by simp
 obj:=fun i h st b hb=>by
  have e:b=it:=by simpa using hb
  subst e
  exact⟨_,st,fun v z=>by
   have z':Data.fields _=Data.cell v:=z;cases z'⟩
 keep:=fun i h h' st k=>k it (by simp) _ st
 item:=by
  intro X hP hw hK hc i pins s σ H E I hf st hg;subst hP hw hK;obtain⟨f0,f1,f2,f3,f4,f5⟩:=hf it (by simp)
  have W:=Walks.range (prog:=X.prog) (w:=X.w) (I.ok.hd hc) it lo 1 n;refine W.item i s _ _ hg st fun v h' tk hv st' kk => ?_
  obtain⟨t,rfl⟩:=hv;have I1:Inv X pins σ H { s with heap:=h',toks:=tk }:=I.turned (fun b o hb e=>kk b o (by simpa using hb) e) f0 f1 f3 f4 f5
  refine⟨_,rfl,rZ (s:={ s with heap:=h',toks:=tk }) (n:="range_iterator") st' rfl rfl (by decide) ⟨.int (lo + i),H,I1,⟨t,?_⟩,⟨rfl,rfl⟩,st',fun b hb=>(hf b hb).1⟩⟩
  rw[Int.mul_one]
 done:=by
  intro X hP hw hK hc i pins s σ H E I hf st hg;subst hP hw hK;obtain⟨f0,f1,f2,f3,f4,f5⟩:=hf it (by simp)
  exact wpAny_pyNext_range_end (I.ok.hd hc) st (by have:n<=i:=hg;omega) fun h' eb=>⟨rfl,I.turned (t':=s.toks) (fun b o hb e=>eb b o hb e) f0 f1 f3 f4 f5⟩
 self:=fun _ _ _ _ _ st h=>wpAny_pyIter_rangeiter st h
section
variable{X:Cx}{tg:Expr}
theorem vp{pins:List (Addr×Obj)}{σ:St}{H:Hp}{s:Shared}{R:It->Hp->Prop}{E:Value->Shared->Prop}{lo hi:Int}{t u v:Tok}{tk:Nat}(I:Inv X pins σ H s)(h1 : -(2 ^ 62)<=lo)(h2:lo < 2 ^ 62)(h3 : -(2 ^ 62)<=hi)(h4:hi < 2 ^ 62)
  (q:R (FE lo (hi - lo).toNat) H):wpAny (model X.prog X.w) X.A (pyIter (.ref s.heap.objs.size)) (PIE X pins σ tg R) E { s with heap:=s.heap.push { cls:=.type "range",data:=.fields #[.int lo t,.int hi u,.int 1 v] },toks:=tk }:=by
 refine wpAny_pyIter_range (IsRange.new ..) (small_one h1 h2 h3 h4) ?_;have I1:Inv X pins σ H { s with heap:=s.heap.push { cls:=.type "range",data:=.fields #[.int lo t,.int hi u,.int 1 v] },toks:=tk }:=I.kept fun b o e=>Heap.get?_push_of_some _ e
 refine⟨(s.heap.push { cls:=.type "range",data:=.fields #[.int lo t,.int hi u,.int 1 v] }).objs.size,[(s.heap.push { cls:=.type "range",data:=.fields #[.int lo t,.int hi u,.int 1 v] }).objs.size],_,_,H,rfl,
  I1.kept (t':=tk) fun b o e=>Heap.get?_push_of_some _ e,qE _ lo (hi - lo).toNat,?_,fun b hb => ?_,q⟩
 ·have e1:lo + ((0:Nat):Int) * 1=lo:=by simp
  have e2:(((hi - lo).toNat:Nat):Int) - ((0:Nat):Int)=Builtin.Range.rangeSize lo hi 1:=by rw[rangeSize_one];split<;>omega
  show IsRangeIter _ _ (lo + ((0:Nat):Int) * 1) ((((hi - lo).toNat:Nat):Int) - ((0:Nat):Int)) 1
  rw[e1,e2];exact Heap.get?_push_size _ rfl
 ·have e:b=(s.heap.push { cls:=.type "range",data:=.fields #[.int lo t,.int hi u,.int 1 v] }).objs.size:=by simpa using hb
  subst e;exact I1.vo (Nat.le_refl _) (I1.hok.fresh (Nat.le_refl _))
def FF(ta:TA):TI:=fun σ H R=>ta σ H fun vs H1=>∃ j:Int,vs=[.int j] /\ -(2 ^ 62)<=j/\j < 2 ^ 62/\R (FE 0 j.toNat) H1
theorem ua{a:Expr}{ta:TA}{p pos:Pos}(hg:Gl X "range")(hm:X.mg "range"=none)(ha:PA X [a] ta)(hs:starEach [a] X.env=[(false,eval a X.env)]:=by rfl):PI X tg (.Call (.Name "range" p) [a] [] pos) (FF ta):=by
 intro pins s σ H R I h;refine Call_ (fL I hg hm boot_range (PyProof.Rows.callWith_type1 (cz (ha pos pins s σ H _ I h) fun us s1 ⟨vs,H1,I1,r1,q1⟩ => ?_) hs rfl))
 obtain⟨j,e,q1,q2,q⟩:=q1;subst e;cases r1 with
 | cons r rr=>
  cases rr;obtain⟨t,rfl⟩:=r;exact call_range_1 (vp I1 (by omega) (by omega) q1 q2 (by simpa using q))
noncomputable def Md(wi:TI)(g:TG)(tb:TS):TS:=fun D σ H=>wi σ H fun J H1=>∃ W:Nat->Nat->St->Hp->Prop,(∃ m,W 0 m σ H1)/\∀ i m σ H,W i m σ H ->
 (J.stop i H/\D.nx σ H)\/(J.go i H/\∃ N:St->Hp->Prop,(∀ σ' H',N σ' H'->∃ m',m' < m/\W (i + 1) m' σ' H')/\∀ x H',J.JM i H x H'->g x σ H' fun JN H2=>tb { D with nx:=N,ct:=N,bk:=D.nx } JN H2)
noncomputable def kn(fp:List Addr)(h:Heap):List (Addr×Obj):=fp.filterMap fun b=>(h.get? b).map fun o=>(b,o)
theorem fM{fp:List Addr}{h:Heap}{b:Addr}{o:Obj}(hb:b∈fp)(e:h.get? b=some o):(b,o)∈kn fp h:=List.mem_filterMap.mpr ⟨b,hb,by rw[e];rfl⟩
theorem uc{fp:List Addr}{h:Heap}{p:Addr×Obj}(hp:p∈kn fp h):p.1∈fp/\h.get? p.1=some p.2:=by
 obtain⟨b,hb,e⟩:=List.mem_filterMap.mp hp;cases q:h.get? b with
 | none=>rw[q]at e;cases e
 | some o=>
  rw[q]at e;have e':(b,o)=p:=Option.some.inj e;subst e';exact⟨hb,q⟩
theorem Inv.pinned{pins:List (Addr×Obj)}{σ:St}{H:Hp}{s:Shared}{fp:List Addr}(I:Inv X pins σ H s)(hf:∀ b∈fp,lO X pins H b)(ho:∀ b∈fp,∃ o,s.heap.get? b=some o/\∀ v,o.data≠.cell v):Inv X (pins++kn fp s.heap) σ H s:=
 I.rX fun p hp=>(List.mem_append.mp hp).elim (fun z=>I.pin p (List.mem_append_right _ z)) fun z=>by
  obtain⟨hb,e⟩:=uc z;obtain⟨f0,f1,f2,_⟩:=hf p.1 hb;obtain⟨o,e',d⟩:=ho p.1 hb;rw[e]at e';cases e'
  exact⟨e,f0,f1,f2,d⟩
theorem Inv.iF{pins pl:List (Addr×Obj)}{σ:St}{H:Hp}{s:Shared}(I:Inv X (pins++pl) σ H s):Inv X pins σ H s:=I.rX fun p hp=>I.pin p (List.mem_append_right _ (List.mem_append_left _ hp))
theorem Cr{iter:Expr}{body:List Stmt}{wi:TI}{g:TG}{tb:TS}{pos:Pos}(hp:PassesOwn (model X.prog X.w) X.A X.env X.xe)(hc:X.calm=true)(hi:PI X tg iter wi)(hg:PG X tg g)(hb:iE X body tb)
  (hs:∀ x,foldedSetIterable iter X.env x=pure x:=by intro _;rfl):PS X (.For tg iter body [] pos) (Md wi g tb):=by
 intro pins s σ H D I h;refine wpAny_For (cz (hi pins s σ H _ I h) fun v s1 h1=>cz h1 fun itv s2 h2 => ?_) hs
 obtain⟨it,fp,tn,J,H2,e,I2,T,st2,f2,W,⟨m0,w0⟩,turn⟩:=h2;subst e;have stat:∀ {H':Hp},(∀ b∈fp,H' b=none)->∀ b∈fp,lO X pins H' b:=fun hn b hb=>⟨hn b hb,(f2 b hb).2⟩
 refine codeAny_forLoop_any (fun n s'=>∃ i σ' H',Inv X pins σ' H' s'/\tn i s'.heap/\(∀ b∈fp,H' b=none)/\W i n σ' H') ?_ m0 ⟨0,σ,H2,I2,st2,fun b hb=>(f2 b hb).1,w0⟩
 rintro n s3 ⟨i,qB,H3,I3,st3,Qa,w3⟩;rcases turn i n qB H3 w3 with ⟨stop,qn⟩ | ⟨go,N,hN,step⟩
 ·refine wpAny_passesOwn hp (cz (T.done X rfl rfl rfl hc i pins s3 qB H3 X.xe I3 (stat Qa) st3 stop) fun r s4 ⟨hr,I4⟩ => ?_)
  subst hr;exact wpAny_execs_nil ⟨qB,H3,I4,qn⟩
 ·refine wpAny_passesOwn hp (cz (T.item X rfl rfl rfl hc i pins s3 qB H3 X.xe I3 (stat Qa) st3 go) fun r s4 ⟨u,hr,h4⟩ => ?_)
  subst hr;refine wpAny_passesOwn hp (cz h4 fun _ s5 ⟨x,H5,I5,r5,y5,E9,RY⟩ => ?_)
  have RZ:=I5.pinned (stat RY) (T.obj _ _ E9);refine wpAny_passesOwn hp (cz (hg _ s5 qB H5 x u _ RZ r5 (step x H5 y5)) fun _ s6 ⟨JO,H6,I6,q6⟩ => ?_)
  refine wpAny_passesOwn hp (cz (hb _ s6 JO H6 _ I6 q6) fun f s7 q7 => ?_)
  have again:∀ {vq:St} {H7:Hp},Inv X (pins++kn fp s5.heap) vq H7 s7->N vq H7->∃ m,m < n/\∃ i σ' H',Inv X pins σ' H' s7/\tn i s7.heap/\(∀ b∈fp,H' b=none)/\W i m σ' H':=fun {vq H7} I7 n7=>by
   obtain⟨m',hm,w7⟩:=hN vq H7 n7;refine⟨m',hm,i + 1,vq,H7,I7.iF,T.keep _ _ _ E9 fun b hb o e=>(I7.pin (b,o) (List.mem_append_right _ (List.mem_append_right _ (fM hb e)))).1,fun b hb => ?_,w7⟩
   obtain⟨o,e,d⟩:=T.obj _ _ E9 b hb;exact(I7.pin (b,o) (List.mem_append_right _ (List.mem_append_right _ (fM hb e)))).2.1
  cases f with
  | next=>obtain⟨vq,H7,I7,n7⟩:=q7;exact again I7 n7
  | cont=>obtain⟨vq,H7,I7,n7⟩:=q7;exact again I7 n7
  | brk=>obtain⟨vq,H7,I7,q7⟩:=q7;exact⟨vq,H7,I7.iF,q7⟩
  | ret v=>obtain⟨x7,vq,H7,I7,r7,q7⟩:=q7;exact⟨x7,vq,H7,I7.iF,r7,q7⟩
end
abbrev R2:=V->V->Hp->VK->Prop
def f9(X:Cx)(f:Value->Value->Sem Value)(r:R2):Prop:=
 ∀ (pins:List (Addr×Obj)) (s:Shared) (σ:St) (H:Hp) (x y:V) (v u:Value) (Q:VK),Inv X pins σ H s->RelV x v->RelV y u->r x y H Q ->
  wpAny (model X.prog X.w) X.A (f v u) (EP X pins σ Q) X.xe s
def Me(X:Cx)(f:Value->Sem Value)(r:V->Hp->VK->Prop):Prop:=
 ∀ (pins:List (Addr×Obj)) (s:Shared) (σ:St) (H:Hp) (x:V) (v:Value) (Q:VK),Inv X pins σ H s->RelV x v->r x H Q ->
  wpAny (model X.prog X.w) X.A (f v) (EP X pins σ Q) X.xe s
def eF(X:Cx)(f:Value)(r:List V->Hp->VK->Prop):Prop:=
 ∀ (pins:List (Addr×Obj)) (s:Shared) (σ:St) (H:Hp) (xs:List V) (us:List Value) (Q:VK),Inv X pins σ H s->Vals xs us->r xs H Q ->
  wpAny (model X.prog X.w) X.A (call f us) (EP X pins σ Q) X.xe s
def Mf(X:Cx)(r:V->Hp->(Bool->Hp->Prop)->Prop):Prop:=
 ∀ (pins:List (Addr×Obj)) (s:Shared) (σ:St) (H:Hp) (x:V) (v:Value) (Q:Bool->Hp->Prop),Inv X pins σ H s->RelV x v->r x H Q ->
  wpAny (model X.prog X.w) X.A (truthy v) (TP X pins σ Q) X.xe s
noncomputable def E_(r:R2)(ta tb:TE):TE:=fun σ H Q=>ta σ H fun x H1=>tb σ H1 fun y H2=>r x y H2 Q
noncomputable def R8(r:V->Hp->VK->Prop)(ta:TE):TE:=fun σ H Q=>ta σ H fun x H1=>r x H1 Q
noncomputable def rI(C:Int->Int->Prop)(g:Int->Int->V):R2:=fun x y H Q=>∃ i j,x=.int i/\y=.int j/\C i j/\Q (g i j) H
noncomputable def yP(g:Int->Int->V):R2:=fun x y H Q=>∃ i j,x=.int i/\y=.int j/\Q (g i j) H
def rU(g:Int->V):V->Hp->VK->Prop:=fun x H Q=>∃ i,x=.int i/\Q (g i) H
section
variable{X:Cx}{a b c:Expr}{ta tb tc:TE}{pos:Pos}
theorem Ct(ha:PE X a ta)(hb:PE X b tb){pins:List (Addr×Obj)}{s:Shared}{σ:St}{H:Hp}{R:V->V->Hp->Prop}(I:Inv X pins σ H s)
  (h:ta σ H fun x H1=>tb σ H1 fun y H2=>R x y H2) {Q:Value->Shared->Prop} {f:Value->Value->Sem Value}
  (hf:∀ v u s2 x y H2,Inv X pins σ H2 s2->RelV x v->RelV y u->R x y H2->wpAny (model X.prog X.w) X.A (f v u) Q X.xe s2) :
  wpAny (model X.prog X.w) X.A (eval a X.env) (fun v s₁=>wpAny (model X.prog X.w) X.A (eval b X.env) (fun u s₂=>wpAny (model X.prog X.w) X.A (f v u) Q X.xe s₂) X.xe s₁) X.xe s:=by
 refine cz (ha pins s σ H _ I h) fun v s1 ⟨x,H1,I1,r1,q1⟩ => ?_
 refine cz (hb pins s1 σ H1 _ I1 q1) fun u s2 ⟨y,H2,I2,r2,q2⟩ => ?_
 exact hf v u s2 x y H2 I2 r1 r2 q2
theorem vt{op:Operator}{r:R2}(ho:f9 X (binaryOp op) r)(ha:PE X a ta)(hb:PE X b tb):PE X (.BinOp a op b pos) (E_ r ta tb):=by
 intro pins s σ H Q I h;exact wpAny_BinOp (Ct ha hb I h fun v u s2 x y H2 I2 rx ry q=>ho pins s2 σ H2 x y v u Q I2 rx ry q)
theorem FG{op:UnaryOp}{r:V->Hp->VK->Prop}(ho:Me X (unaryOp op) r)(ha:PE X a ta):PE X (.UnaryOp op a pos) (R8 r ta):=by
 intro pins s σ H Q I h;exact UnaryOp_ (cz (ha pins s σ H _ I h) fun v s1 ⟨x,H1,I1,r1,q1⟩=>ho pins s1 σ H1 x v Q I1 r1 q1)
theorem JP{f:Value->Value->Sem Value}{C:Int->Int->Prop}{g:Int->Int->Int}
  (rule:∀ (i j:Int) (t u:Tok) (s:Shared) (Q:Value->Shared->Prop) (E:Value->Shared->Prop),C i j->Q (.int (g i j) s.toks) { s with toks:=s.toks + 1 }->wpAny (model X.prog X.w) X.A (f (.int i t) (.int j u)) Q E s) :
  f9 X f (rI C fun i j=>.int (g i j)):=by
 intro pins s σ H x y v u Q I rx ry h;obtain⟨i,j,rfl,rfl,hc,q⟩:=h;obtain⟨t,rfl⟩:=rx;obtain⟨t',rfl⟩:=ry;exact rule i j t t' s _ _ hc ⟨.int (g i j),H,I.tok _,⟨_,rfl⟩,q⟩
theorem FH{f:Value->Value->Sem Value}{g:Int->Int->Int}
  (rule:∀ (i j:Int) (t u:Tok) (s:Shared) (Q:Value->Shared->Prop) (E:Value->Shared->Prop),Q (.int (g i j) s.toks) { s with toks:=s.toks + 1 }->wpAny (model X.prog X.w) X.A (f (.int i t) (.int j u)) Q E s) :
  f9 X f (yP fun i j=>.int (g i j)):=by
 intro pins s σ H x y v u Q I rx ry h;obtain⟨i,j,rfl,rfl,q⟩:=h;obtain⟨t,rfl⟩:=rx;obtain⟨t',rfl⟩:=ry;exact rule i j t t' s _ _ ⟨.int (g i j),H,I.tok _,⟨_,rfl⟩,q⟩
theorem yQ{f:Value->Value->Sem Value}{g:Int->Int->Bool}
  (rule:∀ (i j:Int) (t u:Tok) (s:Shared) (Q:Value->Shared->Prop) (E:Value->Shared->Prop),Q (.bool (g i j)) s->wpAny (model X.prog X.w) X.A (f (.int i t) (.int j u)) Q E s) :
  f9 X f (yP fun i j=>.bl (g i j)):=by
 intro pins s σ H x y v u Q I rx ry h;obtain⟨i,j,rfl,rfl,q⟩:=h;obtain⟨t,rfl⟩:=rx;obtain⟨t',rfl⟩:=ry;exact rule i j t t' s _ _ ⟨.bl (g i j),H,I,rfl,q⟩
def FI(i j:Int):Prop:=0 < j/\j < 1073741824
def FJ(i j:Int):Prop:=0<=j/\j<=1000000/\i.natAbs < 2 ^ 64
def yR(i j:Int):Prop:=(-(2 ^ 64) < i/\i < 2 ^ 64)\/(-(2 ^ 64) < j/\j < 2 ^ 64)
theorem yR.ok{i j:Int}(h:yR i j):IntMulOk i j:=by
 rcases h with ⟨h1,h2⟩ | ⟨h1,h2⟩
 ·exact .of_left (intBits_le_64 h1 h2)
 ·exact .of_right (intBits_le_64 h1 h2)
theorem Cu:f9 X (binaryOp .Add) (yP fun i j=>.int (i + j)):=FH fun _ _ _ _ _ _ _ q=>add_int q
theorem Cv:f9 X (binaryOp .Sub) (yP fun i j=>.int (i - j)):=FH fun _ _ _ _ _ _ _ q=>sub_int q
theorem Cw:f9 X (binaryOp .Mult) (rI yR fun i j=>.int (i * j)):=JP fun _ _ _ _ _ _ _ hc q=>mul_int q hc.ok
theorem yS:f9 X (binaryOp .FloorDiv) (rI FI fun i j=>.int (i / j)):=JP fun i j _ _ _ _ _ hc q=>by
 have h1:(0:Int) < j:=hc.1;have h2:j < 1073741824:=hc.2;exact floordiv_int (by omega) (by rw[Int.fdiv_eq_ediv_of_nonneg i (by omega)];exact q) (.inl (PyProof.noPylong_small (by omega)))
theorem Cy:f9 X (binaryOp .Mod) (rI (fun _ j=>0 < j) fun i j=>.int (i % j)):=JP fun i j _ _ _ _ _ hc q=>by
 have h1:(0:Int) < j:=hc;exact mod_int' (by omega) (by rw[Int.fmod_eq_emod_of_nonneg i (by omega)];exact q)
theorem Cz:f9 X (binaryOp .Pow) (rI FJ fun i j=>.int (i ^ j.toNat)):=JP fun _ _ _ _ _ _ _ hc q=>pow_int_small hc.1 hc.2.1 hc.2.2 q
theorem R_{f:Value->Sem Value}{g:Int->Int}
  (rule:∀ (i:Int) (t:Tok) (s:Shared) (Q:Value->Shared->Prop) (E:Value->Shared->Prop),Q (.int (g i) s.toks) { s with toks:=s.toks + 1 }->wpAny (model X.prog X.w) X.A (f (.int i t)) Q E s) :
  Me X f (rU fun i=>.int (g i)):=by
 intro pins s σ H x v Q I rx h;obtain⟨i,rfl,q⟩:=h;obtain⟨t,rfl⟩:=rx;exact rule i t s _ _ ⟨.int (g i),H,I.tok _,⟨_,rfl⟩,q⟩
theorem CA:Me X (unaryOp .USub) (rU fun i=>.int (-i)):=R_ fun _ _ _ _ _ q=>neg_int q
theorem m8{pins:List (Addr×Obj)}{σ:St}{H:Hp}{s:Shared}{Q:VK}{k k':Bool}(I:Inv X pins σ H s)(q:Q (.bl k) H)(e:k=k'):EP X pins σ Q (.bool k') s:=by
 subst e;exact⟨.bl k,H,I,rfl,q⟩
theorem FK:f9 X (compareOp .Lt) (yP fun i j=>.bl (decide (i < j))):=yQ fun _ _ _ _ _ _ _ q=>lt_int q
theorem FL:f9 X (compareOp .LtE) (yP fun i j=>.bl (decide (i<=j))):=yQ fun _ _ _ _ _ _ _ q=>le_int q
theorem FO:f9 X (compareOp .Gt) (yP fun i j=>.bl (decide (j < i))):=yQ fun _ _ _ _ _ _ _ q=>gt_int q
theorem FP:f9 X (compareOp .GtE) (yP fun i j=>.bl (decide (j<=i))):=yQ fun _ _ _ _ _ _ _ q=>ge_int q
theorem ud:f9 X (compareOp .In) (fun x y H Q=>∃ i j,x=.str i/\y=.str j/\Q (.bl (!(Builtin.Str.occurrences j i 0 j.length 1).isEmpty)) H):=by
 intro pins s σ H x y v u Q I rx ry h;obtain⟨i,j,rfl,rfl,q⟩:=h;obtain⟨t,rfl⟩:=rx;obtain⟨t',rfl⟩:=ry;exact in_str (m8 I q rfl)
theorem vv:f9 X (compareOp .Is) (fun x y H Q=>y=.non/\Q (.bl (decide (x=.non))) H):=by
 intro pins s σ H x y v u Q I rx ry h;obtain⟨rfl,q⟩:=h;cases ry;refine is_none_gen (m8 I q ?_)
 cases x<;>first
  | (cases rx;rfl)
  | (obtain⟨t,rfl⟩:=rx;rfl)
theorem r_:f9 X (compareOp .IsNot) (fun x y H Q=>y=.non/\Q (.bl (!decide (x=.non))) H):=by
 intro pins s σ H x y v u Q I rx ry h;obtain⟨rfl,q⟩:=h;cases ry;refine isnot_none_gen (m8 I q ?_)
 cases x<;>first
  | (cases rx;rfl)
  | (obtain⟨t,rfl⟩:=rx;rfl)
theorem m9:f9 X (compareOp .NotIn) (fun x y H Q=>∃ i j,x=.str i/\y=.str j/\Q (.bl (!(!(Builtin.Str.occurrences j i 0 j.length 1).isEmpty))) H):=by
 intro pins s σ H x y v u Q I rx ry h;obtain⟨i,j,rfl,rfl,q⟩:=h;obtain⟨t,rfl⟩:=rx;obtain⟨t',rfl⟩:=ry;exact notIn_str (m8 I q rfl)
theorem f9.or{f:Value->Value->Sem Value}{r r':R2}(h:f9 X f r)(h':f9 X f r'):f9 X f (fun x y H Q=>r x y H Q\/r' x y H Q):=by
 intro pins s σ H x y v u Q I rx ry q;rcases q with q | q
 ·exact h pins s σ H x y v u Q I rx ry q
 ·exact h' pins s σ H x y v u Q I rx ry q
theorem iG{op:CmpOp}{r:R2}(ho:f9 X (compareOp op) r)(ha:PE X a ta)(hb:PE X b tb)(hm:behindInMarks op b=false):PE X (.Compare a [op] [b] pos) (E_ r ta tb):=by
 intro pins s σ H Q I h;exact wpAny_Compare1 (Ct ha hb I h fun v u s2 x y H2 I2 rx ry q=>ho pins s2 σ H2 x y v u Q I2 rx ry q) hm
noncomputable def vx(t:TE):TT:=fun σ H Q=>t σ H fun x H'=>∃ k,x=.bl k/\Q k H'
theorem iH{op:CmpOp}{r:R2}(ho:f9 X (compareOp op) r)(ha:PE X a ta)(hb:PE X b tb)(hm:behindInMarks op b=false):PT X (.Compare a [op] [b] pos) (vx (E_ r ta tb)):=by
 intro pins s σ H Q I h
 refine wpAny_isTrue_Compare1 (cz (ha pins s σ H _ I h) fun v s1 ⟨x,H1,I1,r1,q1⟩=>cz (hb pins s1 σ H1 _ I1 q1) fun u s2 ⟨y,H2,I2,r2,q2⟩=>
  cz (ho pins s2 σ H2 x y v u _ I2 r1 r2 q2) fun c s3 ⟨z,H3,I3,r3,k,e,q3⟩ => ?_) hm
 subst e;cases r3;exact wpAny_truthy_bool ⟨H3,I3,q3⟩
noncomputable def qF(r r':R2)(ta tb tc:TE):TE:=fun σ H Q=>ta σ H fun x H1=>tb σ H1 fun y H2=>r x y H2 fun z H3=>∃ k,z=.bl k /\
 (if k=true then tc σ H3 fun w' H4=>r' y w' H4 Q else Q (.bl false) H3)
theorem vy{op op':CmpOp}{r r':R2}(ho:f9 X (compareOp op) r)(ho':f9 X (compareOp op') r')(ha:PE X a ta)(hb:PE X b tb)(hc:PE X c tc)
  (hm:lastMarks [op,op'] [b,c]=false:=by with_unfolding_all rfl):PE X (.Compare a [op,op'] [b,c] pos) (qF r r' ta tb tc):=by
 intro pins s σ H Q I h
 refine Compare_chain (cz (ha pins s σ H _ I h) fun v s1 ⟨x,H1,I1,r1,q1⟩=>chain_link (cz (hb pins s1 σ H1 _ I1 q1) fun u s2 ⟨y,H2,I2,r2,q2⟩=>
  cz (ho pins s2 σ H2 x y v u _ I2 r1 r2 q2) fun d s3 ⟨z,H3,I3,r3,k,e,q3⟩ => ?_)) hm
 subst e;cases r3;refine wpAny_truthy_bool ?_;cases k with
 | false=>exact ite_ff ⟨.bl false,H3,I3,rfl,q3⟩
 | true=>exact ite_tt (chain_last (cz (hc pins s3 σ H3 _ I3 q3) fun w' s4 ⟨z',H4,I4,r4,q4⟩=>ho' pins s4 σ H4 y z' u w' Q I4 r2 r4 q4))
theorem vz{op op':CmpOp}{r r':R2}(ho:f9 X (compareOp op) r)(ho':f9 X (compareOp op') r')(ha:PE X a ta)(hb:PE X b tb)(hc:PE X c tc)
  (hm:lastMarks [op,op'] [b,c]=false:=by with_unfolding_all rfl):PT X (.Compare a [op,op'] [b,c] pos) (vx (qF r r' ta tb tc)):=by
 intro pins s σ H Q I h
 refine isTrue_chain (cz (ha pins s σ H _ I h) fun v s1 ⟨x,H1,I1,r1,q1⟩=>test_link (cz (hb pins s1 σ H1 _ I1 q1) fun u s2 ⟨y,H2,I2,r2,q2⟩=>
  cz (ho pins s2 σ H2 x y v u _ I2 r1 r2 q2) fun d s3 ⟨z,H3,I3,r3,k,e,q3⟩ => ?_)) hm
 subst e;cases r3;refine wpAny_truthy_bool ?_;cases k with
 | false=>
  obtain⟨k',e',q'⟩:=q3;cases e';exact ite_ff ⟨H3,I3,q'⟩
 | true=>
  refine ite_tt (test_last (cz (hc pins s3 σ H3 _ I3 q3) fun w' s4 ⟨z',H4,I4,r4,q4⟩=>cz (ho' pins s4 σ H4 y z' u w' _ I4 r2 r4 q4) fun d' s5 ⟨z2,H5,I5,r5,k2,e2,q5⟩ => ?_))
  subst e2;cases r5;exact wpAny_truthy_bool ⟨H5,I5,q5⟩
def oS(K:PySem.W.Frag)(x:V)(H:Hp)(k:Bool):Prop:=
 match x with
 | .non=>k=false
 | .bl b=>k=b
 | .int i=>k=(i != 0)
 | .str y=>y.length<=sizeLine/\k=((y.length:Int) != 0)
 | .E4 y=>y.size<=sizeLine/\k=((y.size:Int) != 0)
 | .ref p=>(∃ xs,ju K H p xs/\k = !xs.isEmpty)\/(∃ xs,f7 K H p xs/\k = !xs.isEmpty)\/∃ kvs,H p=some (.dK kvs)/\k = !kvs.isEmpty
 | _=>False
theorem qG{κ:Type}{kvs:List (κ×V)}{vs:List (κ×Value)}(r:KV kvs vs):(!vs.isEmpty) = !kvs.isEmpty:=by
 cases r<;>rfl
theorem ko{xs:List V}{its:List Value}(r:Vals xs its):(!its.toArray.isEmpty) = !xs.isEmpty:=by
 cases r<;>simp
theorem ir:(sizeLine:Nat) < 2 ^ 63:=by rw[sizeLine_eq];decide
theorem m_:Mf X (fun x H Q=>∃ k,oS X.K x H k/\Q k H):=by
 intro pins s σ H x v Q I rx h;obtain⟨k,e,q⟩:=h;have hl:=ir;have hs:sizeLine=16777216:=sizeLine_eq;cases x with
 | non=>
  cases rx;have e':k=false:=e;subst e';exact truthy_none ⟨H,I,q⟩
 | bl b=>
  cases rx;have e':k=b:=e;subst e';exact wpAny_truthy_bool ⟨H,I,q⟩
 | int i=>
  obtain⟨t,rfl⟩:=rx;have e':k=(i != 0):=e;subst e';exact PySem.P.truthy_int ⟨H,I,q⟩
 | str y=>
  obtain⟨t,rfl⟩:=rx;obtain⟨hy,e'⟩:y.length<=sizeLine/\k=((y.length:Int) != 0):=e;subst e';exact PySem.P.truthy_str (by omega) ⟨H,I.tok _,q⟩
 | E4 y=>
  obtain⟨t,rfl⟩:=rx;obtain⟨hy,e'⟩:y.size<=sizeLine/\k=((y.size:Int) != 0):=e;subst e';exact PySem.W.truthy_bytes (by omega) ⟨H,I.tok _,q⟩
 | ref p=>
  cases rx;have e':(∃ xs,ju X.K H p xs/\k = !xs.isEmpty)\/(∃ xs,f7 X.K H p xs/\k = !xs.isEmpty)\/∃ kvs,H p=some (.dK kvs)/\k = !kvs.isEmpty:=e;rcases e' with ⟨xs,hx,e'⟩ | ⟨xs,hx,e'⟩ | ⟨kvs,hx,e'⟩
  ·subst e'
   obtain⟨its,r,pl,hz⟩:=I.list hx;have hlen:=r.length;exact wpAny_truthy_list pl.isList (by simp only[List.size_toArray];omega) ⟨H,I.tok _,by rw[ko r];exact q⟩
  ·subst e'
   obtain⟨its,r,pl,hz⟩:=I.tuple hx;have hlen:=r.length;exact truthy_tuple pl (by simp only[List.size_toArray];omega) ⟨H,I.tok _,by rw[ko r];exact q⟩
  ·subst e'
   obtain⟨hz,hS,vs,r,m⟩:kvs.length<=sizeLine/\(p == sysModules)=false/\∃ vs,KV kvs vs/\s.heap.DictOf (cK X.prog X.w) p vs:=I.hok p _ hx;have hlen:kvs.length=vs.length:=Paired.length r;exact wpAny_truthy_dict hS m (by omega) ⟨H,I.tok _,by rw[qG r];exact q⟩
 | _=>exact(show False from e).elim
theorem vA(ha:PE X a ta)(he:∀ whole,isTrue a X.env whole=(do let v ← whole;standAt a.pos;holding [v] (truthy v))) :
  PT X a (fun σ H Q=>ta σ H fun x H'=>∃ k,oS X.K x H' k/\Q k H'):=by
 intro pins s σ H Q I h;exact isTrue_plain (cz (ha pins s σ H _ I h) fun v s1 ⟨x,H1,I1,r1,q1⟩=>m_ pins s1 σ H1 x v Q I1 r1 q1) (he _)
theorem qH:f9 X (binaryOp .Add) (fun x y H Q=>∃ i j,x=.str i/\y=.str j/\i.length + j.length<=sizeLine/\Q (.str (i++j)) H):=by
 intro pins s σ H x y v u Q I rx ry h;obtain⟨i,j,rfl,rfl,hz,q⟩:=h;obtain⟨t,rfl⟩:=rx;obtain⟨t',rfl⟩:=ry;exact add_str (fun t' tk=>⟨.str (i++j),H,I.tok _,⟨_,rfl⟩,q⟩) hz
theorem vals1{x:V}{us:List Value}(r:Vals [x] us):∃ u,us=[u]/\RelV x u:=by
 cases r with
 | cons r1 r2=>cases r2;exact⟨_,rfl,r1⟩
theorem vals2{x y:V}{us:List Value}(r:Vals [x,y] us):∃ u w',us=[u,w']/\RelV x u/\RelV y w':=by
 cases r with
 | cons r1 r2=>
  cases r2 with
  | cons r3 r4=>cases r4;exact⟨_,_,rfl,r1,r3⟩
theorem ue(hc:X.calm=true):eF X (.builtin "min") (fun xs H Q=>∃ i j,xs=[.int i,.int j]/\Q (.int (if j < i then j else i)) H):=by
 intro pins s σ H xs us Q I r h;obtain⟨i,j,rfl,q⟩:=h;obtain⟨u,w',rfl,⟨t,rfl⟩,⟨t',rfl⟩⟩:=vals2 r;refine min_two_ints (I.ok.hd hc) fun h' tk k=>⟨_,H,I.kept k,?_,q⟩
 by_cases hj:j < i
 ·rw[if_pos hj,if_pos hj];exact⟨_,rfl⟩
 ·rw[if_neg hj,if_neg hj];exact⟨_,rfl⟩
theorem uf:eF X (.type "int") (fun xs H Q=>(∃ i,xs=[.int i]/\Q (.int i) H)\/∃ k,xs=[.bl k]/\Q (.int (if k then 1 else 0)) H):=by
 intro pins s σ H xs us Q I r h;rcases h with ⟨i,rfl,q⟩ | ⟨k,rfl,q⟩
 ·obtain⟨u,rfl,t,rfl⟩:=vals1 r
  exact call_int_int ⟨.int i,H,I,⟨_,rfl⟩,q⟩
 ·obtain⟨u,rfl,r1⟩:=vals1 r
  cases r1;exact call_int_bool ⟨.int (if k then 1 else 0),H,I.tok _,⟨_,rfl⟩,q⟩
end
structure CB(h:Heap)(x dx C:Addr)(mA:Str->Option Value):Prop where
 obj:h.get? x=some (PySem.W.instObj C dx)
 ns:h.Ns1 dx mA
 ne:dx≠x
theorem i_{h:Heap}{dx:Addr}{mA:Str->Option Value}(n:h.Ns1 dx mA):∃ od,h.get? dx=some od/\∀ name,PySem.W.lookIn name od=some (mA name):=by
 obtain⟨o,es,ep,ho,hd,hk,_,hm⟩:=n;refine⟨o,ho,fun name => ?_⟩
 have e:=hm name;unfold nsFind findBy at e;rw[← Array.find?_toList]at e;unfold PySem.W.lookIn;rw[hd];dsimp only;split
 ·rename_i y q
  rw[q]at e;exact congrArg some e
 ·rename_i q
  rw[q]at e
  have a:es.toList.any (·.refKey)=false:=by
   rw[List.any_eq_false];intro y hy;obtain⟨z,t,hkey⟩:=hk y (Array.mem_toList_iff.mp hy);simp[DictEntry.refKey,hkey]
  have a':¬ es.toList.any (·.refKey)=true:=by rw[a];exact Bool.false_ne_true
  rw[if_neg a'];exact congrArg some e
theorem CB.look{h:Heap}{x dx C:Addr}{mA:Str->Option Value}(I:CB h x dx C mA):∃ od,PySem.W.InstAt h x (PySem.W.instObj C dx) C (some od)/\∀ name,PySem.W.lookIn name od=some (mA name):=
 let ⟨od,ho,hl⟩:=i_ I.ns
 ⟨od,⟨I.obj,rfl,rfl,ho⟩,hl⟩
section
variable{prog:Program}{w:World}{A:Around}{E:Value->Shared->Prop}{s:Shared}{K:PySem.W.Frag}{x dx C f:Addr}{mA:Str->Option Value}{name:Str}{v:Value}
end
theorem mY.some_of{v:V}{o:Option Value}(r:mY (some v) o):∃ u,o=some u/\RelV v u:=by
 cases o with
 | none=>exact(show False from r).elim
 | some u=>exact⟨u,rfl,r⟩
theorem ug{v:V}{u:Value}(r:RelV v u):PySem.W.handedIn u=true:=by
 cases v with
 | non=>cases (show u=Value.none from r);rfl
 | bl b=>cases (show u=Value.bool b from r);rfl
 | int i=>obtain⟨t,e⟩:=(show ∃ t,u=Value.int i t from r);cases e;rfl
 | str x=>obtain⟨t,e⟩:=(show ∃ t,u=Value.str x t from r);cases e;rfl
 | E4 b=>obtain⟨t,e⟩:=(show ∃ t,u=Value.bytes b t from r);cases e;rfl
 | flt b=>obtain⟨t,e⟩:=(show ∃ t,u=Value.float b t from r);cases e;rfl
 | ref a=>cases (show u=Value.ref a from r);rfl
 | ty n=>cases (show u=Value.type n from r);rfl
section
variable{P:Program}{w:World}{H H':Hp}{h h':Heap}{a C dx:Addr}{fs fs':List (Str×V)}
theorem yT(hok:jt P w H h)(e:H a=some (.ins C dx fs)):∃ mA,CB h a dx C mA/\(∀ f,mY (fs.lookup f) (mA f))/\PySem.Within mA (fs.map (·.1))/\fs.length<=1000/\H dx=some (.own a):=by
 obtain⟨d,z,ne,ob,mA,n,r,q⟩:=(show cL P w H h a (.ins C dx fs) from hok a _ e)
 exact⟨mA,⟨ob,n,ne⟩,r,q,z,d⟩
end
structure Fb(K:PySem.W.Frag)(C:Addr):Prop where
 pg:PySem.W.plainGet K C Str.empty=true
 hd:PySem.W.hasDictIn K C=true
 po:PySem.W.plainOver K C=true
 sa:PySem.W.findIn K (.ref C) "__setattr__"=some (some (.builtin "object.__setattr__"))
theorem Fb.get{K:PySem.W.Frag}{C:Addr}(c:Fb K C)(f:Str):PySem.W.plainGet K C f=true:=c.pg
def fN(K:PySem.W.Frag)(C:Addr)(f:Str):Prop:=PySem.W.findIn K (.ref C) f=some none
theorem fN.taker{K:PySem.W.Frag}{C:Addr}{f:Str}(n:fN K C f):PySem.W.takerIn K C f=some none:=by
 unfold PySem.W.takerIn;rw[show PySem.W.findIn K (.ref C) f=some none from n]
 rfl
structure Meth(K:PySem.W.Frag)(C:Addr)(m:Str)(f:Addr):Prop where
 at_:PySem.W.findIn K (.ref C) m=some (some (.ref f))
 fn:PySem.W.isFn K (.ref f)=true
 kp:PySem.W.keepIn K (.ref f)=true
section
variable{X:Cx}{pins:List (Addr×Obj)}{σ:St}{H:Hp}{s:Shared}{a C dx:Addr}{fs:List (Str×V)}{f:Str}{v:V}{A:Around}{E:Value->Shared->Prop}
theorem sd{prog:Program}{w:World}{env:Env}{e:Expr}{f:Str}{pos:Pos}{s:Shared}{Q:Value->Shared->Prop}(hb:attributeBase e f env (eval e env)=eval e env)
  (h:wpAny (model prog w) A (eval e env) (fun o s₁=>wpAny (model prog w) A (getAttr o f true) Q E s₁) E s):wpAny (model prog w) A (eval (.Attribute e f pos) env) Q E s:=
 Attribute_any_ h (by rw[arm_eval_Attribute,hb])
end
section
variable{X:Cx}{o e value:Expr}{f:Str}{pos pos' tpos:Pos}{ta tv:TE}
end
section
variable{X:Cx}{pins:List (Addr×Obj)}{σ:St}{H:Hp}{s:Shared}{A:Around}{E:Value->Shared->Prop}{Q:Value->Shared->Prop}{c:Value}{b:Bool}
inductive jJ (K:PySem.W.Frag) (H:Hp):V->Value->Prop where
 | non:jJ K H .non (.type "NoneType")
 | bl (x:Bool):jJ K H (.bl x) (.type "bool")
 | int (i:Int):jJ K H (.int i) (.type "int")
 | str (x:Str):jJ K H (.str x) (.type "str")
 | flt (x:UInt64):jJ K H (.flt x) (.type "float")
 | lst {a:Addr} {xs:List V} (e:H a=some (.lst xs)):jJ K H (.ref a) (.type "list")
 | jG {a:Addr} {o:Obj} {xs:List V} (e:H a=some (.jG o (.lst xs))):jJ K H (.ref a) (.type "list")
 | tup {a:Addr} {xs:List V} (e:H a=some (.tup xs)):jJ K H (.ref a) (.type "tuple")
 | dK {a:Addr} {kvs:List (Key×V)} (e:H a=some (.dK kvs)):jJ K H (.ref a) (.type "dict")
 | dT {a:Addr} {kvs:List (List Key×V)} (e:H a=some (.dT kvs)):jJ K H (.ref a) (.type "dict")
 | ins {a C dx:Addr} {fs:List (Str×V)} (e:H a=some (.ins C dx fs)) (cl:Fb K C) (ha:PySem.W.findIn K (.ref C) "__class__"=some (some (.builtin "object.__class__")))
   (hn:PySem.W.specialIn K (.builtin "object.__class__") "__get__"=some (some (.builtin "getset_descriptor.__get__"))) (htk:PySem.W.takesIn K (.builtin "object.__class__")=some true)
   (hm:PySem.W.mroIn K C (.type "object")=some true):jJ K H (.ref a) (.ref C)
theorem cJ{x:V}{u t:Value}(I:Inv X pins σ H s)(rx:RelV x u)(ty:jJ X.K H x t)(e:PySem.W.kitOne X.K t c=some b)(h:∀ tk,Q (.bool b) { s with toks:=tk }) :
  wpAny (model X.prog X.w) A (call (.builtin "isinstance") [u,c]) Q E s:=by
 cases ty with
 | non=>cases (show u=Value.none from rx);exact PySem.W.kia_one PySem.W.kitx_none I.gi True.intro e (fun z=>nomatch z) h
 | bl y=>cases (show u=Value.bool y from rx);exact PySem.W.kia_one PySem.W.kitx_bool I.gi True.intro e (fun z=>nomatch z) h
 | int i=>obtain⟨t,q⟩:=(show ∃ t,u=Value.int i t from rx);cases q;exact PySem.W.kia_one PySem.W.kitx_int I.gi True.intro e (fun z=>nomatch z) h
 | str y=>obtain⟨t,q⟩:=(show ∃ t,u=Value.str y t from rx);cases q;exact PySem.W.kia_one PySem.W.kitx_str I.gi True.intro e (fun z=>nomatch z) h
 | flt y=>obtain⟨t,q⟩:=(show ∃ t,u=Value.float y t from rx);cases q;exact PySem.W.kia_one PySem.W.kitx_float I.gi True.intro e (fun z=>nomatch z) h
 | @lst a xs ea=>
  cases (show u=Value.ref a from rx)
  obtain⟨_,_,n,_,h1⟩:=(show cL X.prog X.w H s.heap a (.lst xs) from I.hok a _ ea)
  exact PySem.W.kia_one PySem.W.kitx_list I.gi ⟨_,h1,rfl⟩ e (fun z=>nomatch z) h
 | @jG a ob xs ea=>
  cases (show u=Value.ref a from rx)
  obtain⟨_,_,_,n,_,h1⟩:=(show cL X.prog X.w H s.heap a (.jG ob (.lst xs)) from I.hok a _ ea)
  exact PySem.W.kia_one PySem.W.kitx_list I.gi ⟨_,h1,rfl⟩ e (fun z=>nomatch z) h
 | @tup a xs ea=>
  cases (show u=Value.ref a from rx)
  obtain⟨_,_,_,p⟩:=(show cL X.prog X.w H s.heap a (.tup xs) from I.hok a _ ea)
  obtain⟨o,h1,h2,_⟩:=p;exact PySem.W.kia_one PySem.W.kitx_tuple I.gi ⟨o,h1,h2⟩ e (fun z=>nomatch z) h
 | @dK a kvs ea=>
  cases (show u=Value.ref a from rx)
  obtain⟨_,_,vs,_,p⟩:=(show cL X.prog X.w H s.heap a (.dK kvs) from I.hok a _ ea)
  obtain⟨o,es,ep,h1,h2,_⟩:=p;exact PySem.W.kia_one PySem.W.kitx_dict I.gi ⟨o,h1,h2.1⟩ e (fun z=>nomatch z) h
 | @dT a kvs ea=>
  cases (show u=Value.ref a from rx)
  obtain⟨_,_,xs,_,o,es,ep,h1,h2,_⟩:=(show cL X.prog X.w H s.heap a (.dT kvs) from I.hok a _ ea)
  exact PySem.W.kia_one PySem.W.kitx_dict I.gi ⟨o,h1,h2.1⟩ e (fun z=>nomatch z) h
 | @ins a C dx fs ea cl ha hn htk hm=>
  cases (show u=Value.ref a from rx)
  obtain⟨mA,O,_⟩:=yT I.hok ea;obtain⟨od,J,_⟩:=O.look;exact PySem.W.kia_one (PySem.W.kitx_own (cl.get _) cl.hd ha hn htk hm) I.gi J e (fun z=>nomatch z) h
end
structure bY(k:Nat)(A:Around):Prop where
 hd:A.handled=none
 dp:A.depth + 3 * k + 5 < recursionLimit
 un:A.units + 16 * k + 200 < cLine
theorem bY.mono{j k:Nat}{A:Around}(r:bY k A)(h:j<=k):bY j A:=⟨r.hd,by have:=r.dp;omega,by have:=r.un;omega⟩
theorem bY.deeper{k:Nat}{A:Around}(r:bY (k + 1) A)(env:Env):bY k (A.deeper env):=
 ⟨r.hd,by have:=r.dp;show A.depth + 1 + 3 * k + 5 < _;omega,by have:=r.un;show A.units + 3 + 16 * k + 200 < _;omega⟩
theorem bY.in1{k:Nat}{A:Around}(r:bY (k + 1) A):bY k A.in1:=
 ⟨r.hd,by have:=r.dp;show A.depth + 3 * k + 5 < _;omega,by have:=r.un;show A.units + 1 + 16 * k + 200 < _;omega⟩
theorem qI{A:Around}{C:Addr}{us:List Value}{kw:List (Str×Value)}:(A.under (.builtin "type.__call__" ⟨.ref C::us,kw⟩)).depth=A.depth + 1:=by
 first | rfl | simp[Around.under,Code.weight,Code.isCreation,Code.isGuard,Code.isCaller,Code.frames,Code.isFrame,guardIds]
theorem qJ{A:Around}{C:Addr}{us:List Value}{kw:List (Str×Value)}:(A.under (.builtin "type.__call__" ⟨.ref C::us,kw⟩)).units=A.units + 1:=by
 first | rfl | simp[Around.under,Code.cUnits,Code.frames,Code.isFrame]
theorem bY.make{k:Nat}{A:Around}(r:bY (k + 1) A)(C:Addr)(us:List Value)(kw:List (Str×Value)):bY k (A.under (.builtin "type.__call__" ⟨.ref C::us,kw⟩)):=
 ⟨r.hd,by have:=r.dp;rw[qI];omega,by have:=r.un;rw[qJ];omega⟩
theorem bY.depth{k:Nat}{A:Around}(r:bY k A):A.depth < recursionLimit:=by have:=r.dp;omega
theorem bY.units{k:Nat}{A:Around}(r:bY k A):A.units + 64 < cLine:=by have:=r.un;omega
noncomputable def FQ:TA:=fun _ H Q=>Q [] H
noncomputable def FR(ta:TE)(tr:TA):TA:=fun σ H Q=>ta σ H fun x H1=>tr σ H1 fun xs H2=>Q (x::xs) H2
section
variable{X:Cx}{e:Expr}{es:List Expr}{te:TE}{t:TA}{pos:Pos}
theorem iu:PA X [] FQ:=fun _ _ _ _ H Q I h=>Calls.spliced_nil ⟨[],H,I,.nil,h⟩
theorem c9(ha:PE X e te)(hr:PA X es t)(hs:starEach (e::es) X.env=(false,eval e X.env)::starEach es X.env:=by rfl):PA X (e::es) (FR te t):=by
 intro pos pins s σ H Q I h;rw[hs]
 show wpAny _ _ (spliced ((false,eval e X.env)::backTo pos (starEach es X.env))) _ _ s
 refine Calls.spliced_cons (cz (ha pins s σ H _ I h) fun u s1 ⟨x,H1,I1,r1,q1⟩ => ?_)
 exact cz (hr pos pins s1 σ H1 _ I1 q1) fun us s2 ⟨xs,H2,I2,r2,q2⟩=>⟨x::xs,H2,I2,.cons r1 r2,q2⟩
def Mh(t:TA):TE:=fun σ H Q=>t σ H fun xs H1=>xs.length<=sizeLine/\∀ p,H1 p=none->Q (.ref p) (upd H1 p (.tup xs))
def Mi(t:TA):TE:=fun σ H Q=>t σ H fun xs H1=>xs.length<=sizeLine/\∀ p,H1 p=none->Q (.ref p) (upd H1 p (.lst xs))
theorem vB{x1}(h:PA X es t):PE X (.Tuple es x1 pos) (Mh t):=by
 intro pins s σ H Q I hq;refine wpAny_Tuple_spliced (cz (h pos pins s σ H _ I hq) fun us s1 ⟨xs,H1,I1,r,z,q⟩=>⟨by rw[← r.length];exact z,?_⟩)
 have hf:H1 s1.heap.objs.size=none:=I1.hok.fresh (Nat.le_refl _);refine⟨.ref s1.heap.objs.size,upd H1 s1.heap.objs.size (.tup xs),I1.laid (t':=s1.toks) (fun b u e=>Heap.get?_push_of_some _ e) (Nat.le_refl _) ?_,rfl,q _ hf⟩
 exact⟨z,us,r,⟨_,Heap.get?_push_size _ rfl,rfl,_,rfl⟩⟩
theorem CC(h:PA X es t):PE X (.List es pos) (Mi t):=by
 intro pins s σ H Q I hq;refine wpAny_List_spliced (cz (h pos pins s σ H _ I hq) fun us s1 ⟨xs,H1,I1,r,z,q⟩=>⟨by rw[← r.length];exact z,?_⟩)
 have hf:H1 s1.heap.objs.size=none:=I1.hok.fresh (Nat.le_refl _);refine⟨.ref s1.heap.objs.size,upd H1 s1.heap.objs.size (.lst xs),I1.laid (t':=s1.toks) (fun b u e=>Heap.get?_push_of_some _ e) (Nat.le_refl _) ?_,rfl,q _ hf⟩
 exact⟨z,us,0,r,Heap.get?_push_size _ rfl⟩
end
abbrev Sp:=List V->Hp->VK->XK->Prop
abbrev sg:=List Env->Hp->Shared->XK->Value->Shared->Prop
structure oU(P:Program)(w:World)(K:PySem.W.Frag)(mg:Str->Option Value)(base:Heap)(A:Around)(outer:List Env)(s:Shared)(H:Hp):Prop where
 frames:A.frames=some outer
 mod:Mod K mg base
 bs:∀ b o,base.get? b=some o->s.heap.get? b=some o/\H b=none
 t9:base.objs.size<=s.heap.objs.size
 gh:s.heap.FunFrames base outer
 vh:∀ b∈frs outer,H b=none
 hok:jt P w H s.heap
 bare:AllBare s.gens
def CE(outer:List Env)(P:Program)(w:World)(H:Hp)(s:Shared)(Q:VK)(u:Value)(s':Shared):Prop:=
 ∃ v H',s'.os=s.os/\AllBare s'.gens/\Un (frs outer) [] H H' s.heap s'.heap/\jt P w H' s'.heap/\RelV v u/\Q v H'
def CR(CX:sg)(outer:List Env)(P:Program)(w:World)(H:Hp)(s:Shared)(Q:VK)(E:XK)(r:Result)(s':Shared):Prop:=
 match r with
 | .ok (.ret u)=>CE outer P w H s Q u s'
 | .ok _=>False
 | .error e=>CX outer H s E e s'
structure cp(P:Program)(w:World)(K:PySem.W.Frag)(mg:Str->Option Value)(base:Heap)(CX:sg)(k:Nat)(f:Addr)(fd:FuncData)(ps:List Str)(sp:Sp):Prop where
 len:∀ vs H Q E,sp vs H Q E->vs.length=ps.length
 run:∀ (A:Around) (outer:List Env) (s:Shared) (H:Hp) (args:Args) (us:List Value) (vs:List V) (Q:VK) (E:XK),bY k A->oU P w K mg base A outer s H->BindsTo s fd args (ps.zip us)->Vals vs us->sp vs H Q E ->
  codeAny (model P w) A (.call (.ref f) args) (CR CX outer P w H s Q E) s
theorem cp.mono{P:Program}{w:World}{K:PySem.W.Frag}{mg:Str->Option Value}{base:Heap}{CX:sg}{j k:Nat}{f:Addr}{fd:FuncData}{ps:List Str}{sp:Sp}(F:cp P w K mg base CX j f fd ps sp)(h:j<=k) :
  cp P w K mg base CX k f fd ps sp:=⟨F.len,fun A outer s H args us vs Q E hr=>F.run A outer s H args us vs Q E (hr.mono h)⟩
theorem cp.imp{P:Program}{w:World}{K:PySem.W.Frag}{mg:Str->Option Value}{base:Heap}{CX:sg}{k:Nat}{f:Addr}{fd:FuncData}{ps:List Str}{sp Qb:Sp}(F:cp P w K mg base CX k f fd ps sp)
  (h:∀ vs H Q E,Qb vs H Q E->sp vs H Q E):cp P w K mg base CX k f fd ps Qb:=
 ⟨fun vs H Q E q=>F.len vs H Q E (h _ _ _ _ q),fun A outer s H args us vs Q E hr he hb hv hs=>F.run A outer s H args us vs Q E hr he hb hv (h _ _ _ _ hs)⟩
theorem oU.make{P:Program}{w:World}{K:PySem.W.Frag}{mg:Str->Option Value}{base:Heap}{A:Around}{outer:List Env}{s:Shared}{H:Hp}(e:oU P w K mg base A outer s H)(C:Addr)(us:List Value)(kw:List (Str×Value)) :
  oU P w K mg base (A.under (.builtin "type.__call__" ⟨.ref C::us,kw⟩)) outer s H:=⟨by first | exact e.frames | (simpa[Around.under,Code.envs,Code.isFrame,pushEnvs] using e.frames),e.mod,e.bs,e.t9,e.gh,e.vh,e.hok,e.bare⟩
section
variable{X:Cx}{pins:List (Addr×Obj)}{σ:St}{H:Hp}{s s':Shared}
theorem Inv.env0(I:Inv X pins σ H s):oU X.prog X.w X.K X.mg X.base X.A X.stack s H:=
 ⟨I.ok.frames,I.ok.mod,I.bs,Nat.le_trans I.ok.t9 I.sz,I.stack,I.jR,I.hok,I.bare⟩
theorem Inv.after{Q:VK}{u:Value}(I:Inv X pins σ H s)(h:CE X.stack X.prog X.w H s Q u s'):EP X pins σ Q u s':=by
 obtain⟨v,H',os,bare,un,hok,r,q⟩:=h;obtain⟨hh,g,d,t,os'⟩:=s';obtain rfl:os'=s.os:=os;exact⟨v,H',I.call (h':=hh) (g':=g) (d':=d) (t':=t) (ch:=[]) un hok bare (fun b z=>absurd z (by simp)),r,q⟩
end
noncomputable def Bu(sp:Sp)(sh:List V)(E:XK)(t:TA):TE:=fun σ H Q=>t σ H fun vs H1=>sp (vs++sh) H1 Q E
def Binds(K:PySem.W.Frag)(fd:FuncData)(ps:List Str)(ds:List Value):Prop:=
 ∀ (s:Shared) (us:List Value),K.In s.heap->(us++ds).length=ps.length->BindsTo s fd ⟨us,[]⟩ (ps.zip (us++ds))
theorem Binds.all{K:PySem.W.Frag}{fd:FuncData}{ps:List Str}(h:∀ us:List Value,us.length=ps.length->bindArgs fd ⟨us,[]⟩=pure (ps.zip us)):Binds K fd ps []:=fun s us _ hl=>by
 rw[List.append_nil]at hl ⊢;exact .of_eq (h us hl)
def Passes(CX:sg)(X:Cx)(E:XK):Prop:=∀ (pins:List (Addr×Obj)) (σ:St) (H:Hp) (s:Shared) (e:Value) (s':Shared),Inv X pins σ H s->CX X.stack H s E e s'->X.xe e s'
section
variable{X:Cx}{CX:sg}{k:Nat}{f C:Addr}{fd:FuncData}{ps:List Str}{sp:Sp}{sh:List V}{ds:List Value}{E:XK}{x m:Str}{p pos apos:Pos}{e o:Expr}{es:List Expr}{ta:TE}{t:TA}
theorem vC{pins:List (Addr×Obj)}{σ:St}{H:Hp}{s:Shared}{Q:VK}{us:List Value}{vs:List V}(F:cp X.prog X.w X.K X.mg X.base CX k f fd ps sp)(hr:bY k X.A)(hb:Binds X.K fd ps ds)(hd:Vals sh ds)(hx:Passes CX X E)
  (I:Inv X pins σ H s) (r:Vals vs us) (h:sp (vs++sh) H Q E):wpAny (model X.prog X.w) X.A (call (.ref f) us) (EP X pins σ Q) X.xe s:=by
 have r2:Vals (vs++sh) (us++ds):=r.append hd;have hl:(us++ds).length=ps.length:=by rw[← r2.length];exact F.len _ _ _ _ h
 refine wpAny_call (codeAny_mono (F.run X.A X.stack s H ⟨us,[]⟩ (us++ds) (vs++sh) Q E hr I.env0 (hb s us I.gi hl) r2 h) fun r s' hq => ?_)
 cases r with
 | error e=>exact hx pins σ H s e s' I hq
 | ok fl=>
  cases fl with
  | ret u=>exact I.after hq
  | next=>exact False.elim hq
  | brk=>exact False.elim hq
  | cont=>exact False.elim hq
theorem jT(F:cp X.prog X.w X.K X.mg X.base CX k f fd ps sp)(hr:bY k X.A)(hg:Gl X x)(hm:X.mg x=some (.ref f))(hk:PySem.W.keepIn X.K (.ref f)=true)(hb:Binds X.K fd ps ds)(hd:Vals sh ds)(hx:Passes CX X E)
  (ha:PA X (e::es) t) (hdb:(x == ("__debug__":Str))=false:=by decide) (he:starEach (e::es) X.env=(false,eval e X.env)::starEach es X.env:=by rfl) (hpl:(backTo pos (starEach es X.env)).any (·.1)=false:=by rfl) :
  PE X (.Call (.Name x p) (e::es) [] pos) (Bu sp sh E t):=by
 intro pins s σ H Q I h;refine wpAny_Call_Name_kw (gT I hg hm ?_ hdb);refine PySem.W.callWith_K (h₀:=X.base) I.ok.mod.E5 hk (cz (ha pos pins s σ H _ I h) fun us s1 ⟨vs,H1,I1,r,q⟩=>⟨I1.gi,?_⟩) he hpl
 exact vC F hr hb hd hx I1 r q
theorem vD(F:cp X.prog X.w X.K X.mg X.base CX k f fd ps sp)(hr:bY k X.A)(hg:Gl X x)(hm:X.mg x=some (.ref f))(hk:PySem.W.keepIn X.K (.ref f)=true)(hb:Binds X.K fd ps ds)(hd:Vals sh ds)(hx:Passes CX X E)
  (hdb:(x == ("__debug__":Str))=false:=by decide):PE X (.Call (.Name x p) [] [] pos) (Bu sp sh E FQ):=by
 intro pins s σ H Q I h;refine wpAny_Call_Name_kw (gT I hg hm ?_ hdb);exact PySem.W.callWith_K0 I.gi hk (vC (us:=[]) F hr hb hd hx I .nil h)
structure Mk(K:PySem.W.Frag)(C f:Addr):Prop where
 makes:PySem.W.makesIn K C=true
 init:PySem.W.findIn K (.ref C) "__init__"=some (some (.ref f))
 fn:PySem.W.isFn K (.ref f)=true
 kp:PySem.W.keepIn K (.ref C)=true
end
section
variable{X:Cx}{CX:sg}{k:Nat}{f C:Addr}{fd:FuncData}{ps ks:List Str}{sp:Sp}{E:XK}{x m:Str}{p pos apos Sa:Pos}{e o:Expr}{es:List Expr}{kws:List Keyword}{te ta:TE}{t tk:TA}{nm:Option Str}
variable{g:List Value->List Value->List Value}{gV:List V->List V->List V}
end
structure fO(N P:List Str)(sc:Scope):Prop where
 kind:sc.kind=.function
 co:sc.isCoroutine=false
 gen:sc.isGenerator=false
 nd:N.Nodup
 pre:N.take P.length=P
 par:∀ x∈P,sc.names.lookup x=some .local\/sc.names.lookup x=some .cell
 CD:∀ y∈sc.names,y.2≠.free
theorem mj{kindOf:Str->Option NameKind}{x:Str}:∀ {binds:List (Str×Value)} {m:Str->Option Value},(∀ v,(x,v)∉binds)->bindL kindOf binds m x=m x
 | [],_,_=>rfl
 | (n,v)::r,m,h=>by
  unfold bindL;rw[mj fun w hw=>h w (List.mem_cons_of_mem _ hw)]
  split
  ·have:x≠n:=by rintro rfl;exact h v List.mem_cons_self
   simp[this]
  ·rfl
theorem mn{kindOf:Str->Option NameKind}{x:Str}:∀ {binds:List (Str×Value)} {m:Str->Option Value},(∀ v,(x,v)∉binds)->bindC kindOf binds m x=m x
 | [],_,_=>rfl
 | (n,v)::r,m,h=>by
  unfold bindC;rw[mn fun w hw=>h w (List.mem_cons_of_mem _ hw)]
  split
  ·rfl
  ·have:x≠n:=by rintro rfl;exact h v List.mem_cons_self
   simp[this]
theorem mq{kindOf:Str->Option NameKind}{x:Str}{v:Value}:∀ {P:List Str} {vs:List Value} {i:Nat} {m:Str->Option Value},P.Nodup->P[i]?=some x->vs[i]?=some v->kindOf x=some .local ->
  bindL kindOf (P.zip vs) m x=some v
 | [],_,_,_,_,h,_,_=>by simp at h
 | _::_,[],_,_,_,_,h,_=>by simp at h
 | p::P,w::vs,0,m,nd,h1,h2,hk=>by
  simp at h1 h2;subst h1;subst h2
  show bindL kindOf ((p,w)::P.zip vs) m p=_
  unfold bindL;rw[mj fun v hv=>(List.nodup_cons.mp nd).1 (List.of_mem_zip hv).1,if_pos hk]
  simp
 | p::P,w::vs,i + 1,m,nd,h1,h2,hk=>by
  show bindL kindOf ((p,w)::P.zip vs) m x=_
  unfold bindL;exact mq (i:=i) (List.nodup_cons.mp nd).2 (by simpa using h1) (by simpa using h2) hk
theorem mr{kindOf:Str->Option NameKind}{x:Str}{v:Value}:∀ {P:List Str} {vs:List Value} {i:Nat} {m:Str->Option Value},P.Nodup->P[i]?=some x->vs[i]?=some v->kindOf x≠some .local ->
  bindC kindOf (P.zip vs) m x=some v
 | [],_,_,_,_,h,_,_=>by simp at h
 | _::_,[],_,_,_,_,h,_=>by simp at h
 | p::P,w::vs,0,m,nd,h1,h2,hk=>by
  simp at h1 h2;subst h1;subst h2
  show bindC kindOf ((p,w)::P.zip vs) m p=_
  unfold bindC;rw[mn fun v hv=>(List.nodup_cons.mp nd).1 (List.of_mem_zip hv).1,if_neg hk]
  simp
 | p::P,w::vs,i + 1,m,nd,h1,h2,hk=>by
  show bindC kindOf ((p,w)::P.zip vs) m x=_
  unfold bindC;exact mr (i:=i) (List.nodup_cons.mp nd).2 (by simpa using h1) (by simpa using h2) hk
noncomputable def start(N:List Str)(vs:List V):St:=vs.map some++List.replicate (N.length - vs.length) none
noncomputable def cx(CX:sg)(P:Program)(w:World)(K:PySem.W.Frag)(mg:Str->Option Value)(base:Heap)(N:List Str)(qual:Str)(scope:Scope)(f:Addr)(cd:Value)(A:Around)(outer:List Env)(s:Shared)(H:Hp)(E:XK):Cx where
 prog:=P
 w:=w
 K:=K
 mg:=mg
 base:=base
 A:=A.deeper (envOfC qual scope s.heap.objs.size f cd)
 N:=N
 s₀:=s
 H₀:=H
 env:=envOfC qual scope s.heap.objs.size f cd
 outer:=outer
 stack:=envOfC qual scope s.heap.objs.size f cd::outer
 ex:=[]
 calm:=true
 fn:=fun _=>true
 pn:=[]
 xe:=fun e s'=>wpAny (model P w) (A.deeper (envOfC qual scope s.heap.objs.size f cd)) (leaving (envOfC qual scope s.heap.objs.size f cd) e) (fun _ s''=>CX outer H s E e s'') (fun e' s''=>CX outer H s E e' s'') s'
theorem oV{sc:Scope}{n:Nat}{x:Str}(h:sc.names.lookup x=some .cell):∃ c,(cellsFrom n sc.names []).lookup x=some c:=by
 have q:=PySem.W.cellsFrom_some sc.names n [] (.inl h);exact Option.isSome_iff_exists.mp q
theorem ja{CX:sg}{P:Program}{w:World}{K:PySem.W.Frag}{mg:Str->Option Value}{base:Heap}{N ps:List Str}{qual:Str}{scope:Scope}{f:Addr}{cd:Value}{A:Around}{outer:List Env}{s s1:Shared}{H:Hp}{E:XK}{us:List Value}{vs:List V}
  (S:fO N ps scope) (hd:A.handled=none) (e0:oU P w K mg base A outer s H) (hl:vs.length=ps.length) (r:Vals vs us)
  (x:InCallC s s.heap.objs.size (bindL (envOfC qual scope s.heap.objs.size f cd).kindOf (ps.zip us) fun _=>none) (cellsFrom (s.heap.objs.size + 1) scope.names []) (bindC (envOfC qual scope s.heap.objs.size f cd).kindOf (ps.zip us) fun _=>none) s1) :
  Inv (cx CX P w K mg base N qual scope f cd A outer s H E) [] (start N vs) H s1:=by
 have hpl:ps.length<=N.length:=by have:=congrArg List.length S.pre;rw[List.length_take]at this;omega
 obtain⟨h1,tk,rfl,hk⟩:=x.done;have FT:∀ b:Addr,b∉(cx CX P w K mg base N qual scope f cd A outer s H E).ex:=fun b z=>absurd (show b∈([]:List Addr) from z) (by simp)
 refine⟨⟨e0.mod,S.kind,rfl,rfl,Nat.le_refl _,fun y z c h1 h2 => ?_,fun y hy => ?_,fun y c _ h => ?_,fun _=>hd,Around.frames_deeper e0.frames,.inr ⟨rfl,rfl⟩,fun b z=>absurd z (FT b),e0.bs,e0.t9,fun b _ _=>FT b,fun b z=>absurd z (FT b),e0.gh,e0.vh⟩,
  rfl,e0.bare,Un.kept hk,⟨_,x.toInCall.ns,fun i y v h1 h2 h3 => ?_⟩,fun y c h=>⟨_,x.cell y c h⟩,e0.hok.fresh (Nat.le_refl _),fun y c h => ?_,fun p hp=>absurd (show p∈([]:List (Addr×Obj)) from hp) (by simp),e0.hok.kept hk,?_⟩
 ·exact name_of_addr x.apart (PySem.mem_of_lookup h1) (PySem.mem_of_lookup h2)
 ·have hy:scope.names.lookup y=some .cell\/scope.names.lookup y=some .free:=hy
  rcases hy with hy | hy
  ·exact oV hy
  ·exact absurd rfl (S.CD _ (PySem.mem_of_lookup hy))
 ·exact Nat.le_of_lt (x.above y c (PySem.mem_of_lookup h))
 ·have hi:i < vs.length:=by
   unfold start at h2
   by_cases hi:i < vs.length
   ·exact hi
   ·rw[List.getElem?_append_right (by simpa using hi)]at h2
    rw[List.getElem?_replicate]at h2;split at h2<;>cases h2
  have ha:vs[i]?=some v:=by
   unfold start at h2;rw[List.getElem?_append_left (by simpa using hi),List.getElem?_map]at h2
   cases e:vs[i]? with
   | none=>rw[e]at h2;cases h2
   | some a=>rw[e]at h2;cases h2;rfl
  obtain⟨u,hu,rv⟩:=r.get ha
  have hp:ps[i]?=some y:=by
   rw[← S.pre,List.getElem?_take_of_lt (by omega)];exact h1
  have Qc:ps.Nodup:=by rw[← S.pre];exact S.nd.sublist (List.take_sublist _ _)
  refine⟨u,rv,?_⟩;rcases S.par y (List.mem_of_getElem? hp) with k | k
  ·exact .inl ⟨k,mq Qc hp hu k⟩
  ·obtain⟨c,e⟩:=oV (n:=s.heap.objs.size + 1) k
   refine .inr ⟨.inl k,c,e,?_⟩;have q:=x.cell y c e;rw[mr Qc hp hu (by show scope.names.lookup y≠_;rw[k];decide)]at q
   exact q
 ·have hz:=e0.hok.fresh (Nat.le_of_lt (x.above y c (PySem.mem_of_lookup h)))
  exact⟨.inl hz,fun _=>hz⟩
 ·unfold start
  show _=N.length
  rw[List.length_append,List.length_map,List.length_replicate];omega
theorem vE{CX:sg}{P:Program}{w:World}{K:PySem.W.Frag}{mg:Str->Option Value}{base:Heap}{k:Nat}{f:Addr}{name qual:Str}{params:Arguments}{body:List Stmt}{scope:Scope}{dV kV doc pm cdv ct oc:Value}{an od:Option Addr}
  {osl:Array (Option Value)} {N ps:List Str} {sp:Sp} (lk:K.lookup f=some ⟨oc,od,.func (PySem.W.fnOf name qual params body scope dV kV doc pm an cdv ct),osl⟩) (hcd:PySem.W.codeIn K cdv qual=true) (S:fO N ps scope)
  (len:∀ vs H Q E,sp vs H Q E->vs.length=ps.length)
  (hbody:∀ (A:Around) (outer:List Env) (s:Shared) (H:Hp) (vs:List V) (Q:VK) (E:XK),bY k (A.deeper (envOfC qual scope s.heap.objs.size f cdv))->sp vs H Q E ->
   ∃ t,iE (cx CX P w K mg base N qual scope f cdv A outer s H E) body t/\t { nx:=fun _ H'=>Q .non H',rt:=Q } (start N vs) H) :
  cp P w K mg base CX (k + 1) f (PySem.W.fnOf name qual params body scope dV kV doc pm an cdv ct) ps sp:=by
 refine⟨len,fun A outer s H args us vs Q E hr e0 hb r hsp => ?_⟩
 have hl:=len _ _ _ _ hsp;have KX:K.In s.heap:=e0.mod.E5.keeps fun b o e=>(e0.bs b o e).1
 have lim:s.heap.NoLimit:=e0.mod.nolimit.keeps fun b o e=>(e0.bs b o e).1
 have hkind:∀ y∈ps.zip us,scope.names.lookup y.1=some .local\/(scope.names.lookup y.1=some .cell/\((cellsFrom (s.heap.objs.size + 1) scope.names []).lookup y.1).isSome=true):=fun ⟨n,v⟩ hy=>by
  rcases S.par n (List.of_mem_zip hy).1 with q | q
  ·exact .inl q
  ·exact .inr ⟨q,PySem.W.cellsFrom_some _ _ _ (.inl q)⟩
 refine codeAny_call_function hr.depth (KX _ _ lk) rfl S.co S.gen rfl (PySem.W.codeRec_of KX hcd) (hb _ _ _ _ ?_);refine wpAny_newFunctionEnv_cells S.kind hkind fun env he s1 x => ?_
 subst he;refine⟨lim.keeps x.toInCall.keep,codeAny_func ?_⟩;obtain⟨t,ht,hq⟩:=hbody A outer s H vs Q E (hr.deeper _) hsp;have I:Inv (cx CX P w K mg base N qual scope f cdv A outer s H E) [] (start N vs) H s1:=ja S hr.hd e0 hl r x;refine wpAny_mono (ht [] s1 (start N vs) H _ I hq) (fun fl s' hs => ?_) fun e s' hs=>hs
 have fin:∀ {σ':St} {H':Hp} {v:V} {u:Value},Inv (cx CX P w K mg base N qual scope f cdv A outer s H E) [] σ' H' s'->RelV v u->Q v H'->CE outer P w H s Q u s':=
  fun {σ' H' v u} J rv q=>⟨v,H',J.os,J.bare,J.base,J.hok,rv,q⟩
 cases fl with
 | ret u=>
  obtain⟨v,σ',H',J,rv,q⟩:=hs;exact fin J rv q
 | next=>
  obtain⟨σ',H',J,q⟩:=hs;exact fin (v:=V.non) (u:=Value.none) J rfl q
 | brk=>
  obtain⟨_,_,_,q⟩:=hs;exact False.elim q
 | cont=>
  obtain⟨_,_,_,q⟩:=hs;exact False.elim q
section
variable{X:Cx}{x:Str}{p pos:Pos}{e:Expr}{es:List Expr}{t:TA}{id T:String}{r:List V->Hp->VK->Prop}
noncomputable def Qd(r:List V->Hp->VK->Prop)(t:TA):TE:=fun σ H Q=>t σ H fun vs H1=>r vs H1 Q
theorem kq(hc:eF X (.builtin id) r)(hg:Gl X x)(hm:X.mg x=none)(hv:bootBuiltins x=some (.builtin id))(ha:PA X (e::es) t)(hn:x≠"__name__":=by decide)(hdb:(x == ("__debug__":Str))=false:=by decide)
  (he:starEach (e::es) X.env=(false,eval e X.env)::starEach es X.env:=by rfl) (hpl:(backTo pos (starEach es X.env)).any (·.1)=false:=by rfl):PE X (.Call (.Name x p) (e::es) [] pos) (Qd r t):=by
 intro pins s σ H Q I h;refine wpAny_Call_Name_kw (fL I hg hm hv ?_ hn hdb);exact PyProof.Rows.callWith_builtin1 (cz (ha pos pins s σ H _ I h) fun us s1 ⟨vs,H1,I1,r1,q1⟩=>hc pins s1 σ H1 vs us Q I1 r1 q1) he hpl
theorem uh(hc:eF X (.type T) r)(hg:Gl X x)(hm:X.mg x=none)(hv:bootBuiltins x=some (.type T))(ha:PA X (e::es) t)(hn:x≠"__name__":=by decide)(hdb:(x == ("__debug__":Str))=false:=by decide)
  (he:starEach (e::es) X.env=(false,eval e X.env)::starEach es X.env:=by rfl) (hpl:(backTo pos (starEach es X.env)).any (·.1)=false:=by rfl):PE X (.Call (.Name x p) (e::es) [] pos) (Qd r t):=by
 intro pins s σ H Q I h;refine wpAny_Call_Name_kw (fL I hg hm hv ?_ hn hdb);exact PyProof.Rows.callWith_type1 (cz (ha pos pins s σ H _ I h) fun us s1 ⟨vs,H1,I1,r1,q1⟩=>hc pins s1 σ H1 vs us Q I1 r1 q1) he hpl
end
end L2
namespace HT
open PySem PyProof.Rows
section
open PySem.SeqAt
open PySem.AutoSeq1 (wpAny_loadPart')
open PySem.MeetsSeq PySem.MeetsSeq2 PySem.MeetsSeq3
end
section
variable{prog:Program}{w:World}{A:Around}{E:Value->Shared->Prop}{s:Shared}
theorem yU{t b:Addr}{vs ws:List Value}{Q:Value->Shared->Prop}(ht:IsTup s.heap t vs.toArray)(hb:IsTup s.heap b ws.toArray)(hv:vs≠[])
  (h1:ws=[]->Q (.ref t) s) (h2:ws≠[]->Q (.ref s.heap.objs.size) { s with heap:=s.heap.push { cls:=.type "tuple",data:=.seq (vs++ws).toArray } })
  (hsz:vs.length + ws.length<=sizeLine):wpAny (model prog w) A (binaryOp .Add (.ref t) (.ref b)) Q E s:=by
 obtain⟨⟨cls,dd,data,sl⟩,ho,hc,n,hd⟩:=id ht;obtain⟨⟨cls2,dd2,data2,sl2⟩,ho2,hc2,n2,hd2⟩:=id hb;simp only at hc hd hc2 hd2;subst hc hd hc2 hd2;have e:vs.toArray++ws.toArray=(vs++ws).toArray:=by simp
 by_cases hw:ws=[]
 ·exact concat_meets ⟨_,ho,rfl⟩ ⟨_,ho2,rfl⟩ noFill_tuple_add seq_tuple_add PySem.F.slot_tuple_add PySem.F.entry_tuple_add (PySem.F.args_tuple_add_2 _ _)
   (tuple_addW1 t b vs.toArray ws.toArray n n2 dd dd2 sl sl2 (by simpa using hv) (by simp[hw])) ⟨ho,ho2,h1 hw⟩
 ·refine concat_meets ⟨_,ho,rfl⟩ ⟨_,ho2,rfl⟩ noFill_tuple_add seq_tuple_add PySem.F.slot_tuple_add PySem.F.entry_tuple_add (PySem.F.args_tuple_add_2 _ _)
   (tuple_addW2 t b vs.toArray ws.toArray n n2 dd dd2 sl sl2 (by simpa using hv) (by simpa using hw) (by rw[List.size_toArray,List.size_toArray];exact hsz)) ⟨ho,ho2,?_⟩
  rw[e];exact h2 hw
noncomputable def cF(n d:Nat):Option Int->Nat
 | none=>d
 | some v=>if v < 0 then (v + (n:Int)).toNat else min v.toNat n
theorem oW(n d:Nat):cF n d none=d:=rfl
theorem sj(n d k:Nat):cF n d (some (k:Int))=min k n:=by
 show(if (k:Int) < 0 then ((k:Int) + (n:Int)).toNat else min (k:Int).toNat n)=min k n
 rw[if_neg (by omega),Int.toNat_natCast]
theorem ng(n d:Nat)(hd:d<=n)(o:Option Int):cF n d o<=n:=by
 cases o with
 | none=>exact hd
 | some v=>
  show(if v < 0 then (v + (n:Int)).toNat else min v.toNat n)<=n
  by_cases hv:v < 0
  ·rw[if_pos hv];omega
  ·rw[if_neg hv];exact Nat.min_le_right _ _
theorem sk(v:Int)(n d:Nat):(if v < 0 then max (v + (n:Int)) 0 else min v (n:Int))=((cF n d (some v):Nat):Int):=by
 show(if v < 0 then max (v + (n:Int)) 0 else min v (n:Int))=(((if v < 0 then (v + (n:Int)).toNat else min v.toNat n):Nat):Int)
 by_cases hv:v < 0
 ·simp only[if_pos hv];omega
 ·simp only[if_neg hv];omega
theorem qK(lo hi:Option Int)(n:Nat):Builtin.Slice.sliceAdjust lo hi 1 (n:Int)=(((cF n 0 lo:Nat):Int),((cF n n hi:Nat):Int)):=by
 have h1:¬ ((1:Int) < 0):=by omega
 unfold Builtin.Slice.sliceAdjust;simp only[h1,if_false];refine Prod.ext ?_ ?_
 ·cases lo with
  | none=>rfl
  | some v=>exact sk v n 0
 ·cases hi with
  | none=>rfl
  | some v=>exact sk v n n
theorem qL(i j:Nat):Builtin.Slice.slicePlaces (i:Int) (j:Int) 1=j - i:=by
 unfold Builtin.Slice.slicePlaces;have h1:(1:Int) > 0:=by omega
 simp only[h1,if_true,Int.ediv_one];split<;>omega
theorem kr{v:Value}{o:Option Int}{Q:Option Int->Shared->Prop}(p:IsPart v o)(h:Q o s):wpAny (model prog w) A (Builtin.Slice.slicePartIndex v) Q E s:=by
 cases p with
 | none=>exact slicePart_none h
 | int i t=>exact slicePart_int h
theorem fv{sl:Addr}{vl vu:Value}{lo hi:Option Int}{n:Nat}{Q:Int×Int×Nat->Shared->Prop}(hs:s.heap.IsSliceOf sl vl vu .none)(pl:IsPart vl lo)(pu:IsPart vu hi)
  (h:Q (((cF n 0 lo:Nat):Int),1,cF n n hi - cF n 0 lo) s):wpAny (model prog w) A (Builtin.Slice.sliceApplied (.ref sl) (pure (n:Int))) Q E s:=by
 obtain⟨os,hos,hcs,hds⟩:=id hs;unfold Builtin.Slice.sliceApplied Builtin.Slice.sliceFields;refine wpAny_bind (wpAny_bind (wpAny_field hos hds (x:=vl) rfl (wpAny_bind (wpAny_field hos hds (x:=vu) rfl (wpAny_bind (wpAny_field hos hds (x:=.none) rfl (wpAny_pure ?_)))))));refine wpAny_bind (slicePart_none ?_)
 show wpAny _ _ (if ((1:Int) == 0)=true then _ else _) _ _ s
 rw[if_neg (by decide)]
 refine wpAny_bind (kr pl (wpAny_bind (kr pu (wpAny_bind (wpAny_pure ?_)))))
 show wpAny _ _ (match Builtin.Slice.sliceAdjust lo hi 1 (n:Int) with | (lo,hi)=>pure (lo,(1:Int),Builtin.Slice.slicePlaces lo hi 1)) _ _ s
 rw[qK lo hi n]
 show wpAny _ _ (pure (((cF n 0 lo:Nat):Int),(1:Int),Builtin.Slice.slicePlaces ((cF n 0 lo:Nat):Int) ((cF n n hi:Nat):Int) 1)) _ _ s
 rw[qL];exact wpAny_pure h
theorem vF(xs:Array Value)(i k:Nat):((List.range k).filterMap fun (m:Nat)=>xs[((i:Int) + (m:Int) * 1).toNat]?).toArray=((xs.toList.drop i).take k).toArray:=by
 have e:(fun (m:Nat)=>xs[((i:Int) + (m:Int) * 1).toNat]?)=fun m=>xs[i + m]?:=by
  funext m
  have:((i:Int) + (m:Int) * 1).toNat=i + m:=by omega
  rw[this]
 rw[e];have:=pick_run xs i k;rw[List.filterMap_map]at this;have e2:((fun x=>xs[x]?) ∘ fun x=>i + x)=fun m=>xs[i + m]?:=rfl
 rw[e2]at this;rw[this]
theorem iI{t sl:Addr}{items:Array Value}{vl vu:Value}{lo hi:Option Int}{Q:Value->Shared->Prop}(ht:IsTup s.heap t items)(hs:s.heap.IsSliceOf sl vl vu .none)(pl:IsPart vl lo)(pu:IsPart vu hi)
  (hw:¬ (cF items.size 0 lo=0/\cF items.size items.size hi=items.size))
  (h:Q (.ref s.heap.objs.size) { s with heap:=s.heap.push { cls:=.type "tuple",data:=.seq ((items.toList.drop (cF items.size 0 lo)).take (cF items.size items.size hi - cF items.size 0 lo)).toArray } })
  (hsz:items.size<=sizeLine):wpAny (model prog w) A (getItem (.ref t) (.ref sl)) Q E s:=by
 have ku:sizeOk (.seq ((items.toList.drop (cF items.size 0 lo)).take (cF items.size items.size hi - cF items.size 0 lo)).toArray):=by
  show((items.toList.drop (cF items.size 0 lo)).take (cF items.size items.size hi - cF items.size 0 lo)).toArray.size<=sizeLine
  rw[List.size_toArray,List.length_take,List.length_drop,Array.length_toList];omega
 have hj:cF items.size items.size hi<=items.size:=ng _ _ (Nat.le_refl _) hi;obtain⟨os,hos,hcs,hds⟩:=id hs;have hTs:s.TypeIs (.ref sl) "slice":=⟨os,hos,hcs⟩;unfold getItem
 try with_reducible refine wpAny_holding ?_
 first | refine wpAny_bind (wpAny_pure ?_) | skip
 refine wpAny_bind (wpAny_sequenceKey ht.typeIs (by decide) ?_)
 refine wpAny_bind (wpAny_callSpecial?_slot (name:=Str.ofString "__getitem__") ht.typeIs PyProof.Rows.slot_tuple_getitem
  (wpAny_call_entry PyProof.Rows.slot_tuple_getitem ht.typeIs entry_tuple_getitem ?_ (args_tuple_getitem _ _)))
 show wpAny _ _ (Builtin.Tuple.tupleItemsOf (.ref t) >>= _) _ _ s
 refine wpAny_bind (tupleItemsOf_ ht ?_);refine wpAny_bind (wpAny_typeOf hTs ?_);rw[if_pos (by decide)]
 refine wpAny_bind (fv hs pl pu ?_)
 have hno:¬ ((((cF items.size 0 lo:Nat):Int) == 0 && (1:Int) == 1 && (cF items.size items.size hi - cF items.size 0 lo) == items.size)=true):=by
  intro q;rw[Bool.and_eq_true,Bool.and_eq_true]at q;have q1:((cF items.size 0 lo:Nat):Int)=0:=eq_of_beq q.1.1;have q2:cF items.size items.size hi - cF items.size 0 lo=items.size:=eq_of_beq q.2;exact hw ⟨by omega,by omega⟩
 show wpAny _ _ (if (((cF items.size 0 lo:Nat):Int) == 0 && (1:Int) == 1 && (cF items.size items.size hi - cF items.size 0 lo) == items.size)=true then _ else _) _ _ s
 rw[if_neg hno,vF]
 first
  | exact wpAny_bind (m:=Builtin.Tuple.tupleExact _) (wpAny_newObj_type (wpAny_pure ⟨_,rfl,wpAny_pure h⟩) ku)
  | exact wpAny_bind (m:=Builtin.Tuple.tupleExact _) (wpAny_newObj_type (wpAny_bind (wpAny_pure (wpAny_pure ⟨_,rfl,wpAny_pure h⟩))) ku)
  | exact wpAny_bind (wpAny_bind (m:=Builtin.Tuple.tupleExact _) (wpAny_newObj_type (wpAny_pure (wpAny_pure ⟨_,rfl,wpAny_pure h⟩)) ku))
  | exact wpAny_bind (wpAny_bind (m:=Builtin.Tuple.tupleExact _) (wpAny_newObj_type (wpAny_pure ⟨_,rfl,wpAny_pure h⟩) ku))
end
end HT
namespace L2
open PySem PySem.Spec PyProof.Rows
abbrev TO:=St->Hp->(Option Int->Hp->Prop)->Prop
def PO(X:Cx)(e:Option Expr)(t:TO):Prop:=
 ∀ (pins:List (Addr×Obj)) (s:Shared) (σ:St) (H:Hp) (Q:Option Int->Hp->Prop),Inv X pins σ H s->t σ H Q ->
  wpAny (model X.prog X.w) X.A (evalPart e X.env) (fun u s'=>∃ o H',Inv X pins σ H' s'/\IsPart u o/\Q o H') X.xe s
noncomputable def sm:TO:=fun _ H Q=>Q none H
noncomputable def FU(t:TE):TO:=fun σ H Q=>t σ H fun x H1=>∃ i,x=.int i/\Q (some i) H1
theorem intsAre_of{ns:List Int}:∀ {us:List Value},Vals (ns.map V.int) us->IntsAre us ns:=by
 induction ns with
 | nil=>intro us r;rw[List.map_nil]at r;cases r;exact .nil
 | cons n ns ih=>
  intro us r;rw[List.map_cons]at r;cases r with
  | cons r1 r2=>
   obtain⟨t,e⟩:=r1;subst e;exact .cons n t (ih r2)
section
variable{X:Cx}{e:Expr}{te:TE}{lo hi:Option Expr}{tl th:TO}{pos p2:Pos}
theorem yV:PO X none sm:=by
 intro pins s σ H Q I h;rw[evalPart_none];exact wpAny_pure ⟨none,H,I,.none,h⟩
theorem yW(h:PE X e te):PO X (some e) (FU te):=by
 intro pins s σ H Q I hw;rw[evalPart_some];refine cz (h pins s σ H _ I hw) fun u s1 ⟨x,H1,I1,r1,q1⟩ => ?_
 obtain⟨i,rfl,q⟩:=q1;obtain⟨t,rfl⟩:=r1;exact⟨some i,H1,I1,.int i t,q⟩
def yX(X:Cx)(r:V->Option Int->Option Int->Hp->VK->Prop):Prop:=
 ∀ (pins:List (Addr×Obj)) (s:Shared) (σ:St) (H:Hp) (x:V) (v vl vu:Value) (lo hi:Option Int) (sl:Addr) (Q:VK),Inv X pins σ H s->RelV x v->s.heap.IsSliceOf sl vl vu .none->IsPart vl lo->IsPart vu hi->r x lo hi H Q ->
  ∃ T id,typeLookup (.type T) "__getitem__"=pure (some (.builtin id))/\s.TypeIs v T/\wpAny (model X.prog X.w) X.A (getItem v (.ref sl)) (EP X pins σ Q) X.xe s
theorem yX.or{r r':V->Option Int->Option Int->Hp->VK->Prop}(h:yX X r)(h':yX X r'):yX X (fun x lo hi H Q=>r x lo hi H Q\/r' x lo hi H Q):=by
 intro pins s σ H x v vl vu lo hi sl Q I rx hs pl pu q;rcases q with q | q
 ·exact h pins s σ H x v vl vu lo hi sl Q I rx hs pl pu q
 ·exact h' pins s σ H x v vl vu lo hi sl Q I rx hs pl pu q
noncomputable def Sb(r:V->Option Int->Option Int->Hp->VK->Prop)(te:TE)(tl th:TO):TE:=fun σ H Q=>te σ H fun x H1=>tl σ H1 fun l H2=>th σ H2 fun u H3=>r x l u H3 Q
theorem gj{r:V->Option Int->Option Int->Hp->VK->Prop}(hr:yX X r)(he:PE X e te)(hl:PO X lo tl)(hu:PO X hi th):PE X (.Subscript e (.Slice lo hi none p2) pos) (Sb r te tl th):=by
 intro pins s σ H Q I h;refine Subscript_ (cz (he pins s σ H _ I h) fun v s1 ⟨x,H1,I1,r1,q1⟩ => ?_)
 refine wpAny_Slice (cz (hl pins s1 σ H1 _ I1 q1) fun vl s2 ⟨l,H2,I2,pl,q2⟩=>cz (hu pins s2 σ H2 _ I2 q2) fun vu s3 ⟨u,H3,I3,pu,q3⟩ => ?_)
 rw[evalPart_none];refine wpAny_pure ?_;have I4:Inv X pins σ H3 { s3 with heap:=s3.heap.push { cls:=.type "slice",data:=.fields #[vl,vu,.none] } }:=I3.kept (t':=s3.toks) fun b ob q=>Heap.get?_push_of_some _ q
 obtain⟨T,id,hT,ht,hg⟩:=hr pins { s3 with heap:=s3.heap.push { cls:=.type "slice",data:=.fields #[vl,vu,.none] } } σ H3 x v vl vu l u s3.heap.objs.size Q I4 r1 (Heap.IsSliceOf.new ..) pl pu q3
 show wpAny (model X.prog X.w) X.A (subscriptTail e (.Slice lo hi none p2) v (.ref s3.heap.objs.size)) (EP X pins σ Q) X.xe { s3 with heap:=s3.heap.push { cls:=.type "slice",data:=.fields #[vl,vu,.none] } }
 exact tail_any (ops:=[.ref s3.heap.objs.size,v]) ht hT hg (by with_unfolding_all rfl)
def oX(xs:List V)(lo hi:Option Int):List V:=(xs.drop (HT.cF xs.length 0 lo)).take (HT.cF xs.length xs.length hi - HT.cF xs.length 0 lo)
theorem jw(xs:List V)(lo hi:Option Int):(oX xs lo hi).length<=xs.length:=by
 unfold oX;rw[List.length_take,List.length_drop];omega
def FV(K:PySem.W.Frag):V->Option Int->Option Int->Hp->VK->Prop:=fun x lo hi H Q=>∃ a xs,x=.ref a/\f7 K H a xs /\
 ¬ (HT.cF xs.length 0 lo=0/\HT.cF xs.length xs.length hi=xs.length)/\∀ p,H p=none->Q (.ref p) (upd H p (.tup (oX xs lo hi)))
theorem ky:yX X (FV X.K):=by
 intro pins s σ H x v vl vu lo hi sl Q I rx hs pl pu h;obtain⟨a,xs,rfl,hx,hw,q⟩:=h;cases rx;obtain⟨its,r,ht,hz⟩:=I.tuple hx;have hlen:its.toArray.size=xs.length:=by rw[List.size_toArray];exact r.length.symm
 refine⟨"tuple",_,PyProof.Rows.slot_tuple_getitem.lookup,ht.typeIs,?_⟩;refine HT.iI ht hs pl pu (by rw[hlen];exact hw) ?_ (by rw[hlen];exact hz)
 rw[hlen];refine⟨.ref s.heap.objs.size,_,I.laid (t':=s.toks) (o:=.tup (oX xs lo hi)) (fun b ob q=>Heap.get?_push_of_some _ q) (Nat.le_refl _) ?_,rfl,q _ (I.hok.fresh (Nat.le_refl _))⟩
 exact⟨Nat.le_trans (jw xs lo hi) hz,_,(r.drop (HT.cF xs.length 0 lo)).take (HT.cF xs.length xs.length hi - HT.cF xs.length 0 lo),IsTup.new _ _⟩
def Bv(K:PySem.W.Frag):R2:=fun x y H Q=>∃ a b xs ys,x=.ref a/\y=.ref b/\f7 K H a xs/\f7 K H b ys/\xs≠[]/\xs.length + ys.length<=sizeLine /\
 (ys=[]->Q (.ref a) H)/\(ys≠[]->∀ p,H p=none->Q (.ref p) (upd H p (.tup (xs++ys))))
theorem Vals.ni{xs:List V}{us:List Value}(r:Vals xs us):us=[]↔xs=[]:=by
 cases r with
 | nil=>simp
 | cons _ _=>simp
theorem yY:f9 X (binaryOp .Add) (Bv X.K):=by
 intro pins s σ H x y v u Q I rx ry h;obtain⟨a,b,xs,ys,rfl,rfl,ha,hb,hx,hz,q1,q2⟩:=h;cases rx;cases ry;obtain⟨its,r1,p1,_⟩:=I.tuple ha;obtain⟨its2,r2,p2,_⟩:=I.tuple hb;refine HT.yU p1 p2 (fun z=>hx (r1.ni.mp z)) (fun z=>⟨.ref a,H,I,rfl,q1 (r2.ni.mp z)⟩) (fun z => ?_) (by rw[← r1.length,← r2.length];exact hz)
 refine⟨.ref s.heap.objs.size,_,I.laid (t':=s.toks) (o:=.tup (xs++ys)) (fun b ob q=>Heap.get?_push_of_some _ q) (Nat.le_refl _) ?_,rfl,q2 (fun w=>z (r2.ni.mpr w)) _ (I.hok.fresh (Nat.le_refl _))⟩
 exact⟨by rw[List.length_append];exact hz,_,r1.append r2,IsTup.new _ _⟩
end
noncomputable def sr(n:Nat)(i:Int):Option Nat:=if 0<=i then (if i < n then some i.toNat else none) else if -(n:Int)<=i then some (i + n).toNat else none
def i9{α:Type}(xs:List α)(i:Int):Option α:=(sr xs.length i).bind fun j=>xs[j]?
theorem su{n:Nat}{i:Int}{j:Nat}(h:sr n i=some j):seqIndex? i n=some j/\j < n /\ -(n:Int)<=i/\i < n:=by
 unfold sr at h
 by_cases h0:0<=i
 ·rw[if_pos h0]at h
  by_cases h1:i < n
  ·rw[if_pos h1]at h
   have e:i.toNat=j:=Option.some.inj h;exact⟨by rw[seqIndex_of h0 h1,e],by omega,by omega,h1⟩
  ·rw[if_neg h1]at h;cases h
 ·rw[if_neg h0]at h
  by_cases h1 : -(n:Int)<=i
  ·rw[if_pos h1]at h
   have e:(i + n).toNat=j:=Option.some.inj h;exact⟨by rw[seqIndex_neg (by omega) h1,e],by omega,h1,by omega⟩
  ·rw[if_neg h1]at h;cases h
theorem nj{α:Type}{xs:List α}{i:Int}{v:α}(h:i9 xs i=some v):∃ j,seqIndex? i xs.length=some j/\xs[j]?=some v/\j < xs.length /\ -(xs.length:Int)<=i/\i < xs.length:=by
 unfold i9 at h;cases e:sr xs.length i with
 | none=>rw[e]at h;cases h
 | some j=>
  rw[e]at h;obtain⟨h1,h2,h3,h4⟩:=su e;exact⟨j,h1,h,h2,h3,h4⟩
theorem a_{α:Type}{xs:List α}{j:Nat}{v:α}(h:xs[j]?=some v):i9 xs (j:Int)=some v:=by
 have hj:j < xs.length:=(List.getElem?_eq_some_iff.mp h).1
 have e:sr xs.length (j:Int)=some j:=by
  unfold sr;rw[if_pos (by omega),if_pos (by omega)];simp
 unfold i9;rw[e];exact h
theorem vG{α:Type}(xs:List α)(v:α):i9 (xs++[v]) (-1)=some v:=by
 have hl:(xs++[v]).length=xs.length + 1:=by simp
 have e:sr (xs++[v]).length (-1)=some xs.length:=by
  unfold sr;rw[hl,if_neg (by decide),if_pos (by omega)]
  congr 1
  omega
 unfold i9;rw[e]
 show(xs++[v])[xs.length]?=some v
 simp
def sv(b:Expr):Prop:=∀ o i,subscripted b false o i=operate [o,i] (getItem o i)
def yZ(X:Cx)(r:R2):Prop:=
 ∀ (value slice:Expr) (pins:List (Addr×Obj)) (s:Shared) (σ:St) (H:Hp) (x y:V) (v u:Value) (Q:VK),Inv X pins σ H s->RelV x v->RelV y u->r x y H Q ->
  subscripted slice false v u=operate [v,u] (getItem v u)->wpAny (model X.prog X.w) X.A (subscriptTail value slice v u) (EP X pins σ Q) X.xe s
def JQ(X:Cx)(id:String)(r:V->List V->Hp->VK->Prop):Prop:=
 ∀ (pins:List (Addr×Obj)) (s:Shared) (σ:St) (H:Hp) (x:V) (xs:List V) (v:Value) (us:List Value) (Q:VK),Inv X pins σ H s->RelV x v->Vals xs us->r x xs H Q ->
  wpAny (model X.prog X.w) X.A (call (.builtin id) (v::us)) (EP X pins σ Q) X.xe s
section
variable{X:Cx}{a b:Expr}{ta tb:TE}{pos:Pos}
theorem yZ.or{r r':R2}(h:yZ X r)(h':yZ X r'):yZ X (fun x y H Q=>r x y H Q\/r' x y H Q):=by
 intro value slice pins s σ H x y v u Q I rx ry q hs;rcases q with q | q
 ·exact h value slice pins s σ H x y v u Q I rx ry q hs
 ·exact h' value slice pins s σ H x y v u Q I rx ry q hs
theorem vH{r:R2}(hr:yZ X r)(ha:PE X a ta)(hb:PE X b tb)(hs:sv b):PE X (.Subscript a b pos) (E_ r ta tb):=by
 intro pins s σ H Q I h;exact Subscript_ (Ct ha hb I h fun v u s2 x y H2 I2 rx ry q=>hr a b pins s2 σ H2 x y v u Q I2 rx ry q (hs _ _))
def FW(K:PySem.W.Frag):R2:=fun x y H Q=>∃ p xs i v,x=.ref p/\y=.int i/\ju K H p xs/\i9 xs i=some v/\Q v H
def FX(K:PySem.W.Frag):R2:=fun x y H Q=>∃ p xs i v,x=.ref p/\y=.int i/\f7 K H p xs/\i9 xs i=some v/\Q v H
def FY:R2:=fun x y H Q=>∃ z i c,x=.str z/\y=.int i/\z.length<=sizeLine/\i9 z.cps.toList i=some c/\Q (.str ⟨#[c]⟩) H
theorem y4:yZ X (FW X.K):=by
 intro value slice pins s σ H x y v u Q I rx ry h hs;obtain⟨p,xs,i,z,rfl,rfl,hq,he,q⟩:=h;cases rx;obtain⟨t,rfl⟩:=ry;obtain⟨its,r,pl,hz⟩:=I.list hq;obtain⟨j,h1,h2,h3,h4,h5⟩:=nj he;obtain⟨w,ew,yy⟩:=r.get h2;have hl:=r.length;have hn:=ir;have fin:EP X pins σ Q w s:=⟨z,H,I,yy,q⟩
 by_cases h0:0<=i
 ·have hj:i.toNat=j:=by
   rw[seqIndex_of h0 h5]at h1;exact Option.some.inj h1
  exact item_listR pl.isList h0 (by omega) (by rw[hj];simpa using ew) fin hs
 ·have hj:(i + (its.toArray.size:Int)).toNat=j:=by
   rw[seqIndex_neg (by omega) h4]at h1
   rw[List.size_toArray,← hl];exact Option.some.inj h1
  exact subscriptTail_builtinR (x:=w) pl.isList.typeIs slot_list_getitem.lookup
   (wpAny_getItem_list_neg (Q:=fun r s'=>r=w/\EP X pins σ Q r s') pl.isList (by omega) (by rw[List.size_toArray]<;>omega) (by omega) (by rw[hj];simpa using ew) ⟨rfl,fin⟩) hs
theorem CF:yZ X (FX X.K):=by
 intro value slice pins s σ H x y v u Q I rx ry h hs;obtain⟨p,xs,i,z,rfl,rfl,hq,he,q⟩:=h;cases rx;obtain⟨t,rfl⟩:=ry;obtain⟨its,r,pl,hz⟩:=I.tuple hq;obtain⟨j,h1,h2,h3,h4,h5⟩:=nj he;obtain⟨w,ew,yy⟩:=r.get h2;have hl:=r.length;have hn:=ir;have fin:EP X pins σ Q w s:=⟨z,H,I,yy,q⟩
 exact subscriptTail_builtinR (x:=w) pl.typeIs slot_tuple_getitem.lookup
  (getItem_tuple (j:=j) (Q:=fun r s'=>r=w/\EP X pins σ Q r s') pl (by omega) (by omega) (by rw[List.size_toArray,← hl];exact h1) (by simpa using ew) ⟨rfl,fin⟩) hs
theorem CG:yZ X FY:=by
 intro value slice pins s σ H x y v u Q I rx ry h hs;obtain⟨z,i,c,rfl,rfl,hz,he,q⟩:=h;obtain⟨t,rfl⟩:=rx;obtain⟨t',rfl⟩:=ry;obtain⟨j,h1,h2,h3,h4,h5⟩:=nj he;have hl:z.cps.toList.length=z.length:=by simp[Str.length]
 rw[hl]at h1 h4 h5;have hn:=ir
 exact tail_any (typeIs_str s z t) slot_str_getitem.lookup (getItem_str (c:=c) (by
  have e1:decide (i < -(2 ^ 63:Int))=false:=decide_eq_false (by omega)
  have e2:decide (i≥2 ^ 63)=false:=decide_eq_false (by omega)
  rw[e1,e2,Bool.or_false]) (by rw[h1];simpa using h2) ⟨.str ⟨#[c]⟩,H,I.tok _,⟨_,rfl⟩,q⟩) hs
def FZ(K:PySem.W.Frag):R2:=fun x y H Q=>FW K x y H Q\/FX K x y H Q\/FY x y H Q
theorem qM:yZ X (FZ X.K):=y4.or (CF.or CG)
theorem Inv.lst{pins:List (Addr×Obj)}{σ:St}{H:Hp}{s:Shared}{p:Addr}{xs:List V}(I:Inv X pins σ H s)(h:H p=some (.lst xs)) :
  ∃ (its:List Value) (n:Nat),Vals xs its/\s.heap.get? p=some { cls:=.type "list",data:=.seq its.toArray n }/\xs.length<=sizeLine:=by
 obtain⟨z,its,n,r,e⟩:=I.hok p _ h;exact⟨its,n,r,e,z⟩
theorem nk(lo hi:Option Int)(n:Nat):(sliceBounds lo hi none n).1=((HT.cF n 0 lo:Nat):Int)/\(sliceBounds lo hi none n).2.1=((HT.cF n n hi:Nat):Int)/\(sliceBounds lo hi none n).2.2=1:=by
 refine⟨?_,?_,rfl⟩
 ·cases lo with
  | none=>simp[sliceBounds,HT.cF]
  | some i=>
   simp only[sliceBounds,HT.cF,Option.getD_none,show(1:Int) > 0 by decide,if_true]
   by_cases h:i < 0
   ·simp only[h,if_true]<;>omega
   ·simp only[h,if_false]<;>omega
 ·cases hi with
  | none=>simp[sliceBounds,HT.cF]
  | some i=>
   simp only[sliceBounds,HT.cF,Option.getD_none,show(1:Int) > 0 by decide,if_true]
   by_cases h:i < 0
   ·simp only[h,if_true]<;>omega
   ·simp only[h,if_false]<;>omega
theorem lP(its:List Value)(lo hi:Option Int):slicePick its.toArray lo hi none=((its.drop (HT.cF its.length 0 lo)).take (HT.cF its.length its.length hi - HT.cF its.length 0 lo)).toArray:=by
 obtain⟨h1,h2,h3⟩:=nk lo hi its.toArray.size;unfold slicePick;rw[h1,h2,h3];simp only[sliceRange_one,pick_run,List.size_toArray]<;>rfl
def F4(K:PySem.W.Frag):V->Option Int->Option Int->Hp->VK->Prop:=fun x lo hi H Q=>∃ a xs,x=.ref a/\ju K H a xs/\∀ p,H p=none->Q (.ref p) (upd H p (.lst (oX xs lo hi)))
theorem iJ:yX X (F4 X.K):=by
 intro pins s σ H x v vl vu lo hi sl Q I rx hs pl pu h;obtain⟨a,xs,rfl,hx,q⟩:=h;cases rx;obtain⟨its,r,ht,hz⟩:=I.list hx;have hlen:=r.length;refine⟨"list",_,slot_list_getitem.lookup,ht.isList.typeIs,?_⟩;refine wpAny_getItem_list_slice ht.isList hs pl pu .none (by simp) ?_ (by rw[List.size_toArray]<;>omega)
 rw[lP,← hlen];refine⟨.ref s.heap.objs.size,_,I.laid (t':=s.toks) (o:=.lst (oX xs lo hi)) (fun b ob q=>Heap.get?_push_of_some _ q) (Nat.le_refl _) ?_,rfl,q _ (I.hok.fresh (Nat.le_refl _))⟩
 exact⟨Nat.le_trans (jw xs lo hi) hz,_,0,(r.drop (HT.cF xs.length 0 lo)).take (HT.cF xs.length xs.length hi - HT.cF xs.length 0 lo),Heap.get?_push_size _ rfl⟩
theorem iK:eF X (.builtin "len") (fun xs H Q=>∃ p ys,xs=[.ref p]/\(ju X.K H p ys\/f7 X.K H p ys)/\Q (.int ys.length) H):=by
 intro pins s σ H xs us Q I r h;obtain⟨p,ys,rfl,hq,q⟩:=h;obtain⟨u,rfl,rx⟩:=vals1 r;cases rx;have hn:=ir;rcases hq with hq | hq
 ·obtain⟨its,r',pl,hz⟩:=I.list hq
  have hlen:=r'.length;exact Calls.call_len_list pl.isList (by simp only[List.size_toArray]<;>omega) ⟨.int ys.length,H,I.tok _,⟨s.toks + 1,by rw[List.size_toArray,hlen]⟩,q⟩
 ·obtain⟨its,r',pl,hz⟩:=I.tuple hq
  have hlen:=r'.length;exact len_tuple pl (by simp only[List.size_toArray]<;>omega) ⟨.int ys.length,H,I.tok _,⟨s.toks + 1,by rw[List.size_toArray,hlen]⟩,q⟩
theorem nq:eF X (.builtin "len") (fun xs H Q=>∃ z,xs=[.str z]/\z.length<=sizeLine/\Q (.int z.length) H):=by
 intro pins s σ H xs us Q I r h;obtain⟨z,rfl,hz,q⟩:=h;obtain⟨u,rfl,t,rfl⟩:=vals1 r;have hn:=ir;exact len_str (by omega) ⟨.int z.length,H,I.tok _,⟨_,rfl⟩,q⟩
theorem nr:eF X (.type "list") (fun xs H Q=>∃ p ys,xs=[.ref p]/\(ju X.K H p ys\/f7 X.K H p ys)/\∀ l,H l=none->Q (.ref l) (upd H l (.lst ys))):=by
 intro pins s σ H xs us Q I r h;obtain⟨p,ys,rfl,hq,q⟩:=h;obtain⟨u,rfl,rx⟩:=vals1 r;cases rx
 have fin:∀ (its:List Value),Vals ys its->ys.length<=sizeLine->∀ (h':Heap) (c':Nat),(∀ b o',s.heap.get? b=some o'->h'.get? b=some o') ->
   h'.get? s.heap.objs.size=some { cls:=.type "list",dict:=none,data:=.seq its.toArray c',slots := #[] }->EP X pins σ Q (.ref s.heap.objs.size) { s with heap:=h' }:=fun its r' hz h' c' kp e=>
  ⟨.ref s.heap.objs.size,_,I.laid (t':=s.toks) kp (Nat.le_refl _) (show cL X.prog X.w _ h' _ (.lst ys) from⟨hz,its,c',r',e⟩),rfl,q _ (I.hok.fresh (Nat.le_refl _))⟩
 rcases hq with hq | hq
 ·obtain⟨its,r',pl,hz⟩:=I.list hq
  have hlen:=r'.length;obtain⟨o,ho,hc,n,hd⟩:=pl.isList;exact call_list_seq p (.inl rfl) ho hc hd (fun h' c' kp e=>fin its r' hz h' c' kp e) (by simp only[List.size_toArray]<;>omega)
 ·obtain⟨its,r',pl,hz⟩:=I.tuple hq
  have hlen:=r'.length;obtain⟨o,ho,hc,n,hd⟩:=pl;exact call_list_seq p (.inr rfl) ho hc hd (fun h' c' kp e=>fin its r' hz h' c' kp e) (by simp only[List.size_toArray]<;>omega)
theorem lQ:eF X (.type "tuple") (fun xs H Q=>∃ p ys,xs=[.ref p]/\((ju X.K H p ys/\∀ l,H l=none->Q (.ref l) (upd H l (.tup ys)))\/(f7 X.K H p ys/\Q (.ref p) H))):=by
 intro pins s σ H xs us Q I r h;obtain⟨p,ys,rfl,h⟩:=h;obtain⟨u,rfl,rx⟩:=vals1 r;cases rx;rcases h with ⟨hq,q⟩ | ⟨hq,q⟩
 ·obtain⟨its,r',pl,hz⟩:=I.list hq
  have hlen:=r'.length;refine call_tuple_list pl.isList (fun h' kp => ?_) (by simp only[List.size_toArray]<;>omega)
  have I1:Inv X pins σ H { s with heap:=h' }:=I.kept (t':=s.toks) kp
  have I2:Inv X pins σ (upd H h'.objs.size (.tup ys)) { s with heap:=h'.push { cls:=.type "tuple",data:=.seq its.toArray } }:=
   I1.laid (t':=s.toks) (fun b o e=>Heap.get?_push_of_some _ e) (Nat.le_refl _) (show cL X.prog X.w _ _ _ (.tup ys) from⟨hz,its,r',IsTup.new _ _⟩)
  exact⟨.ref h'.objs.size,_,I2,rfl,q _ (I1.hok.fresh (Nat.le_refl _))⟩
 ·obtain⟨its,r',pl,hz⟩:=I.tuple hq
  exact call_tuple_same pl ⟨.ref p,H,I,rfl,q⟩
def F5(K:PySem.W.Frag)(T:String)(x:V)(H:Hp):Prop:=match x with
 | .str _=>T="str"
 | .int _=>T="int"
 | .ref p=>(T="list"/\∃ xs,ju K H p xs)\/(T="tuple"/\∃ o,K.lookup p=some o/\o.cls=.type "tuple"/\o.dict=none) \/
   (T="dict"/\((∃ kvs,H p=some (.dK kvs))\/∃ kvs,H p=some (.dT kvs)))\/(T="set"/\∃ S n,H p=some (.set S n))
 | _=>False
theorem CH{pins:List (Addr×Obj)}{σ:St}{H:Hp}{s:Shared}{T:String}{x:V}{v:Value}(I:Inv X pins σ H s)(r:RelV x v)(ty:F5 X.K T x H) :
  s.TypeIs v T/\∀ a,v=.ref a->∃ ob,s.heap.get? a=some ob/\ob.dict=none:=by
 cases x with
 | str z=>
  obtain⟨t,rfl⟩:=r;cases (show T="str" from ty)
  exact⟨typeIs_str s z t,fun _ e=>nomatch e⟩
 | int i=>
  obtain⟨t,rfl⟩:=r;cases (show T="int" from ty)
  exact⟨typeIs_int s i t,fun _ e=>nomatch e⟩
 | ref p=>
  cases r;rcases ty with ⟨rfl,xs,hq⟩ | ⟨rfl,o,hk,hc,hd⟩ | ⟨rfl,hk⟩ | ⟨rfl,S,n,hk⟩
  ·obtain⟨its,_,pl,_⟩:=I.list hq
   refine⟨pl.isList.typeIs,fun a e => ?_⟩
   cases e;obtain⟨o,n,e,c,hd,_⟩:=pl;exact⟨o,e,hd⟩
  ·refine⟨⟨o,I.gi p o hk,hc⟩,fun a e => ?_⟩
   cases e;exact⟨o,I.gi _ o hk,hd⟩
  ·have z:∃ o,s.heap.get? p=some o/\o.ExactDict:=by
    rcases hk with ⟨kvs,hk⟩ | ⟨kvs,hk⟩
    ·obtain⟨_,_,_,_,o,_,_,e,ex,_⟩:=I.hok p _ hk
     exact⟨o,e,ex⟩
    ·obtain⟨_,_,_,_,o,_,_,e,ex,_⟩:=I.hok p _ hk
     exact⟨o,e,ex⟩
   obtain⟨o,e,ex⟩:=z;refine⟨⟨o,e,ex.1⟩,fun a e2 => ?_⟩
   cases e2;exact⟨o,e,ex.2.1⟩
  ·obtain⟨o,_,_,_,e,ex,_⟩:=I.hok p _ hk
   refine⟨⟨o,e,ex.1⟩,fun a e2 => ?_⟩
   cases e2;exact⟨o,e,ex.2.1⟩
 | _=>exact False.elim ty
noncomputable def Sd(K:PySem.W.Frag)(T:String)(r:V->List V->Hp->VK->Prop)(to:TE)(t:TA):TE:=fun σ H Q=>to σ H fun x H1=>F5 K T x H1/\t σ H1 fun xs H2=>r x xs H2 Q
variable{o e:Expr}{es:List Expr}{to:TE}{t:TA}{name:Str}{apos cpos:Pos}{T id:String}{r:V->List V->Hp->VK->Prop}
theorem F6(pa:PlainAttrs T)(slot:Slot T name id)(hty:typeOf (.builtin id)=pure (.type "method_descriptor"))(hm:JQ X id r)(ho:PE X o to)(ha:PA X (e::es) t)
  (hbase:attributeBase o name X.env (eval o X.env)=eval o X.env:=by rfl)
  (hfew:((backTo cpos (starEach (e::es) X.env)).all (fun x => !x.1) && (backToKw cpos (keywordEach [] X.env)).all (fun x=>x.1.isSome)
   && decide ((e::es).length + ([]:List Keyword).length + (if ([]:List Keyword).isEmpty then 0 else 1) < 30))=true:=by rfl)
  (hline:(apos.endLine == cpos.line)=true:=by rfl) (hs:starEach (e::es) X.env=(false,eval e X.env)::starEach es X.env:=by rfl) (hplain:(backTo cpos (starEach es X.env)).any (·.1)=false:=by rfl) :
  PE X (.Call (.Attribute o name apos) (e::es) [] cpos) (Sd X.K T r to t):=by
 intro pins s σ H Q I h;refine wpAny_Call_method_late hbase hfew hline rfl (cz (ho pins s σ H _ I h) fun v s1 ⟨x,H1,I1,r1,ty,q1⟩ => ?_)
 obtain⟨h1,h2⟩:=CH I1 r1 ty;refine⟨T,id,pa,slot,hty,h1,h2,?_⟩;have hA:=ha cpos pins s1 σ H1 _ I1 q1;rw[hs]at hA ⊢;refine Calls.callWith_builtin (by show(false || (backTo cpos (starEach es X.env)).any (·.1))=false;rw[hplain]<;>rfl) (Calls.evalArgs_plain ?_)
 exact cz hA fun us s2 ⟨vs,H2,I2,r2,q2⟩=>hm pins s2 σ H2 x vs v us Q I2 r1 r2 q2
end
def Qe(X:Cx)(id:String)(r:V->List V->Hp->VK->Prop):Prop:=
 ∀ (pins:List (Addr×Obj)) (s:Shared) (σ:St) (H:Hp) (x:V) (xs:List V) (v:Value) (us:List Value) (Q:VK),Inv X pins σ H s->RelV x v->Vals xs us->r x xs H Q ->
  wpAny (model X.prog X.w) X.A (call (.builtin id) (v::us)) (EP X pins σ Q) X.xe s
theorem Vals.one:∀ {x:V} {us:List Value},Vals [x] us->∃ u,us=[u]/\RelV x u
 | _,_,.cons r .nil=>⟨_,rfl,r⟩
theorem Vals.eraseIdx:∀ {xs:List V} {us:List Value} (i:Nat),Vals xs us->Vals (xs.eraseIdx i) (us.eraseIdx i)
 | _,_,_,.nil=>.nil
 | _,_,0,.cons _ t=>t
 | _,_,i + 1,.cons r t=>.cons r (Vals.eraseIdx i t)
theorem Vals.reverse{xs:List V}{us:List Value}(h:Vals xs us):Vals xs.reverse us.reverse:=by
 induction h with
 | nil=>exact .nil
 | cons r t ih=>rw[List.reverse_cons,List.reverse_cons];exact Vals.append ih (.cons r .nil)
theorem mw{α:Type}:∀ (l:List α) (i:Nat),(l.eraseIdx i).length<=l.length
 | [],_=>Nat.le_refl _
 | _::_,0=>Nat.le_succ _
 | _::r,i + 1=>Nat.succ_le_succ (mw r i)
section
variable{X:Cx}{pins:List (Addr×Obj)}{σ:St}{H:Hp}{s:Shared}{l b:Addr}{xs ys zs:List V}
theorem Inv.F7{its its':List Value}{n:Nat}{f:Array Value->Array Value}{t':Nat}(I:Inv X pins σ H s)(hH:H l=some (.lst xs))
  (e:s.heap.get? l=some { cls:=.type "list",data:=.seq its.toArray n }) (hf:f its.toArray=its'.toArray) (hv:Vals ys its') (hz:ys.length<=sizeLine) :
  Inv X pins σ (upd H l (.lst ys)) { s with heap:=s.heap.update l (Obj.mapSeq f),toks:=t' }:=by
 have q:=PySem.IsL.update e f;rw[hf]at q;refine I.write (x:=l) (e:=l) (by rw[hH];exact trivial) (.inl rfl) (fun b' u hb hu=>(Heap.get?_update_other s.heap (Obj.mapSeq f) (Ne.symm hb)).trans hu) ⟨_,q⟩ ?_
 exact⟨hz,its',_,hv,q⟩
theorem Inv.Mj{its:List Value}{t':Nat}(I:Inv X pins σ H s)(hv:Vals ys its)(hz:ys.length<=sizeLine) :
  Inv X pins σ (upd H s.heap.objs.size (.lst ys)) { s with heap:=s.heap.push { cls:=.type "list",data:=.seq its.toArray },toks:=t' }:=
 I.laid (fun _ _ q=>Heap.get?_push_of_some _ q) (Nat.le_refl _) ⟨hz,its,0,hv,Heap.get?_push_size _ rfl⟩
theorem Inv.fresh(I:Inv X pins σ H s):H s.heap.objs.size=none:=I.hok.fresh (Nat.le_refl _)
theorem Inv.F8(I:Inv X pins σ H s)(hH:H l=some (.lst xs)):xs.length<=sizeLine/\∃ (its:List Value) (n:Nat),Vals xs its/\xs.length=its.length/\s.heap.get? l=some { cls:=.type "list",data:=.seq its.toArray n }:=by
 obtain⟨z,its,n,r,e⟩:=I.hok l _ hH;exact⟨z,its,n,r,r.length,e⟩
end
section
variable{X:Cx}
def sx:V->List V->Hp->VK->Prop:=fun x vs H Q=>∃ l xs y,x=.ref l/\vs=[y]/\H l=some (.lst xs)/\xs.length < sizeLine/\Q .non (upd H l (.lst (xs++[y])))
theorem mx:Qe X "list.append" sx:=by
 intro pins s σ H x vs v us Q I rx rv h;obtain⟨l,xs,y,rfl,rfl,hH,hz,q⟩:=h;cases rx;obtain⟨u,rfl,ru⟩:=rv.one;obtain⟨z,its,n,r,hl,e⟩:=I.F8 hH;refine call_meets F.slot_list_append ⟨_,e,rfl⟩ F.entry_list_append (F.args_list_append_2 _ _) (PySem.list_append l its.toArray n u (by rw[List.size_toArray];omega)) ⟨e,?_⟩
 refine⟨.non,_,I.F7 (its':=its++[u]) hH e (by simp) (r.append (.cons ru .nil)) ?_,rfl,q⟩
 rw[List.length_append,List.length_singleton];omega
def vJ:V->List V->Hp->VK->Prop:=fun x vs H Q=>∃ l xs i k y,x=.ref l/\vs=[.int i]/\H l=some (.lst xs) /\ -(2 ^ 63)<=i/\i < 2 ^ 63/\seqIndex? i xs.length=some k/\xs[k]?=some y/\Q y (upd H l (.lst (xs.eraseIdx k)))
theorem vK:Qe X "list.pop" vJ:=by
 intro pins s σ H x vs v us Q I rx rv h;obtain⟨l,xs,i,k,y,rfl,rfl,hH,h1,h2,hk,hy,q⟩:=h;cases rx;obtain⟨u,rfl,ru⟩:=rv.one;obtain⟨t,rfl⟩:=ru;obtain⟨z,its,n,r,hl,e⟩:=I.F8 hH;obtain⟨w,hw,yy⟩:=r.get hy
 refine call_meets F.slot_list_pop ⟨_,e,rfl⟩ F.entry_list_pop (F.args_list_pop_2 _ _)
  (MeetsSeq.list_pop_at l its.toArray n i t k w (fitsIndex_both h1 h2) (by rw[List.size_toArray,← hl];exact hk) (by rw[← Array.getElem?_toList];exact hw) (by rw[List.size_toArray];omega)) ⟨e,?_⟩
 refine⟨y,_,I.F7 (its':=its.eraseIdx k) hH e ?_ (r.eraseIdx k) ?_,yy,q⟩
 ·show its.toArray.eraseIdxIfInBounds k=(its.eraseIdx k).toArray
  rw[List.eraseIdxIfInBounds_toArray]
 ·have:=mw xs k
  omega
end
section
variable{prog:Program}{w:World}{A:Around}{E:Value->Shared->Prop}{s:Shared}
end
section
variable{X:Cx}
end
section
variable{κ:Type}[DecidableEq κ]
noncomputable def CI(kvs:List (κ×V))(k:κ):Option V:=(kvs.find? fun kv=>decide (kv.1=k)).map (·.2)
noncomputable def putK(kvs:List (κ×V))(k:κ)(v:V):List (κ×V):=
 if (kvs.any fun kv=>decide (kv.1=k))=true then kvs.map (fun kv=>if kv.1=k then (kv.1,v) else kv) else kvs++[(k,v)]
theorem mY.getD{o:Option V}{u:Option Value}{d:V}{d':Value}(r:mY o u)(rd:RelV d d'):RelV (o.getD d) (u.getD d'):=by
 cases o with
 | none=>cases u with
  | none=>exact rd
  | some _=>exact(show False from r).elim
 | some _=>cases u with
  | none=>exact(show False from r).elim
  | some _=>exact r
theorem KV.length{kvs:List (κ×V)}{vs:List (κ×Value)}(r:KV kvs vs):kvs.length=vs.length:=Paired.length r
end
abbrev KT(H:Hp):List (List Key×V)->List (List Key×Addr×Value)->Prop:=Paired fun p q=>p.1=q.1/\H q.2.1=some (.tup (p.1.map kV))/\RelV p.2 q.2.2
section
variable{P:Program}{w:World}{H:Hp}{h:Heap}{a:Addr}
end
def F9(H:Hp)(a:Addr)(y:V)(r:Option V):Prop:=
 (∃ kvs k,Rd H a (.dK kvs)/\y=kV k/\r=CI kvs k)\/∃ kvs k b,Rd H a (.dT kvs)/\y=.ref b/\H b=some (.tup (k.map kV))/\r=CI kvs k
def F_(H:Hp)(a:Addr)(y v:V)(H':Hp):Prop:=
 (∃ kvs k,H a=some (.dK kvs)/\y=kV k/\kvs.length < sizeLine/\H'=upd H a (.dK (putK kvs k v))) \/
 ∃ kvs k b,H a=some (.dT kvs)/\y=.ref b/\H b=some (.tup (k.map kV))/\kvs.length < sizeLine/\H'=upd H a (.dT (putK kvs k v))
theorem F9.k{H:Hp}{a:Addr}{kvs:List (Key×V)}{k:Key}(e:H a=some (.dK kvs)):F9 H a (kV k) (CI kvs k):=.inl ⟨kvs,k,.inl e,rfl,rfl⟩
theorem F_.k{H:Hp}{a:Addr}{kvs:List (Key×V)}{k:Key}{v:V}(e:H a=some (.dK kvs))(hl:kvs.length < sizeLine):F_ H a (kV k) v (upd H a (.dK (putK kvs k v))):=.inl ⟨kvs,k,e,rfl,hl,rfl⟩
section
variable{X:Cx}{pins:List (Addr×Obj)}{σ:St}{H:Hp}{s:Shared}{a:Addr}{y v:V}{u r:Value}{o:Option V}{A:Around}{E:Value->Shared->Prop}
end
section
variable{X:Cx}{pins:List (Addr×Obj)}{σ:St}{H:Hp}{s:Shared}{a:Addr}{kvs:List (Key×V)}{k:Key}{u:Value}{A:Around}{E:Value->Shared->Prop}
end
section
variable{X:Cx}{o i e value:Expr}{pos pos' tpos:Pos}{td ty tv:TE}
end
section
variable{X:Cx}{pos:Pos}
end
section
variable{X:Cx}{pins:List (Addr×Obj)}{σ:St}{H:Hp}{s:Shared}{a:Addr}{y d:V}{u r:Value}{o:Option V}{A:Around}{E:Value->Shared->Prop}
end
section
variable{X:Cx}{o e f:Expr}{apos cpos:Pos}{td ty tx:TE}
end
section
variable{X:Cx}{pins:List (Addr×Obj)}{σ:St}{H:Hp}{s:Shared}{a:Addr}{kvs:List (Key×V)}{A:Around}{E:Value->Shared->Prop}
end
section
variable{X:Cx}{pins:List (Addr×Obj)}{σ:St}{H:Hp}{s:Shared}{a:Addr}{y:V}{u:Value}{A:Around}{E:Value->Shared->Prop}
end
end L2
namespace Qf
open PySem PySem.W PySem.Calls PyProof.Rows
theorem jK{P:Params}{h:Heap}:∀ (ns:List Int) (vs:List Value),WellAll P h vs (ns.map WData.int)->IntsAre vs ns:=by
 intro ns
 induction ns with
 | nil=>
  intro vs w;rw[List.map_nil]at w;cases w;exact .nil
 | cons n ns ih=>
  intro vs w;rw[List.map_cons]at w;cases w with
  | cons a b=>
   cases a;exact .cons _ _ (ih _ b)
theorem ui{l:OpenLaw}{n:Nat}(hn:l.most=some n){P:Params}{h:Heap}{args:List WData}{vals:List Value}
  (hpre:l.row.toRowW.claim.pre args=true) (hwl:WellAll P h vals args) :
  ∃ a vs ns,vals=[Value.ref a]/\args=[WData.list (ns.map WData.int)]/\h.get? a=some { cls:=.type "list",data:=.seq vs.toArray }/\IntsAre vs ns/\ns.length<=n:=by
 have hsh:WShape.hasAll [] args [.list .int]=true:=(pre_splitW hpre).1;have hc:l.pre.holds [] { args:=args }=true:=(pre_splitW hpre).2;obtain⟨d,r,rfl,h1,h2⟩:=hasAllW_cons hsh;obtain rfl:=hasAllW_nil h2;obtain⟨xs,rfl,h3⟩:=hasW_list h1;obtain⟨ns,rfl⟩:=items_int h3
 have hlen:ns.length<=n:=by
  unfold OpenLaw.pre at hc
  have h4:(WTm.not (.lt (.lit (.int (n:Int))) (.len (.arg 0)))).holds [] { args:=[.list (ns.map .int)] }=true:=by
   have h4:=(holds_andW hc).1;rw[hn]at h4;exact h4
  have h5:=condW_of h4 (w_not (w_lt w_lit (w_len_list (w_arg rfl))));rw[List.length_map]at h5;refine Nat.le_of_not_lt fun q => ?_
  have q':(n:Int) < ((ns.length:Nat):Int):=by omega
  first
   | (rw[decide_eq_true q']at h5;exact absurd h5 (by decide))
   | (simp at h5;omega)
 cases hwl with
 | cons w1 w2=>
  cases w2;cases w1 with
  | list ho hall=>exact⟨_,_,ns,rfl,rfl,ho,jK ns _ hall,hlen⟩
theorem uj(l:OpenLaw)(args:List WData):l.row.toRowW.claim.post args (.bool true) args=true:=
 postW_of (r:=l.row.toRowW) (X:=(true == true))
  (show WShape.has [] (.bool true) .bool=true by first | rfl | decide | simp[WShape.has,WShape.arms,WShape.armsAll])
  (show(WTm.eq .res (.lit (.bool true))).value [] { args:=args,res:=some (.bool true),after:=args }=some (.bool (true == true)) from w_eq_bool (w_res rfl) w_lit) rfl
theorem oY{l:OpenLaw}{n:Nat}{q:Program}{loose:List Str}{XP:(Str->Option Value)->Heap->Prop}{YP:World->Heap->Prop}{d:DefRec}
  (hn:l.most=some n) (hdf:d.params.defaults=[])
  (call:∀ (w:World) (s₀ s₁:Shared) (mg mb:Str->Option Value) (fa:Addr) (o:Obj) (pm cd doc:Value) (a:Addr) (vs:List Value) (ns:List Int),
   Ground q loose [] XP w s₀ mg mb s₁.heap->YP w s₁.heap ->
   s₁.heap.get? fa=some o->o.data=.func (docDef d.name d.params d.body d.scope pm cd doc)->s₁.heap.CodeRec cd d.name->mg d.name=some (.ref fa) ->
   s₁.heap.get? a=some { cls:=.type "list",data:=.seq vs.toArray }->IntsAre vs ns->ns.length<=n->s₁.gens = #[] ->
   codeAny (model l.prog w) callerA (.call (.ref fa) ⟨[.ref a],[]⟩) (fun r s'=>r=.ok (.ret (.bool true))/\OldK s₁.heap s'.heap/\s'.os=s₁.os/\AllBare s'.gens) s₁) :
  WalkO q loose XP YP l.row.toRowW d [] (fun f vs=>PySem.call f vs):=by
 intro w s₀ s₁ mg mb G Y fa o pm cd doc dV kV ho hd hcd hD hmg hg args vals as hpre hlay hrd hwl hlo;obtain rfl:dV=.none:=Dflts.none hD hdf;obtain rfl:kV=.none:=Dflts.noKw hD;obtain⟨a,vs,ns,rfl,rfl,hobj,hints,hlen⟩:=ui hn hpre hwl;refine enter_call (codeAny_mono (call w s₀ s₁ mg mb fa o pm cd doc a vs ns G Y ho (fd_plain hd) hcd hmg hobj hints hlen hg) fun r s' hq => ?_)
 obtain⟨rfl,h2,h3,h4⟩:=hq;exact⟨.inl ⟨.bool true,.bool true,[],rfl,fun _=>rfl,.bool true,uj l _,fun _=>⟨List.Pairwise.nil,fun _ hm=>(nomatch hm)⟩⟩,h2,h3,h4⟩
section
variable{prog:Program}{w:World}{A:Around}{E:Value->Shared->Prop}{s:Shared}{K:Frag}
end
end Qf
namespace L2
open PySem PySem.Spec PyProof.Rows
theorem jb:∀ {vs:List Value} {ns:List Int},IntsAre vs ns->Vals (ns.map V.int) vs
 | _,_,.nil=>.nil
 | _,_,.cons n t h=>.cons ⟨t,rfl⟩ (jb h)
def Only(H:Hp):Prop:=∀ b,H b=none\/∃ o xs,H b=some (.jG o (.lst xs))
theorem vL{P:Program}{w:World}{K:PySem.W.Frag}{mg mb:Str->Option Value}{CX:sg}{k:Nat}{fa a:Addr}{fd:FuncData}{x:Str}{sp:Sp}{s₁:Shared}{vs:List Value}{ns:List Int}
  (KX:K.In s₁.heap) (hns:s₁.heap.Ns mainGlobals mg) (hb:s₁.heap.Ns builtinsNs mb) (hbb:∀ x:Str,x≠"__name__"->mb x=bootBuiltins x) (hlim:s₁.heap.NoLimit) (hg:s₁.gens = #[])
  (ha:s₁.heap.get? a=some { cls:=.type "list",data:=.seq vs.toArray }) (hi:IntsAre vs ns) (hl:ns.length<=sizeLine) (hr:bY k callerA)
  (F:∀ base:Heap,K.In base->base.Ns mainGlobals mg->cp P w K mg base CX k fa fd [x] sp) (hbind:∀ (s:Shared) (u:Value),BindsTo s fd ⟨[u],[]⟩ [(x,u)])
  (hsp:∀ H:Hp,Only H->ju K H a (ns.map V.int)->sp [.ref a] H (fun v _=>v=.bl true) fun _ _ _=>False)
  (Ml:∀ H e s',CX [] H s₁ (fun _ _ _=>False) e s'->False) :
  codeAny (model P w) callerA (.call (.ref fa) ⟨[.ref a],[]⟩) (fun r s'=>r=.ok (.ret (.bool true))/\OldK s₁.heap s'.heap/\s'.os=s₁.os/\AllBare s'.gens) s₁:=by
 have rv:=jb hi;have lenV:=hi.length
 have core:∀ H:Hp,Only H->ju K H a (ns.map V.int)->jt P w H s₁.heap->(∀ b,H b≠none->b=a)->(H a≠none->K.lookup a=none) ->
   codeAny (model P w) callerA (.call (.ref fa) ⟨[.ref a],[]⟩) (fun r s'=>r=.ok (.ret (.bool true))/\OldK s₁.heap s'.heap/\s'.os=s₁.os/\AllBare s'.gens) s₁:=by
  intro H hO hS hok hA hK;have sy:∀ {b:Addr} {o:Obj},s₁.heap.get? b=some o->H b=none->(mZ s₁.heap H).get? b=some o:=fun e n=>vg e n
  have FT:∀ {b:Addr} {o:Obj} {es:Array DictEntry} {ep:Nat},s₁.heap.get? b=some o->o.data=.dict es ep->H b=none:=fun {b o es ep} e d=>by
   cases q:H b with
   | none=>rfl
   | some u=>
    have e':b=a:=hA b (by rw[q];simp)
    subst e';rw[ha]at e;cases e
    have d':Data.seq vs.toArray _=Data.dict es ep:=d;cases d'
  have JR:∀ {b:Addr} {m:Str->Option Value},s₁.heap.Ns b m->(mZ s₁.heap H).Ns b m:=fun {b m} ⟨o,es,ep,e,d,r⟩=>⟨o,es,ep,sy e (FT e d),d,r⟩
  have Qg:K.In (mZ s₁.heap H):=fun b o e=>sy (KX b o e) (by
   cases q:H b with
   | none=>rfl
   | some u=>
    have e':b=a:=hA b (by rw[q];simp)
    subst e';rw[hK (by rw[q];simp)]at e;cases e)
  have hM:Mod K mg (mZ s₁.heap H):=⟨Qg,JR hns,⟨mb,JR hb,hbb⟩,let ⟨mc,h1,h2⟩:=hlim;⟨mc,JR h1,h2⟩⟩
  have e0:oU P w K mg (mZ s₁.heap H) callerA [] s₁ H:=⟨rfl,hM,fun b o e=>yF e,Nat.le_of_eq (t8 _ _),trivial,fun b hb=>absurd (show b∈([]:List Addr) from hb) (by simp),hok,.of_eq hg⟩
  refine codeAny_mono ((F _ Qg (JR hns)).run callerA [] s₁ H ⟨[.ref a],[]⟩ [.ref a] [.ref a] _ _ hr e0 (hbind s₁ (.ref a)) (.cons rfl .nil) (hsp H hO hS)) fun r s' h => ?_
  cases r with
  | error e=>exact(Ml H e s' h).elim
  | ok fl=>
   cases fl with
   | next=>exact False.elim h
   | brk=>exact False.elim h
   | cont=>exact False.elim h
   | ret u=>
    obtain⟨v,H',os,bare,un,hok',r',q⟩:=h;have q':v=.bl true:=q;subst q';obtain rfl:u=Value.bool true:=r';refine⟨rfl,OldK.of_keep fun b o e => ?_,os,bare⟩
    cases q:H b with
    | none=>exact un.keep b o e q (by intro z;exact absurd (show b∈([]:List Addr) from z) (by simp)) (by simp)
    | some u=>
     rcases hO b with z | ⟨ob,xs,z⟩
     ·rw[q]at z;cases z
     ·have z2:=un.iq b ob _ z
      obtain⟨e1,_⟩:=hok b _ z;obtain⟨e2,_⟩:=hok' b _ z2;rw[e]at e1;cases e1
      exact e2
 cases hk:K.lookup a with
 | some o=>
  have e:=KX a o hk;rw[ha]at e;cases e;refine core (fun _=>none) (fun _=>.inl rfl) (.inr ⟨_,vs.toArray,_,hk,rfl,rfl,rfl,by rw[List.size_toArray,lenV];exact hl,by simpa using rv⟩) (fun b u z=>by have z':(none:Option HO)=some u:=z;cases z') (fun b z=>absurd rfl z) fun z=>absurd rfl z
 | none=>
  refine core (fun b=>if b=a then some (.jG { cls:=.type "list",data:=.seq vs.toArray } (.lst (ns.map V.int))) else none) (fun b => ?_) (.inl (.inr ⟨{ cls:=.type "list",data:=.seq vs.toArray },if_pos rfl⟩)) (fun b u z => ?_) (fun b z => ?_) fun _=>hk
  ·by_cases hb:b=a
   ·exact .inr ⟨_,_,if_pos hb⟩
   ·exact .inl (if_neg hb)
  ·by_cases hb:b=a
   ·have z':=(if_pos hb).symm.trans z
    cases z';subst hb;exact⟨ha,by rw[List.length_map];exact hl,vs,_,rv,ha⟩
   ·have z':=(if_neg hb).symm.trans z
    cases z'
  ·by_cases hb:b=a
   ·exact hb
   ·exact absurd (if_neg hb) z
theorem y6{l:PySem.W.OpenLaw}{n k:Nat}{q:Program}{loose:List Str}{XP:(Str->Option Value)->Heap->Prop}{YP:World->Heap->Prop}{d:DefRec}{K:Params->PySem.W.Frag}{CX:World->sg}{sp:World->Sp}{x:Str}
  (hn:l.most=some n) (hn2:n<=sizeLine) (hdf:d.params.defaults=[]) (hr:bY k callerA)
  (hY:∀ (w:World) (h:Heap),YP w h->(K w.params).In h)
  (F:∀ (w:World) (mg:Str->Option Value) (fa:Addr) (h:Heap),(K w.params).In h->h.Ns mainGlobals mg->mg d.name=some (.ref fa) ->
   ∃ fd:FuncData,(∀ (s:Shared) (u:Value),BindsTo s fd ⟨[u],[]⟩ [(x,u)]) /\
    ∀ base:Heap,(K w.params).In base->base.Ns mainGlobals mg->cp l.prog w (K w.params) mg base (CX w) k fa fd [x] (sp w))
  (hsp:∀ (w:World) (H:Hp) (a:Addr) (ns:List Int),ns.length<=n->Only H->ju (K w.params) H a (ns.map V.int)->sp w [.ref a] H (fun v _=>v=.bl true) fun _ _ _=>False)
  (Ml:∀ (w:World) (H:Hp) (s:Shared) (e:Value) (s':Shared),CX w [] H s (fun _ _ _=>False) e s'->False) :
  PySem.W.WalkO q loose XP YP l.row.toRowW d [] (fun f vs=>PySem.call f vs):=by
 refine Qf.oY hn hdf fun w s₀ s₁ mg mb fa o pm cd doc a vs ns G Y ho hd hcd hmg hobj hints hlen hg => ?_
 have KX:=hY w _ Y;obtain⟨fd,hb,hF⟩:=F w mg fa _ KX G.T.g hmg;exact vL KX G.T.g G.T.b G.T.builtins G.T.nolimit hg hobj hints (Nat.le_trans hlen hn2) hr hF hb (fun H hO hS=>hsp w H a ns hlen hO hS) fun H e s'=>Ml w H s₁ e s'
noncomputable def inClass(s:Stmt)(j:Nat):Stmt:=match s with
 | .ClassDef _ _ _ body _ _ _ _ _ _ _=>body.getD j (.Pass ⟨0,0,0,0⟩)
 | _=>.Pass ⟨0,0,0,0⟩
noncomputable def cj(s:Stmt):Arguments:=match s with
 | .FunctionDef _ a _ _ _ _ _ _ _ _=>a
 | _=>{ posonlyargs:=[],args:=[],vararg:=none,kwonlyargs:=[],kw_defaults:=[],kwarg:=none,defaults:=[] }
noncomputable def aV(s:Stmt):List Stmt:=match s with
 | .FunctionDef _ _ b _ _ _ _ _ _ _=>b
 | _=>[]
noncomputable def af(s:Stmt):Scope:=match s with
 | .FunctionDef _ _ _ _ _ _ sc _ _ _=>sc
 | _=>{ kind:=.function,names:=[],isGenerator:=false,isCoroutine:=false }
abbrev eG:sg:=fun _ _ _ _ _ _=>False
abbrev E0:XK:=fun _ _ _=>False
theorem sD{X:Cx}:Passes eG X E0:=fun _ _ _ _ _ _ _ h=>h.elim
structure uk(K:PySem.W.Frag)(x qual:Str)(st:Stmt)(f:Addr)(fd:FuncData):Prop where
 ex:∃ (oc:Value) (od:Option Addr) (kV doc pm:Value) (an:Option Addr) (cdv ct:Value) (osl:Array (Option Value)),
  fd=PySem.W.fnOf x qual (cj st) (aV st) (af st) .none kV doc pm an cdv ct/\K.lookup f=some ⟨oc,od,.func fd,osl⟩/\PySem.W.codeIn K cdv qual=true
 kp:PySem.W.keepIn K (.ref f)=true
section
variable{P:Program}{w:World}{K:PySem.W.Frag}{mg:Str->Option Value}{base:Heap}
theorem uk.ok{x qual:Str}{st:Stmt}{f:Addr}{fd:FuncData}{N ps:List Str}{k:Nat}{sp:Sp}(F:uk K x qual st f fd)(S:fO N ps (af st))(len:∀ vs H Q E,sp vs H Q E->vs.length=ps.length)
  (hbody:∀ (cdv:Value) (A:Around) (outer:List Env) (s:Shared) (H:Hp) (vs:List V) (Q:VK) (E:XK),bY k (A.deeper (envOfC qual (af st) s.heap.objs.size f cdv))->sp vs H Q E ->
   ∃ t,iE (cx eG P w K mg base N qual (af st) f cdv A outer s H E).jv (aV st) t/\t { nx:=fun _ H'=>Q .non H',rt:=Q } (start N vs) H):cp P w K mg base eG (k + 1) f fd ps sp:=by
 obtain⟨oc,od,kV,doc,pm,an,cdv,ct,osl,rfl,lk,hcd⟩:=F.ex;refine vE lk hcd S len fun A outer s H vs Q E hr hsp => ?_
 obtain⟨t,h,q⟩:=hbody cdv A outer s H vs Q E hr hsp;exact⟨t,h.jv,q⟩
theorem uk.binds{x qual:Str}{st:Stmt}{f:Addr}{fd:FuncData}{ps:List Str}(F:uk K x qual st f fd)
  (h:∀ (kV doc pm:Value) (an:Option Addr) (cdv ct:Value) (us:List Value),us.length=ps.length->bindArgs (PySem.W.fnOf x qual (cj st) (aV st) (af st) .none kV doc pm an cdv ct) ⟨us,[]⟩=pure (ps.zip us)):Binds K fd ps []:=by
 obtain⟨oc,od,kV,doc,pm,an,cdv,ct,osl,rfl,lk,hcd⟩:=F.ex;exact .all (h kV doc pm an cdv ct)
theorem kz{x qual:Str}{st:Stmt}{f:Addr}{oc:Value}{od an:Option Addr}{osl:Array (Option Value)}{kV doc pm cdv ct:Value}(l:K.lookup f=some ⟨oc,od,.func (PySem.W.fnOf x qual (cj st) (aV st) (af st) .none kV doc pm an cdv ct),osl⟩)
  (c:PySem.W.codeIn K cdv qual=true) (k:PySem.W.keepIn K (.ref f)=true):uk K x qual st f (PySem.W.fnOf x qual (cj st) (aV st) (af st) .none kV doc pm an cdv ct):=⟨⟨oc,od,kV,doc,pm,an,cdv,ct,osl,rfl,l,c⟩,k⟩
end
section
variable{X:Cx}
end
theorem oZ{A B:Prop}(h:B):if false=true then A else B:=by
 rw[if_neg Bool.false_ne_true];exact h
theorem o3{A B:Prop}(h:A):if true=true then A else B:=by
 rw[if_pos rfl];exact h
def lR(H H':Hp):Prop:=∀ b o,H b=some o->H' b=some o
theorem lR.refl(H:Hp):lR H H:=fun _ _ h=>h
section
variable{κ:Type}[DecidableEq κ]
end
open PySem.W
def Ga(X:Cx)(f:Addr)(vs:List V)(σ:St)(H:Hp)(Q:VK):Prop:=∀ (pins:List (Addr×Obj)) (s:Shared) (us:List Value),Inv X pins σ H s->Vals vs us->wpAny (model X.prog X.w) X.A (call (.ref f) us) (EP X pins σ Q) X.xe s
noncomputable def Cx.fz(X:Cx)(xs:List Str):Cx:={ X with fn:=fun y=>X.fn y && !(xs.contains y) }
section
variable{X:Cx}{pins:List (Addr×Obj)}{σ:St}{H:Hp}{s:Shared}
end
end L2
namespace L2
open PySem PySem.Spec PyProof.Rows
theorem KT.length{H:Hp}{l:List (List Key×V)}{m:List (List Key×Addr×Value)}(q:KT H l m):m.length=l.length:=by
 induction q with
 | nil=>rfl
 | cons _ _ ih=>rw[List.length_cons,List.length_cons,ih]
end L2
namespace HT
open PySem PyProof.Rows
section
variable{prog:Program}{w:World}{A:Around}{E:Value->Shared->Prop}{s:Shared}
theorem g_{t sl:Addr}{items:Array Value}{vl vu:Value}{lo hi:Option Int}{Q:Value->Shared->Prop}(ht:IsTup s.heap t items)(hs:s.heap.IsSliceOf sl vl vu .none)(pl:IsPart vl lo)(pu:IsPart vu hi)
  (h1:cF items.size 0 lo=0) (h2:cF items.size items.size hi=items.size) (h:Q (.ref t) s):wpAny (model prog w) A (getItem (.ref t) (.ref sl)) Q E s:=by
 obtain⟨os,hos,hcs,hds⟩:=id hs;have hTs:s.TypeIs (.ref sl) "slice":=⟨os,hos,hcs⟩;unfold getItem
 try with_reducible refine wpAny_holding ?_
 first | refine wpAny_bind (wpAny_pure ?_) | skip
 refine wpAny_bind (wpAny_sequenceKey ht.typeIs (by decide) ?_)
 refine wpAny_bind (wpAny_callSpecial?_slot (name:=Str.ofString "__getitem__") ht.typeIs PyProof.Rows.slot_tuple_getitem
  (wpAny_call_entry PyProof.Rows.slot_tuple_getitem ht.typeIs entry_tuple_getitem ?_ (args_tuple_getitem _ _)))
 show wpAny _ _ (Builtin.Tuple.tupleItemsOf (.ref t) >>= _) _ _ s
 refine wpAny_bind (tupleItemsOf_ ht ?_);refine wpAny_bind (wpAny_typeOf hTs ?_);rw[if_pos (by decide)]
 refine wpAny_bind (fv hs pl pu ?_)
 have Mm:(((cF items.size 0 lo:Nat):Int) == 0 && (1:Int) == 1 && (cF items.size items.size hi - cF items.size 0 lo) == items.size)=true:=by
  rw[h1,h2];simp
 show wpAny _ _ (if (((cF items.size 0 lo:Nat):Int) == 0 && (1:Int) == 1 && (cF items.size items.size hi - cF items.size 0 lo) == items.size)=true then _ else _) _ _ s
 rw[if_pos Mm];unfold Builtin.Tuple.tupleIsExact;refine wpAny_bind (wpAny_bind (wpAny_typeOf ht.typeIs (wpAny_pure ?_)));rw[if_pos (by decide)]
 exact wpAny_bind (wpAny_rule (wpAny_pure ⟨_,rfl,wpAny_pure h⟩))
theorem vM{t b:Addr}{ws:List Value}{Q:Value->Shared->Prop}(ht:IsTup s.heap t #[])(hb:IsTup s.heap b ws.toArray)(h:Q (.ref b) s):wpAny (model prog w) A (binaryOp .Add (.ref t) (.ref b)) Q E s:=by
 obtain⟨⟨cls,dd,data,sl⟩,ho,hc,n,hd⟩:=id ht;obtain⟨⟨cls2,dd2,data2,sl2⟩,ho2,hc2,n2,hd2⟩:=id hb;simp only at hc hd hc2 hd2;subst hc hd hc2 hd2
 exact concat_meets ⟨_,ho,rfl⟩ ⟨_,ho2,rfl⟩ noFill_tuple_add seq_tuple_add PySem.F.slot_tuple_add PySem.F.entry_tuple_add (PySem.F.args_tuple_add_2 _ _)
   (tuple_addW0 t b #[] ws.toArray n n2 dd dd2 sl sl2 rfl) ⟨ho,ho2,h⟩
end
end HT
namespace L2
open PySem PySem.Spec PyProof.Rows
section
variable{X:Cx}
def Gb(K:PySem.W.Frag):V->Option Int->Option Int->Hp->VK->Prop:=fun x lo hi H Q=>∃ a xs,x=.ref a/\f7 K H a xs/\HT.cF xs.length 0 lo=0/\HT.cF xs.length xs.length hi=xs.length/\Q (.ref a) H
theorem iM:yX X (Gb X.K):=by
 intro pins s σ H x v vl vu lo hi sl Q I rx hs pl pu h;obtain⟨a,xs,rfl,hx,h1,h2,q⟩:=h;cases rx;obtain⟨its,r,ht,hz⟩:=I.tuple hx;have hlen:its.toArray.size=xs.length:=by rw[List.size_toArray];exact r.length.symm
 refine⟨"tuple",_,PyProof.Rows.slot_tuple_getitem.lookup,ht.typeIs,?_⟩;exact HT.g_ ht hs pl pu (by rw[hlen];exact h1) (by rw[hlen];exact h2) ⟨.ref a,H,I,rfl,q⟩
noncomputable def Bw(K:PySem.W.Frag):R2:=fun x y H Q=>∃ a b ys,x=.ref a/\y=.ref b/\f7 K H a []/\f7 K H b ys/\Q (.ref b) H
theorem y8:f9 X (binaryOp .Add) (Bw X.K):=by
 intro pins s σ H x y v u Q I rx ry h;obtain⟨a,b,ys,rfl,rfl,ha,hb,q⟩:=h;cases rx;cases ry;obtain⟨its,r1,p1,_⟩:=I.tuple ha;obtain⟨its2,r2,p2,_⟩:=I.tuple hb;cases r1;exact HT.vM p1 p2 ⟨.ref b,H,I,rfl,q⟩
end
open PySem.W
section
variable{P:Program}{w:World}{K:PySem.W.Frag}{mg:Str->Option Value}{base:Heap}
theorem uk.Se{x qual:Str}{st:Stmt}{f:Addr}{fd:FuncData}{N ps:List Str}{k:Nat}{sp:Sp}{c:Addr}(F:uk K x qual st f fd)(hcv:fd.code=.ref c)(S:fO N ps (af st))(len:∀ vs H Q E,sp vs H Q E->vs.length=ps.length)
  (hbody:∀ (A:Around) (outer:List Env) (s s1:Shared) (H:Hp) (vs:List V) (Q:VK) (E:XK),bY k (A.deeper (envOfC qual (af st) s.heap.objs.size f (.ref c)))->sp vs H Q E ->
   Inv (cx eG P w K mg base N qual (af st) f (.ref c) A outer s H E).jv [] (start N vs) H s1 ->
   wpAny (model P w) (A.deeper (envOfC qual (af st) s.heap.objs.size f (.ref c))) (execs (aV st) (envOfC qual (af st) s.heap.objs.size f (.ref c)))
    (fun fl s'=>∃ xs v u σ' H',(fl=.ret u\/fl=.next/\u=Value.none)/\Inv ((cx eG P w K mg base N qual (af st) f (.ref c) A outer s H E).jv.fz xs) [] σ' H' s'/\RelV v u/\Q v H') (fun _ _=>False) s1) :
  cp P w K mg base eG (k + 1) f fd ps sp:=by
 obtain⟨oc,od,kV,doc,pm,an,cdv,ct,osl,rfl,lk,hcd⟩:=F.ex;obtain rfl:cdv=.ref c:=hcv;refine⟨len,fun A outer s H args us vs Q E hr e0 hb r hsp => ?_⟩
 have hl:=len _ _ _ _ hsp;have KX:K.In s.heap:=e0.mod.E5.keeps fun b o e=>(e0.bs b o e).1
 have lim:s.heap.NoLimit:=e0.mod.nolimit.keeps fun b o e=>(e0.bs b o e).1
 have hkind:∀ y∈ps.zip us,(af st).names.lookup y.1=some .local\/((af st).names.lookup y.1=some .cell/\((cellsFrom (s.heap.objs.size + 1) (af st).names []).lookup y.1).isSome=true):=fun ⟨n,v⟩ hy=>by
  rcases S.par n (List.of_mem_zip hy).1 with q | q
  ·exact .inl q
  ·exact .inr ⟨q,PySem.W.cellsFrom_some _ _ _ (.inl q)⟩
 refine codeAny_call_function hr.depth (KX _ _ lk) rfl S.co S.gen rfl (PySem.W.codeRec_of KX hcd) (hb _ _ _ _ ?_);refine wpAny_newFunctionEnv_cells S.kind hkind fun env he s1 x => ?_
 subst he;refine⟨lim.keeps x.toInCall.keep,codeAny_func ?_⟩;have I:Inv (cx eG P w K mg base N qual (af st) f (.ref c) A outer s H E) [] (start N vs) H s1:=ja S hr.hd e0 hl r x;refine wpAny_mono (hbody A outer s s1 H vs Q E (hr.deeper _) hsp (I.wish _)) (fun fl s' hs => ?_) fun e s' hs=>hs.elim
 obtain⟨xs,v,u,σ',H',hfl,J,rv,q⟩:=hs;have fin:CE outer P w H s Q u s':=⟨v,H',J.os,J.bare,J.base,J.hok,rv,q⟩;rcases hfl with rfl | ⟨rfl,rfl⟩
 ·exact fin
 ·exact fin
end
end L2
namespace L2
open PySem PySem.Spec PyProof.Rows
section
variable{prog:Program}{w:World}{A:Around}{R:Result->Shared->Prop}{h:Heap}{g:Array GenState}{d:Drawn}{t:Nat}{os:OsState}
variable{nm q:Str}{C N f:Addr}{bs bm bmB:List Value}{hdct:Bool}{sn:List Str}{sub:List Value}{ab:Bool}{col:Option Bool}{dd:Option Addr}{k0 k1 k2 k3 k5:Option Value}{B newId initId:String}
abbrev ei(h:Heap)(C:Addr)(rest:List Value):Heap:=(h.push { cls:=.type "tuple",data:=.seq rest.toArray }).push { cls:=.ref C,data:=.fields #[.ref h.objs.size,.none,.none,.none,.bool false,.none] }
theorem lS(F:ExcBaseFacts B newId initId bmB)(T:OwnTail h bmB bm){mN:Str->Option Value}{rest:List Value}
  (hC:h.get? C=some (excClassObj nm q C N bs bm hdct sn sub ab col dd k0 k1 k2 k3 k5 newId)) (hn:h.Ns N mN) (hni:mN "__init__"=some (.ref f))
  (hb:∀ self,PySem.W.Looks (model prog w) h (bindSpecial (.ref f) self) (.ref f,[self])) (hrest:rest.length<=sizeLine)
  {Q:Fin->Shared->Prop} {E:Value->Shared->Prop}
  (hq:codeAny (model prog w) A (.call (.ref f) ⟨.ref (h.objs.size + 1)::rest,[]⟩) (fun r s'=>match r with | .ok (.ret v)=>v=.none/\Q (.done (.ret (.ref (h.objs.size + 1)))) s' | .ok _=>False | .error e=>E e s') ⟨ei h C rest,g,d,t,os⟩) :
  wpAny (model prog w) A (Builtin.«type.__call__» ⟨.ref C::rest,[]⟩) Q E ⟨h,g,d,t,os⟩:=by
 repeat (first | with_reducible refine wpAny_loadPart_at hC ?_ | with_reducible refine wpAny_madeBy_exc hC ?_ | wp_step)
 refine codeAny_call_builtin_code (Code.quiet_builtin _ F.quiet) (wpAny_check_new_subT F T hC ?_);refine codeAny_exc_new_subT F T hC ?_ hrest
 show wpAny _ _ _ _ _ _
 have k:∀ b o,h.get? b=some o->(ei h C rest).get? b=some o:=fun b o e=>Heap.get?_push_of_some _ (Heap.get?_push_of_some _ e)
 have hC₁:=k _ _ hC;have hn₁:(ei h C rest).Ns N mN:=let ⟨o,es,ep,e,r⟩:=hn;⟨o,es,ep,k _ _ e,r⟩
 have hget:(ei h C rest).get? (h.objs.size + 1)=some { cls:=.ref C,data:=.fields #[.ref h.objs.size,.none,.none,.none,.bool false,.none] }:=by heap_get
 have hcC:(Value.ref C::bm).contains (.ref C)=true:=by simp
 have T₁:=T.keeps k;have b1:=(hb (.ref (h.objs.size + 1))).keeps k;unfold isInstance
 repeat (first | with_reducible refine wpAny_loadPart_at hget ?_ | (with_reducible refine wpAny_isSubtype_exc hC₁ ?_;rw[hcC]) | wp_step)
 show wpAny _ _ (typeLookup (.ref C) _) _ _ _
 refine wpAny_typeLookup_tail hC₁ hn₁ T₁ F.mroIs F.init.lookup ?_;rw[hni];refine wpAny_holding (wpAny_bind (b1.at ?_));refine wpAny_bind (wpAny_call (codeAny_mono hq fun r s' z => ?_))
 rcases r with e | (v | _ | _ | _)<;>first | exact z | exact z.elim | skip
 obtain⟨rfl,z⟩:=z;exact wpAny_pure (wpAny_pure z)
theorem vO(F:ExcBaseFacts B newId initId bmB)(T:OwnTail h bmB bm){mN:Str->Option Value}{rest:List Value}
  (hC:h.get? C=some (excClassObj nm q C N bs bm hdct sn sub ab col dd k0 k1 k2 k3 k5 newId)) (hn:h.Ns N mN) (hni:mN "__init__"=some (.ref f))
  (hb:∀ self,PySem.W.Looks (model prog w) h (bindSpecial (.ref f) self) (.ref f,[self])) (hrest:rest.length<=sizeLine)
  (hq:codeAny (model prog w) (A.under (.builtin "type.__call__" ⟨.ref C::rest,[]⟩)) (.call (.ref f) ⟨.ref (h.objs.size + 1)::rest,[]⟩) (PySem.W.InitBack (h.objs.size + 1) R) ⟨ei h C rest,g,d,t,os⟩) :
  codeAny (model prog w) A (.call (.ref C) ⟨rest,[]⟩) R ⟨h,g,d,t,os⟩:=by
 have f1:=tc_lookup;have f2:=tc_bind (.ref C);have hT:(⟨h,g,d,t,os⟩:Shared).TypeIs (.ref C) "type":=⟨_,hC,rfl⟩;refine codeAny_of_tree ?_
 show wpAny _ _ (callAny (.ref C) _) _ _ _
 repeat (any_goals (first | assumption | with_reducible refine wpAny_loadPart_at hC ?_ | wp_step))
 refine⟨rfl,?_⟩;refine codeAny_call_builtin_at (Code.quiet_builtin _ (by decide +kernel)) entry_typeCall (wpAny_check_type_call_sub hC (lS F T hC hn hni hb hrest ?_))
 exact hq
end
end L2
namespace L2
open PySem PySem.Spec PyProof.Rows
open PySem.W (clsIn findIn takerIn InstAt)
open PySem.Builtin PySem.Builtin.ObjectAttr PySem.Builtin.Getset_descriptor
section
variable{K:PySem.W.Frag}{prog:Program}{w:World}{A:Around}{E:Value->Shared->Prop}{s:Shared}{x C:Addr}{name:Str}{v:Value}{R:Result->Shared->Prop}
abbrev iv:List Value:=[.type "ValueError",.type "Exception",.type "BaseException",.type "object"]
noncomputable def fi:List Value->Bool
 | .ref _::r=>fi r
 | l=>l == iv
theorem my(self:Value):∀ {l:List Value},fi l=true->refuseLoop self "__setattr__" l=pure ()
 | [],e=>by simp[fi]at e
 | a::r,e=>by
  cases a with
  | ref c=>rw[refuseLoop_ref];exact my self e
  | _=>rw[eq_of_beq (show(_ == iv)=true from e)];exact PySem.F.store_ValueError.passes self
theorem vP:∀ {l:List Value},fi l=true->l.contains (.type "object")=true
 | [],e=>by simp[fi]at e
 | a::r,e=>by
  cases a with
  | ref c=>rw[List.contains_cons,vP (l:=r) e,Bool.or_true]
  | _=>rw[eq_of_beq (show(_ == iv)=true from e)];decide
theorem y9{ox:Obj}{od:Option Obj}{tk:Tok}{cd:ClassData}(X:K.In s.heap)(I:InstAt s.heap x ox C od)(hc:clsIn K C=some cd)(ho:fi cd.mro=true)(ht:takerIn K C name=some none)
  (h:∀ b,wpAny (model prog w) A.in1 (storeInOwnDict (.ref x) (.ref C) (.str name tk) name v b) (fun fin s'=>match fin with | .done f=>R (.ok f) s' | .again c'=>c'.quiet=true/\codeAny (model prog w) A c' R s') (fun e s'=>R (.error e) s') s) :
  codeAny (model prog w) A (.call (.builtin "object.__setattr__") ⟨[.ref x,.str name tk,v],[]⟩) R s:=by
 have SF:=PySem.F.store_object
 have ne:cd.mro.isEmpty=false:=by cases q:cd.mro with
  | nil=>rw[q]at ho;simp[fi]at ho
  | cons _ _=>rfl
 have sub:PySem.W.Looks (model prog w) s.heap (isInstance (.ref x) (.type "object")) true:=I.type.andThen (PySem.W.looks_mroIn X (by unfold PySem.W.mroIn;rw[hc,Option.bind_some,if_neg (by rw[ne];decide),vP ho]))
 refine codeAny_call_builtin SF.slot.plain SF.entry (@PySem.W.check_slot (model prog w) _ _ s _ _ _ (.ref x) [.str name tk,v] [] _ SF.kind SF.split sub (SF.args _ _ _) ?_);obtain⟨attr,ha,hr⟩:=Option.bind_eq_some_iff.mp ht;have hm:PySem.W.Looks (model prog w) s.heap (mroOf (.ref C)) cd.mro:=(PySem.W.looks_clsIn X hc).andThen .now
 have L3:PySem.W.Looks (model prog w) s.heap (storeTaker? attr) none:=by
  cases attr with
  | none=>exact .now
  | some a=>
   obtain⟨b,hb,e⟩:=Option.map_eq_some_iff.mp hr;refine(PySem.W.looks_takesIn X hb).andThen ?_;cases b with
   | true=>cases e
   | false=>exact .now
 rw[PySem.W.osa_eq,refuse_eq];refine wpAny_bind (wpAny_bind (I.type.here (wpAny_bind (hm.here ?_))));rw[my _ ho];refine wpAny_pure (wpAny_bind (I.type.here (wpAny_bind ((PySem.W.looks_findIn X ha).here (wpAny_bind (L3.here ?_))))));exact h _
theorem y_{vs:Array Value}{sl:Array (Option Value)}{cd:ClassData}{Q:Unit->Shared->Prop}(X:K.In s.heap)(hx:s.heap.get? x=some ⟨.ref C,none,.fields vs,sl⟩)(hc:clsIn K C=some cd)(ho:fi cd.mro=true)(hd:cd.hasDict=true)
  (hs:findIn K (.ref C) "__setattr__"=some (some (.builtin "object.__setattr__"))) (ht:takerIn K C name=some none)
  (h:∀ h' t',h'.get? x=some ⟨.ref C,some s.heap.objs.size,.fields vs,sl⟩->h'.Ns1 s.heap.objs.size (fun y=>if y=name then some v else none)->(∀ b o,b≠x->s.heap.get? b=some o->h'.get? b=some o)->Q () { s with heap:=h',toks:=t' }) :
  wpAny (model prog w) A (setAttr (.ref x) name v) Q E s:=by
 have I:InstAt s.heap x ⟨.ref C,none,.fields vs,sl⟩ C none:=⟨hx,rfl,rfl,trivial⟩;refine PySem.W.set_plain X I hs (y9 (s:={ s with toks:=s.toks + 1 }) X I hc ho ht fun b => ?_)
 have hx₁:(s.heap.push { cls:=.type "dict",data:=.dict #[] }).get? x=some ⟨.ref C,none,.fields vs,sl⟩:=Heap.get?_push_of_some _ hx;have hxs:x≠s.heap.objs.size:=Nat.ne_of_lt (Heap.lt_size hx);refine wpAny_bind (wpAny_pure (wpAny_bind (wpAny_bind (wpAny_loadPart hx (wpAny_bind (PySem.W.Looks.here (s:={ s with toks:=s.toks + 1 }) (PySem.W.looks_clsIn X hc) ?_))))));rw[hd];refine wpAny_bind (wpAny_alloc' (wpAny_bind (wpAny_update' hx₁ (wpAny_pure ?_))))
 have hgd:((s.heap.push { cls:=.type "dict",data:=.dict #[] }).update x fun o=>{ o with dict:=some s.heap.objs.size }).get? s.heap.objs.size=some { cls:=.type "dict",data:=.dict #[] }:=
  (Heap.get?_update_ne _ _ _ _ hxs.symm).trans (Heap.get?_push_at rfl rfl)
 have hnd:((s.heap.push { cls:=.type "dict",data:=.dict #[] }).update x fun o=>{ o with dict:=some s.heap.objs.size }).Ns s.heap.objs.size (fun _=>none):=
  ⟨_,#[],_,hgd,rfl,fun e he=>absurd he (by simp),fun _=>rfl⟩
 have hxd:((s.heap.push { cls:=.type "dict",data:=.dict #[] }).update x fun o=>{ o with dict:=some s.heap.objs.size }).get? x=some ⟨.ref C,some s.heap.objs.size,.fields vs,sl⟩:=Heap.get?_update_self _ hx₁ rfl
 have hkp:∀ b o,b≠x->s.heap.get? b=some o->((s.heap.push { cls:=.type "dict",data:=.dict #[] }).update x fun o=>{ o with dict:=some s.heap.objs.size }).get? b=some o:=fun b o hb e=>
  (Heap.get?_update_ne _ _ _ _ hb).trans (Heap.get?_push_of_some _ e)
 show wpAny _ _ (storeInDict s.heap.objs.size (.str name s.toks) name v) _ _ _
 unfold storeInDict newKeyGuard;refine wpAny_bind (wpAny_pure (wpAny_bind (wpAny_nsSet1 (Heap.Ns1.of_empty hnd) fun h' hn' hsb => ?_)))
 obtain⟨oD,esD,epD,hoD,hdD,hcD⟩:=hn'.count (Within.cons name v Within.nil);refine wpAny_bind (wpAny_lookBehind hoD (by rw[hdD];exact pastItsLine_dict (Nat.le_trans hcD (by rw[List.length_cons,List.length_nil,sizeLine_eq];omega))) ?_)
 refine wpAny_pure (h h' _ ((hsb.2 x hxs).trans hxd) hn' fun b o hb e=>(hsb.2 b (Nat.ne_of_lt (Heap.lt_size e))).trans (hkp b o hb e))
end
end L2
namespace L2
open PySem PySem.Spec PyProof.Rows
section
variable{prog:Program}{w:World}{A:Around}{R:Result->Shared->Prop}{h:Heap}{g:Array GenState}{d:Drawn}{t:Nat}{os:OsState}
variable{nm q:Str}{C N e:Addr}{bs bm bmB:List Value}{hdct:Bool}{sn:List Str}{sub:List Value}{ab:Bool}{col:Option Bool}{dd od:Option Addr}{k0 k1 k2 k3 k5:Option Value}{B newId initId:String}{a0:Addr}{sl:Array (Option Value)}
theorem lT(F:ExcBaseFacts B newId initId bmB)(T:OwnTail h bmB bm){rest:List Value}
  (hC:h.get? C=some (excClassObj nm q C N bs bm hdct sn sub ab col dd k0 k1 k2 k3 k5 newId)) (he:h.get? e=some ⟨.ref C,od,.fields #[.ref a0,.none,.none,.none,.bool false,.none],sl⟩) (hrest:rest.length<=sizeLine)
  (hq:∀ h',h'.get? e=some ⟨.ref C,od,.fields #[.ref h.objs.size,.none,.none,.none,.bool false,.none],sl⟩->h'.get? h.objs.size=some { cls:=.type "tuple",data:=.seq rest.toArray }->(∀ b o,b≠e->h.get? b=some o->h'.get? b=some o)->R (.ok (.ret .none)) ⟨h',g,d,t,os⟩) :
  codeAny (model prog w) A (.call (.builtin initId) ⟨.ref e::rest,[]⟩) R ⟨h,g,d,t,os⟩:=by
 refine codeAny_call_builtin F.init.plain F.initEntry (wpAny_check_init_subT F T hC he rfl ?_);have Sf:=Heap.get?_push_of_some (h:=h) { cls:=.type "tuple",data:=.seq rest.toArray } he;have hne:h.objs.size≠e:=Nat.ne_of_gt (Heap.lt_size he)
 wp_walk
 refine hq _ ?_ ?_ fun b o hb e1 => ?_
 ·exact Heap.get?_update_self _ Sf rfl
 ·rw[Heap.get?_update_other _ _ (Ne.symm hne)]
  exact Heap.get?_push_at rfl rfl
 ·rw[Heap.get?_update_other _ _ (Ne.symm hb)]
  exact Heap.get?_push_of_some _ e1
end
end L2
namespace L2
open PySem PySem.Spec PyProof.Rows
open PySem.W (clsIn findIn takerIn InstAt Looks mroIn)
structure vQ(K:PySem.W.Frag)(C:Addr):Prop where
 ga:findIn K (.ref C) "__getattribute__"=some (some (.builtin "BaseException.__getattribute__"))
 gn:findIn K (.ref C) "__getattr__"=some none
 be:mroIn K C (.type "BaseException")=some true
section
variable{prog:Program}{w:World}{A:Around}{E:Value->Shared->Prop}{h:Heap}{g:Array GenState}{d:Drawn}{t:Nat}{os:OsState}{K:PySem.W.Frag}{x C:Addr}{ox:Obj}{od:Option Obj}{Fc:Value}
theorem vR{Q:Unit->Shared->Prop}(X:K.In h)(I:InstAt h x ox C od)(G:vQ K C)(hq:Q () ⟨h,g,d,t,os⟩):wpAny (model prog w) A (checkBuiltinCall "BaseException.__getattribute__" ⟨[.ref x,Fc],[]⟩) Q E ⟨h,g,d,t,os⟩:=by
 have hk:builtinKind "BaseException.__getattribute__"=some .slot:=by decide +kernel
 have hsplit:splitId "BaseException.__getattribute__"=some ("BaseException","__getattribute__"):=by decide +kernel
 have ha:=F.args_bexc_ga (.ref x) Fc;have L:Looks (model prog w) h (isInstance (.ref x) (.type "BaseException")) true:=(I.type).andThen (PySem.W.looks_mroIn X G.be);simp only[checkBuiltinCall,hk,hsplit];refine wpAny_bind (L.at ?_)
 repeat (any_goals (first | assumption | wp_step))
theorem za{v:Value}{t':Nat}{R:Result->Shared->Prop}(X:K.In h)(I:InstAt h x ox C od)(G:vQ K C)(hf:∀ (Q:Fin->Shared->Prop) (E:Value->Shared->Prop),Q (.done (.ret v)) ⟨h,g,d,t',os⟩->wpAny (model prog w) A.in1 (Builtin.«object.__getattribute__» ⟨[.ref x,Fc],[]⟩) Q E ⟨h,g,d,t,os⟩)
  (hq:R (.ok (.ret v)) ⟨h,g,d,t',os⟩):codeAny (model prog w) A (.call (.builtin "BaseException.__getattribute__") ⟨[.ref x,Fc],[]⟩) R ⟨h,g,d,t,os⟩:=
 codeAny_call_builtin F.attr_ValueError.ga.plain F.entry_bexc_ga (vR X I G (hf _ _ hq))
theorem Gd{v:Value}{t':Nat}{fill expr:Bool}{Q:Value->Shared->Prop}(X:K.In h)(I:InstAt h x ox C od)(G:vQ K C)(hf:∀ (A:Around) (Q:Fin->Shared->Prop) (E:Value->Shared->Prop),Q (.done (.ret v)) ⟨h,g,d,t',os⟩->wpAny (model prog w) A (Builtin.«object.__getattribute__» ⟨[.ref x,Fc],[]⟩) Q E ⟨h,g,d,t,os⟩)
  (hh:handedOut v=pure v) (hq:Q v ⟨h,g,d,t',os⟩):wpAny (model prog w) A (getAttrBy (.ref x) Fc fill expr) Q E ⟨h,g,d,t,os⟩:=by
 have L0:=I.type (M:=model prog w);have L1:=PySem.W.looks_findIn (M:=model prog w) X G.ga;have L2:=PySem.W.looks_findIn (M:=model prog w) X G.gn;have f3:=F.attr_ValueError.ga.bind (.ref x);have hx0:(expr && onTheHeap (Value.builtin "BaseException.__getattribute__"))=false:=by cases expr<;>rfl
 have hx2:(Value.builtin "BaseException.__getattribute__" == Value.builtin "object.__getattribute__")=false:=by decide +kernel
 unfold getAttrBy;refine wpAny_holding (wpAny_bind (L0.at (wpAny_bind (L1.at ?_))))
 show wpAny _ _ (if (onTheHeap (.ref C) && Value.builtin "BaseException.__getattribute__" == Value.builtin "object.__getattribute__")=true then _ else _) _ _ _
 rw[if_neg (by rw[hx2];simp)]
 unfold getAttrByItsOwn hookBefore;rw[if_pos (by rfl)]
 refine wpAny_bind (L2.at ?_)
 repeat (any_goals (first | assumption | wp_step))
 refine za X I G (hf _) ?_
 show wpAny _ _ (handedOut v) _ _ _
 rw[hh];exact wpAny_pure hq
theorem zb{v:Value}{name:Str}{expr:Bool}{Q:Value->Shared->Prop}(X:K.In h)(I:InstAt h x ox C od)(G:vQ K C)(hf:PySem.W.findObj K C od name=some (.value v))(hh:PySem.W.handedIn v=true)(hq:Q v ⟨h,g,d,t + 1,os⟩) :
  wpAny (model prog w) A (getAttr (.ref x) name expr) Q E ⟨h,g,d,t,os⟩:=by
 unfold getAttr;refine wpAny_bind (wpAny_mkText (Gd X I G (fun A' Q' E' q => ?_) (PySem.W.handedOut_of hh) hq))
 have L0:=I.type (M:=model prog w);have L1:=PySem.W.looks_find (M:=model prog w) X I hf;unfold Builtin.«object.__getattribute__»;refine wpAny_bind (wpAny_pure (wpAny_bind (wpAny_pure (wpAny_bind (L0.at (wpAny_bind (L1.at ?_)))))));exact wpAny_pure q
end
end L2
namespace L2
open PySem PySem.Spec PyProof.Rows
open PySem.W (clsIn findIn takerIn InstAt)
structure nu(K:PySem.W.Frag)(C N fI:Addr):Prop where
 ex:∃ (nm q:Str) (bs bm:List Value) (sn:List Str) (sub:List Value) (ab:Bool) (col:Option Bool) (dd:Option Addr) (k0 k1 k2 k3 k5:Option Value),
  K.lookup C=some (excClassObj nm q C N bs bm true sn sub ab col dd k0 k1 k2 k3 k5 "ValueError.__new__")/\(∀ h:Heap,K.In h->OwnTail h iv bm)
 cd:∃ cd,clsIn K C=some cd/\fi cd.mro=true/\cd.hasDict=true
 sa:findIn K (.ref C) "__setattr__"=some (some (.builtin "object.__setattr__"))
 xg:vQ K C
 hd:PySem.W.hasDictIn K C=true
 ns:∀ h:Heap,K.In h->∃ mN,h.Ns N mN/\mN "__init__"=some (.ref fI)
 kp:PySem.W.keepIn K (.ref C)=true
 fn:PySem.W.typeIn K (.ref fI)=some (.type "function")
noncomputable def cA(C:Addr)(od:Option Addr)(t:Addr):Obj:=⟨.ref C,od,.fields #[.ref t,.none,.none,.none,.bool false,.none],#[]⟩
section
variable{X:Cx}{pins:List (Addr×Obj)}{σ:St}{H:Hp}{s:Shared}{e C N fI t:Addr}{fld:Str}
theorem Inv.vS(I:Inv X [] σ H s){o:Obj}(h:s.heap.get? e=some o)(hn:H e=none)(hl:e≠X.env.locals)(hf:e∉X.fs)(hd:∀ v,o.data≠.cell v):Inv X [(e,o)] σ H s:=
 ⟨I.ok,I.os,I.bare,I.base,I.loc,I.cell,I.free,I.dn,fun p hp=>by
  rcases List.mem_append.mp hp with q | q
  ·exact I.pin p (by simp[q])
  ·rw[List.mem_singleton.mp q];exact⟨h,hn,hl,hf,hd⟩,I.hok,I.len⟩
theorem Inv.vT(I:Inv X pins σ H s):Inv X [] σ H s:=
 ⟨I.ok,I.os,I.bare,I.base,I.loc,I.cell,I.free,I.dn,fun p hp=>I.pin p (by rw[List.append_nil]at hp;simp[hp]),I.hok,I.len⟩
theorem zc{Q:Unit->Shared->Prop}{E:Value->Shared->Prop}{A:Around}{v:V}{u:Value}(I:Inv X [(e,cA C none t)] σ H s)(T:nu X.K C N fI)(na:fN X.K C fld)(he:e∈X.ex\/X.s₀.heap.objs.size<=e)(hcl:∀ x c,X.env.cells.lookup x=some c->c≠e)(hpn:∀ p∈X.pn,p.1≠e)(r:RelV v u)
  (h:∀ dd s',H dd=none->dd≠e->Inv X [(e,cA C (some dd) t)] σ (upd H dd (.xd [(fld,v)])) s'->Q () s'):wpAny (model X.prog X.w) A (setAttr (.ref e) fld u) Q E s:=by
 obtain⟨cd,c1,c2,c3⟩:=T.cd;obtain⟨p1,p2,p3,p4,p5⟩:=I.pin (e,cA C none t) (by simp)
 dsimp only at p1 p2 p3 p4 p5;have hfr:H s.heap.objs.size=none:=I.hok.fresh (Nat.le_refl _);have hlt:=Heap.lt_size p1;have hne:s.heap.objs.size≠e:=Nat.ne_of_gt hlt;refine y_ I.gi p1 c1 c2 c3 T.sa na.taker fun h' t' g1 g2 g3=>h s.heap.objs.size _ hfr hne ?_
 have I0:=I.vT;have keep:∀ b o,b∉[e]->s.heap.get? b=some o->h'.get? b=some o:=fun b o hb q=>g3 b o (by simpa using hb) q
 have J:Inv X [] σ (upd H s.heap.objs.size (.xd [(fld,v)])) { s with heap:=h',toks:=t' }:=by
  refine I0.step (ch:=[e]) (fun b hb => ?_) (fun b o _ _ hb q _=>keep b o hb q) (fun b o _ _ hb q _=>⟨o.slots,keep b o hb q⟩) (fun b o hb q hn => ?_) (fun b o hb q=>⟨o,keep b o hb q⟩) (fun b xs q => ?_) (fun b o u' q => ?_) (fun b ps q => ?_) (fun m hn => ?_) ?_ I.bare
  ·rw[List.mem_singleton.mp hb]
   exact⟨he,p3,hcl,fun p hp=>hpn p (by simpa using hp)⟩
  ·rw[aI (Nat.ne_of_lt (Heap.lt_size q))];exact hn
  ·rw[aI (fun z=>by rw[z,hfr]at q;cases q)];exact q
  ·rw[aI (fun z=>by rw[z,hfr]at q;cases q)];exact q
  ·exact⟨#[],by rw[aI (fun z=>by rw[z,hfr]at q;cases q),q];simp⟩
  ·obtain⟨o,es,ep,e1,e2⟩:=hn
   exact⟨o,es,ep,keep _ o (by simp[Ne.symm p3]) e1,e2⟩
  ·intro a o q
   by_cases ha:a=s.heap.objs.size
   ·subst ha
    rw[bE]at q;cases q;refine⟨_,g2,fun f => ?_⟩
    show mY ([(fld,v)].lookup f) (if f=fld then some u else none)
    by_cases hf:f=fld
    ·rw[hf,if_pos rfl];simp[List.lookup];exact r
    ·rw[if_neg hf]
     have:(f == fld)=false:=by simpa using hf
     simp[List.lookup,this];exact trivial
   ·rw[aI ha]at q
    refine(I.hok a o q).stay (fun b u' hb q'=>keep b u' (fun z => ?_) q') (fun b q' => ?_) fun b xs q' => ?_
    ·rw[List.mem_singleton.mp z]at hb
     rcases hb with hb | hb
     ·rw[← hb,p2]at q;cases q
     ·rw[p2]at hb;cases hb
    ·rw[aI (fun z=>by rw[z,hfr]at q';cases q')];exact q'
    ·rw[aI (fun z=>by rw[z,hfr]at q';cases q')];exact q'
 exact J.vS g1 (by rw[aI (Ne.symm hne)];exact p2) p3 p4 (fun v=>by simp[cA])
theorem sE{Q:Value->Shared->Prop}{E:Value->Shared->Prop}{A:Around}{v:V}{b:Bool}{dd:Addr}{o:Obj}{fs:List (Str×V)}(I:Inv X pins σ H s)(T:nu X.K C N fI)(na:fN X.K C fld)(he:s.heap.get? e=some o)(ho:o.cls=.ref C)(hod:o.dict=some dd)(hoc:PySem.W.notCls o=true)
  (hd:H dd=some (.xd fs)) (hl:fs.lookup fld=some v) (h:∀ u,RelV v u->Inv X pins σ H { s with toks:=s.toks + 1 }->Q u { s with toks:=s.toks + 1 }):wpAny (model X.prog X.w) A (getAttr (.ref e) fld b) Q E s:=by
 obtain⟨mA,n,r⟩:=I.hok dd _ hd;obtain⟨u,hu,ru⟩:=mY.some_of (v:=v) (o:=mA fld) (by rw[← hl];exact r fld)
 obtain⟨od,g,l⟩:=i_ n;have J:InstAt s.heap e o C (some od):=⟨he,ho,hoc,by rw[hod];exact g⟩
 have J2:=h u ru (I.tok _);have K2:=I.gi;obtain⟨hh,gg,dr,tk,os⟩:=s;exact zb K2 J T.xg (PySem.W.findObj_own T.hd na (by rfl) (by rw[l,hu])) (ug ru) J2
end
end L2
namespace L2
open PySem PySem.Spec PyProof.Rows
open PySem.W (clsIn findIn takerIn InstAt)
section
variable{X:Cx}{pins:List (Addr×Obj)}{σ:St}{H:Hp}{s:Shared}{e C N fI t dd:Addr}{fld:Str}{o o':Obj}{h':Heap}
structure vU(X:Cx)(e:Addr):Prop where
 new:e∈X.ex\/X.s₀.heap.objs.size<=e
 cell:∀ x c,X.env.cells.lookup x=some c->c≠e
 pn:∀ p∈X.pn,p.1≠e
theorem Inv.Sg{t':Nat}(I:Inv X [(e,o)] σ H s)(F:vU X e)(h1:h'.get? e=some o')(hk:∀ b ob,b≠e->s.heap.get? b=some ob->h'.get? b=some ob)(hd:∀ v,o'.data≠.cell v):Inv X [(e,o')] σ H { s with heap:=h',toks:=t' }:=by
 obtain⟨p1,p2,p3,p4,p5⟩:=I.pin (e,o) (by simp)
 dsimp only at p1 p2 p3 p4 p5;have I0:=I.vT;have keep:∀ b o,b∉[e]->s.heap.get? b=some o->h'.get? b=some o:=fun b o hb q=>hk b o (by simpa using hb) q
 have J:Inv X [] σ H { s with heap:=h',toks:=t' }:=by
  refine I0.step (ch:=[e]) (fun b hb => ?_) (fun b o _ _ hb q _=>keep b o hb q) (fun b o _ _ hb q _=>⟨o.slots,keep b o hb q⟩) (fun b o hb q hn=>hn) (fun b o hb q=>⟨o,keep b o hb q⟩) (fun b xs q=>q) (fun b o u' q=>q) (fun b ps q=>⟨#[],by rw[q];simp⟩) (fun m hn => ?_) ?_ I.bare
  ·rw[List.mem_singleton.mp hb]
   exact⟨F.new,p3,F.cell,fun p hp=>F.pn p (by simpa using hp)⟩
  ·obtain⟨o,es,ep,e1,e2⟩:=hn
   exact⟨o,es,ep,keep _ o (by simp[Ne.symm p3]) e1,e2⟩
  ·intro a u q
   refine(I.hok a u q).stay (fun b u' hb q'=>keep b u' (fun z => ?_) q') (fun b q'=>q') fun b xs q'=>q'
   rw[List.mem_singleton.mp z]at hb;rcases hb with hb | hb
   ·rw[← hb,p2]at q;cases q
   ·rw[p2]at hb;cases hb
 exact J.vS h1 p2 p3 p4 hd
structure XBase(K:PySem.W.Frag)(mg:Str->Option Value)(bn:Str)(B0:Addr):Prop where
 mg:mg bn=some (.ref B0)
 ga:PySem.W.specialIn K (.ref B0) "__getattribute__"=some (some (.builtin "type.__getattribute__"))
 rd:PySem.W.readsIn K B0 (.type "type")=true
 ini:PySem.W.findCls K (.ref B0) (.type "type") "__init__"=some (.val (.builtin "ValueError.__init__"))
theorem vV{bn:Str}{B0:Addr}{v:V}{fs:List (Str×V)}{i:Nat}{sf:Str}{p1 p2 p3 p4 apos pos:Pos}{pl:Sem Bool}{Q:Value->Shared->Prop}(I:Inv X [(e,cA C (some dd) t)] σ H s)(F:vU X e)(T:nu X.K C N fI)(B:XBase X.K X.mg bn B0)(na:fN X.K C fld)
  (hd:H dd=some (.xd fs)) (hl:fs.lookup fld=some v) (hN:X.N[i]?=some sf) (hv:yw X.env.scope sf) (hσ:σ[i]?=some (some (.ref e))) (hg:Gl X bn)
  (ht:eval (.Call (.Attribute (.Name bn p1) "__init__" apos) [.Name sf p2,.Attribute (.Name sf p3) fld p4] [] pos) X.env=(do
   let ov ← eval (.Name bn p1) X.env
   standAt apos.atName
   let (f,first) ← holding [ov] (getMethod ov "__init__" pl)
   callWith pos f first (backTo pos (starEach [.Name sf p2,.Attribute (.Name sf p3) fld p4] X.env)) (backToKw pos (keywordEach [] X.env))))
  (h:∀ t' s',Inv X [(e,cA C (some dd) t')] σ H s'->Q .none s') (hdb:(bn == ("__debug__":Str))=false:=by decide) (hd1:(sf == ("__debug__":Str))=false:=by decide) (hd2:(sf == ("__classdict__":Str))=false:=by decide) :
  wpAny (model X.prog X.w) X.A (eval (.Call (.Attribute (.Name bn p1) "__init__" apos) [.Name sf p2,.Attribute (.Name sf p3) fld p4] [] pos) X.env) Q X.xe s:=by
 refine PySem.W.methodCall_KW (pl:=pl) (gT I hg B.mg ?_ hdb) ht;refine PySem.W.method_cls I.gi B.ga (PySem.W.cls_value I.gi B.rd B.ini (by decide +kernel) ?_)
 have I1:=I.tok (s.toks + 1);refine PyProof.Rows.callWith_builtin1 ?_ rfl rfl;refine Calls.spliced_cons (cz (km (pos:=p2) hN hv hd1 hd2 _ _ σ H (fun w H'=>w=.ref e/\H'=H) I1 ⟨.ref e,hσ,rfl,rfl⟩) fun u s1 ⟨w,H1,J1,r1,hw,hH⟩ => ?_)
 subst hw hH;cases (show u=Value.ref e from r1)
 refine Calls.spliced_cons (sd rfl (cz (km (pos:=p3) hN hv hd1 hd2 _ _ σ H1 (fun w H'=>w=.ref e/\H'=H1) J1 ⟨.ref e,hσ,rfl,rfl⟩) fun u s2 ⟨w,H2,J2,r2,hw,hH⟩ => ?_))
 subst hw hH;cases (show u=Value.ref e from r2)
 obtain⟨q1,_,_,_,_⟩:=J2.pin (e,cA C (some dd) t) (by simp)
 refine sE J2 T na q1 rfl rfl rfl hd hl fun u ru J3 => ?_
 refine Calls.spliced_nil ?_;obtain⟨nm,q,bs,bm,sn,sub,ab,col,Mn,k0,k1,k2,k3,k5,hC,ot⟩:=T.ex;obtain⟨z1,_,_,_,_⟩:=J3.pin (e,cA C (some dd) t) (by simp)
 refine wpAny_call (lT PySem.F.excBase_ValueError (ot _ J3.gi) (J3.gi _ _ hC) z1 (by show 1<=sizeLine;decide) fun h' g1 g2 g3 => ?_)
 exact h _ _ (J3.Sg F g1 g3 (fun v=>by simp[cA]))
end
end L2
namespace L2
open PySem PySem.Spec PyProof.Rows
section
variable{X:Cx}{pins:List (Addr×Obj)}{σ:St}{H:Hp}{s:Shared}{e:Addr}
noncomputable def Cx.mk1(X:Cx)(e:Addr):Cx:={ X with ex:=[e] }
theorem Inv.mk1(I:Inv X pins σ H s)(hx:X.ex=[])(h1:e≠X.env.locals)(h2:∀ x c,X.env.cells.lookup x=some c->c≠e)(h3:∀ o,X.base.get? e≠some o)(h4:e∉X.fs):Inv (X.mk1 e) pins σ H s:=
 ⟨⟨I.ok.mod,I.ok.kind,I.ok.glob,I.ok.blt,I.ok.above,I.ok.inj,I.ok.has,I.ok.cab,I.ok.hd,I.ok.frames,I.ok.Bo,fun b hb=>by rw[List.mem_singleton.mp hb];exact⟨h1,h2⟩,I.ok.bs,I.ok.t9,fun b o q hb=>by rw[List.mem_singleton.mp hb]at q;exact h3 o q,fun b hb=>by rw[List.mem_singleton.mp hb];exact h4,I.ok.gh,I.ok.vh⟩,
  I.os,I.bare,I.base.mono (fun _ h=>h) (by rw[hx];simp),I.loc,I.cell,I.free,I.dn,I.pin,I.hok,I.len⟩
end
section
variable{P:Program}{w:World}{K:PySem.W.Frag}{mg:Str->Option Value}{base:Heap}
theorem zd{x qual sf pn bn fld:Str}{st:Stmt}{f c C N0 B0:Addr}{fd:FuncData}{k:Nat}{ve:Expr}{a1 a2 p1 p2 p3 p4 apos pos a3 p5:Pos}{pl:Env->Sem Bool}{gm:VK}
  (F:uk K x qual st f fd) (hcv:fd.code=.ref c) (S:fO [sf,pn] [sf,pn] (af st)) (T:nu K C N0 f) (B:XBase K mg bn B0) (na:fN K C fld)
  (hbd:aV st=[.Assign [.Attribute (.Name sf a1) fld a2] ve a3,.Expr (.Call (.Attribute (.Name bn p1) "__init__" apos) [.Name sf p2,.Attribute (.Name sf p3) fld p4] [] pos) p5])
  (hg:(af st).names.lookup bn=some .globalImplicit) (Mo:(af st).names.lookup sf=some .local)
  (hsw:∀ env,swapsWith ve (some (.Attribute (.Name sf a1) fld a2)) a3.line env=pure false) (hl:(apos.endLine == pos.line)=true)
  (ht:∀ env:Env,eval (.Call (.Attribute (.Name bn p1) "__init__" apos) [.Name sf p2,.Attribute (.Name sf p3) fld p4] [] pos) env=(do
   let ov ← eval (.Name bn p1) env
   standAt apos.atName
   let (f,first) ← holding [ov] (getMethod ov "__init__" (pl env))
   callWith pos f first (backTo pos (starEach [.Name sf p2,.Attribute (.Name sf p3) fld p4] env)) (backToKw pos (keywordEach [] env))))
  {A:Around} {outer:List Env} {s:Shared} {H:Hp} {u:Value} {v0:V} {e t0:Addr} {R:Result->Shared->Prop}
  (ze:∀ E,∃ tv,PE ((cx eG P w K mg base [sf,pn] qual (af st) f (.ref c) A outer s H E).jv.mk1 e) ve tv/\tv (start [sf,pn] [.ref e,v0]) H gm)
  (hr:bY (k + 1) A) (e0:oU P w K mg base A outer s H) (hb:BindsTo s fd ⟨[.ref e,u],[]⟩ [(sf,.ref e),(pn,u)]) (rv:RelV v0 u)
  (he:s.heap.get? e=some (cA C none t0)) (Sh:base.objs.size<=e) (Si:H e=none) (hef:e∉frs outer)
  (h:∀ v H2 dd t' s',gm v H2->s'.os=s.os->AllBare s'.gens->Un (frs outer) [e] H (upd H2 dd (.xd [(fld,v)])) s.heap s'.heap->jt P w (upd H2 dd (.xd [(fld,v)])) s'.heap->H2 dd=none->dd≠e ->
   s'.heap.get? e=some (cA C (some dd) t')->upd H2 dd (.xd [(fld,v)]) e=none->R (.ok (.ret (.ref e))) s')
  (hd0:(bn == ("__debug__":Str))=false:=by decide) (hd1:(sf == ("__debug__":Str))=false:=by decide) (hd2:(sf == ("__classdict__":Str))=false:=by decide) :
  codeAny (model P w) A (.call (.ref f) ⟨[.ref e,u],[]⟩) (PySem.W.InitBack e R) s:=by
 obtain⟨oc,od,kV,doc,pm,an,cdv,ct,osl,rfl,lk,hcd⟩:=F.ex;obtain rfl:cdv=.ref c:=hcv;have KX:K.In s.heap:=e0.mod.E5.keeps fun b o e=>(e0.bs b o e).1
 have lim:s.heap.NoLimit:=e0.mod.nolimit.keeps fun b o e=>(e0.bs b o e).1
 have hkind:∀ y∈[sf,pn].zip [.ref e,u],(af st).names.lookup y.1=some .local\/((af st).names.lookup y.1=some .cell/\((cellsFrom (s.heap.objs.size + 1) (af st).names []).lookup y.1).isSome=true):=fun ⟨n,v⟩ hy=>by
  rcases S.par n (List.of_mem_zip hy).1 with q | q
  ·exact .inl q
  ·exact .inr ⟨q,PySem.W.cellsFrom_some _ _ _ (.inl q)⟩
 refine codeAny_call_function hr.depth (KX _ _ lk) rfl S.co S.gen rfl (PySem.W.codeRec_of KX hcd) (hb _ _ _ _ ?_);refine wpAny_newFunctionEnv_cells S.kind hkind fun env hen s1 x => ?_
 subst hen;refine⟨lim.keeps x.toInCall.keep,codeAny_func ?_⟩;have E:XK:=fun _ _ _=>False
 have I:Inv (cx eG P w K mg base [sf,pn] qual (af st) f (.ref c) A outer s H E) [] (start [sf,pn] [.ref e,v0]) H s1:=ja (us:=[.ref e,u]) S hr.hd e0 rfl (.cons rfl (.cons rv .nil)) x;have hlt:=Heap.lt_size he;have hloc:e≠s.heap.objs.size:=Nat.ne_of_lt hlt
 have hcl:∀ (y:Str) (cc:Addr),(envOfC qual (af st) s.heap.objs.size f (.ref c)).cells.lookup y=some cc->cc≠e:=fun y cc hy z=>by
  have:=I.ok.cab y cc rfl hy;rw[z]at this;exact absurd (Nat.lt_of_lt_of_le hlt this) (Nat.lt_irrefl _)
 have I1:=(I.wish (fun _ _=>False)).mk1 (e:=e) rfl hloc hcl (fun o q=>absurd (Nat.lt_of_lt_of_le (Heap.lt_size q) Sh) (Nat.lt_irrefl _)) hef
 have I2:=I1.vS (x.toInCall.keep _ _ he) Si hloc hef (fun v=>by simp[cA])
 obtain⟨tv,hpe,htv⟩:=ze E
 have run:wpAny (model P w) (A.deeper (envOfC qual (af st) s.heap.objs.size f (.ref c))) (execs (aV st) (envOfC qual (af st) s.heap.objs.size f (.ref c)))
   (fun fl s'=>fl=.next/\∃ v H2 dd t',gm v H2/\H2 dd=none/\dd≠e/\Inv ((cx eG P w K mg base [sf,pn] qual (af st) f (.ref c) A outer s H E).jv.mk1 e) [(e,cA C (some dd) t')] (start [sf,pn] [.ref e,v0]) (upd H2 dd (.xd [(fld,v)])) s') (fun _ _=>False) s1:=by
  generalize hX:(cx eG P w K mg base [sf,pn] qual (af st) f (.ref c) A outer s H E).jv.mk1 e=X at *;have xe:X.env=envOfC qual (af st) s.heap.objs.size f (.ref c):=by rw[← hX];rfl
  have xN:X.N=[sf,pn]:=by rw[← hX];rfl
  have xA:X.A=A.deeper (envOfC qual (af st) s.heap.objs.size f (.ref c)):=by rw[← hX];rfl
  have xK:X.K=K:=by rw[← hX];rfl
  have xm:X.mg=mg:=by rw[← hX];rfl
  have xp:X.prog=P:=by rw[← hX];rfl
  have xw:X.w=w:=by rw[← hX];rfl
  have xx:X.xe=fun _ _=>False:=by rw[← hX];rfl
  have fr:vU X e:=⟨.inl (by rw[← hX];simp[Cx.mk1]),by rw[xe];exact hcl,by rw[← hX];intro p hp;cases hp⟩
  rw[← xA,← xe,← xp,← xw,← xx,hbd];rw[← xK]at T B na;rw[← xm]at B;have hN:X.N[0]?=some sf:=by rw[xN];rfl
  have hv:yw X.env.scope sf:=.inl (by rw[xe];exact Mo)
  have Sj:Gl X bn:=by show X.env.scope.names.lookup bn=_;rw[xe];exact hg
  refine wpAny_execs_cons (plainObj_wpAny_Assign_Attribute (cz (hpe _ s1 _ H gm I2 htv) fun u1 s2 ⟨v,H2,J2,r2,q2⟩ => ?_) (hsw _))
  refine cz (km (pos:=a1) hN hv hd1 hd2 _ _ _ H2 (fun z H'=>z=.ref e/\H'=H2) J2 ⟨.ref e,rfl,rfl,rfl⟩) fun u2 s3 ⟨z,H3,J3,r3,hz,hH⟩ => ?_
  subst hz hH;cases (show u2=Value.ref e from r3)
  refine zc J3 T na fr.new fr.cell fr.pn r2 fun dd s4 hdd hne J4 => ?_
  refine wpAny_execs_cons (wpAny_Expr_any (vV (v:=v) (fs:=[(fld,v)]) J4 fr T B na bE (by simp[List.lookup]) hN hv rfl Sj (ht X.env) (fun t' s5 J5 => ?_) hd0 hd1 hd2) J4.quiet (by rfl))
  exact wpAny_execs_nil ⟨rfl,v,_,dd,t',q2,hdd,hne,J5⟩
 refine wpAny_mono run (fun fl s' hs => ?_) fun _ _ z=>z.elim
 obtain⟨rfl,v,H2,dd,t',q2,hdd,hne,J⟩:=hs;obtain⟨g1,g2,_,_,_⟩:=J.pin (e,cA C (some dd) t') (by simp)
 exact⟨rfl,h v H2 dd t' s' q2 J.os J.bare J.base J.hok hdd hne g1 g2⟩
end
section
variable{M:Model}{A:Around}{E:Value->Shared->Prop}{s:Shared}
structure sF(l:List Env)(e:Addr)(oe:Obj)(T:Addr)(h h':Heap):Prop where
 keep:∀ b o,b≠e->b∉frs l->h.get? b=some o->h'.get? b=some o
 slot:∀ b o,b≠e->h.get? b=some o->∃ sl,h'.get? b=some { o with slots:=sl }
 at_:h'.get? e=some (oe.mapFields (·.setIfInBounds 1 (.ref T)))
 tb:∃ oT ts,h'.get? T=some oT/\oT.data=.fields ts/\ts[3]?=some .none
 new:h.objs.size<=T
def qN(h:Heap)(vs:Array Value):Prop:=vs[1]?=some .none\/∃ T0 JS ts0,vs[1]?=some (.ref T0)/\h.get? T0=some JS/\JS.data=.fields ts0/\ts0[3]?=some .none
theorem sG{base:Heap}{env:Env}{outer:List Env}{L e:Addr}{oe:Obj}{vs:Array Value}{head:Value}{hadNext:Bool}{Q:Unit->Shared->Prop}
  (hfr:A.frames=some (env::outer)) (hl:s.heap.FunFrames base (env::outer)) (hf:env.frame=some L) (he:s.heap.get? e=some oe) (hd:oe.data=.fields vs) (hsz:1 < vs.size)
  (h:∀ h' T,sF (env::outer) e oe T s.heap h'->Q () { s with heap:=h' }) :
  wpAny M A (do let a ← frameOf env;let pl ← entryPlaceOf L hadNext;let b ← EntryCells.newEntry head a .none (rawInt L) .none pl;setField (.ref e) 1 b) (fun _ s'=>wpAny M A (setFlight (.ref e) none) Q E s') E s:=by
 have hene:e∉frs (env::outer):=fun hm=>by
  obtain⟨_,o,ho,hnf⟩:=hl.mem hm;rw[he]at ho;injection ho with ho;subst ho;exact hnf vs hd
 refine wpAny_bind (wpAny_frameOf_fun hfr hl hf fun h₁ hs₁ => ?_)
 refine wpAny_bind (wpAny_entryPlaceOf fun pl hpl => ?_)
 unfold EntryCells.newEntry newFields;refine wpAny_bind (wpAny_newObj_type ?_ (hpl.sizeOk5 _ _ _ _ _));have he₁:h₁.get? e=some oe:=(hs₁.2.1 e hene).trans he;generalize hob:({ cls:=.type "traceback",dict:=none,data:=.fields ([head,.ref L,.none,rawInt L,.none]++(if pl.isEmpty then List.replicate 6 Value.none else pl)).toArray }:Obj)=ob at *
 have CJ:ob.data=.fields ([head,.ref L,.none,rawInt L,.none]++(if pl.isEmpty then List.replicate 6 Value.none else pl)).toArray:=by rw[← hob]
 have Mp:ob.isFreed=false:=by rw[← hob];rfl
 have he₂:=Heap.get?_push_of_some (h:=h₁) ob he₁;have hTe:h₁.objs.size≠e:=Nat.ne_of_gt (Heap.lt_size he₁);refine wpAny_setField he₂ hd hsz ?_;have hd₃:=Obj.data_mapFields hd (·.setIfInBounds 1 (Value.ref h₁.objs.size));have he₃:=Heap.get?_update_self (Obj.mapFields (·.setIfInBounds 1 (Value.ref h₁.objs.size))) he₂ (Obj.isFreed_of_fields hd₃);have hT₃:((h₁.push ob).update e (Obj.mapFields (·.setIfInBounds 1 (Value.ref h₁.objs.size)))).get? h₁.objs.size=some ob:=(Heap.get?_update_other _ _ (Ne.symm hTe)).trans (Heap.get?_push_size h₁ Mp);unfold setFlight;refine wpAny_bind (wpAny_field he₃ hd₃ (x:=.ref h₁.objs.size) (by simp[hsz]) ?_)
 rw[if_pos (show(Value.ref h₁.objs.size != Value.none)=true from by simp)]
 refine wpAny_setField hT₃ CJ (by simp) (h _ h₁.objs.size ?_)
 have keep:∀ b o,b≠e->h₁.get? b=some o->(((h₁.push ob).update e (Obj.mapFields (·.setIfInBounds 1 (Value.ref h₁.objs.size)))).update h₁.objs.size (Obj.mapFields (·.setIfInBounds 3 ((none:Option Addr).elim Value.none fun f=>rawInt f)))).get? b=some o:=fun b o hbe hb=>by
  have hbT:h₁.objs.size≠b:=Nat.ne_of_gt (Heap.lt_size hb);rw[Heap.get?_update_other _ _ hbT,Heap.get?_update_other _ _ (Ne.symm hbe)];exact Heap.get?_push_of_some _ hb
 refine⟨fun b o hb hn q=>keep b o hb ((hs₁.2.1 b hn).trans q),fun b o hb q => ?_,?_,?_,by rw[hs₁.1];exact Nat.le_refl _⟩
 ·obtain⟨sl,q1⟩:=hs₁.2.2 b o q
  exact⟨sl,keep b _ hb q1⟩
 ·rw[Heap.get?_update_other _ _ hTe];exact he₃
 ·exact⟨_,_,Heap.get?_update_self _ hT₃ (Obj.isFreed_of_fields (Obj.data_mapFields CJ _)),Obj.data_mapFields CJ _,by simp⟩
theorem vW{base:Heap}{env:Env}{outer:List Env}{L e:Addr}{oe:Obj}{vs:Array Value}{Q:Unit->Shared->Prop}
  (hfr:A.frames=some (env::outer)) (hl:s.heap.FunFrames base (env::outer)) (hf:env.frame=some L) (he:s.heap.get? e=some oe) (hd:oe.data=.fields vs) (h1:qN s.heap vs)
  (h:∀ h' T,sF (env::outer) e oe T s.heap h'->Q () { s with heap:=h' }) :
  wpAny M A (noteFrame (.ref e) env) (fun _ s'=>wpAny M A (setFlight (.ref e) none) Q E s') E s:=by
 unfold noteFrame;simp only[hf];rcases h1 with h1 | ⟨T0,JS,ts0,h1,g1,g2,g3⟩
 ·refine wpAny_bind (wpAny_field he hd h1 ?_)
  rw[if_neg (by decide)]
  exact sG hfr hl hf he hd (Array.getElem?_eq_some_iff.mp h1).1 h
 ·refine wpAny_bind (wpAny_field he hd h1 ?_)
  rw[if_pos (show(Value.ref T0 != Value.none)=true from by simp)]
  refine wpAny_bind (wpAny_field g1 g2 g3 ?_);rw[if_neg (show ¬ ((Value.none == rawInt L)=true) from by simp[rawInt])]
  refine wpAny_bind (wpAny_setField g1 g2 (Array.getElem?_eq_some_iff.mp g3).1 ?_);rw[Heap.update_setField_same s.heap T0 JS ts0 3 .none g1 g2 g3];exact sG hfr hl hf he hd (Array.getElem?_eq_some_iff.mp h1).1 h
theorem um{base:Heap}{env:Env}{outer:List Env}{L e:Addr}{oe:Obj}{vs:Array Value}{Q:Unit->Shared->Prop}
  (hfr:A.frames=some (env::outer)) (hl:s.heap.FunFrames base (env::outer)) (hf:env.frame=some L) (he:s.heap.get? e=some oe) (hd:oe.data=.fields vs) (h1:qN s.heap vs)
  (h:∀ h' T,sF (env::outer) e oe T s.heap h'->Q () { s with heap:=h' }):wpAny M A (leaving env (.ref e)) Q E s:=by
 unfold leaving;exact wpAny_bind (vW hfr hl hf he hd h1 h)
end
structure vX(K:PySem.W.Frag)(mg:Str->Option Value)(C N0 f c:Addr)(fd:FuncData)(st:Stmt)(qual fld sf pn:Str)(ve:Expr):Prop where
 fn:∃ x,uk K x qual st f fd
 cv:fd.code=.ref c
 sc:fO [sf,pn] [sf,pn] (af st)
 cls:nu K C N0 f
 bs:Binds K fd [sf,pn] []
 na:fN K C fld
 sl:(af st).names.lookup sf=some .local
 d1:(sf == ("__debug__":Str))=false
 d2:(sf == ("__classdict__":Str))=false
 body:∃ (bn:Str) (B0:Addr) (a1 a2 a3 p1 p2 p3 p4 p5 apos pos:Pos) (pl:Env->Sem Bool),XBase K mg bn B0/\(bn == ("__debug__":Str))=false/\(af st).names.lookup bn=some .globalImplicit /\
  aV st=[.Assign [.Attribute (.Name sf a1) fld a2] ve a3,.Expr (.Call (.Attribute (.Name bn p1) "__init__" apos) [.Name sf p2,.Attribute (.Name sf p3) fld p4] [] pos) p5] /\
  (∀ env,swapsWith ve (some (.Attribute (.Name sf a1) fld a2)) a3.line env=pure false)/\(apos.endLine == pos.line)=true /\
  (∀ env:Env,eval (.Call (.Attribute (.Name bn p1) "__init__" apos) [.Name sf p2,.Attribute (.Name sf p3) fld p4] [] pos) env=(do
   let ov ← eval (.Name bn p1) env
   standAt apos.atName
   let (f,first) ← holding [ov] (getMethod ov "__init__" (pl env))
   callWith pos f first (backTo pos (starEach [.Name sf p2,.Attribute (.Name sf p3) fld p4] env)) (backToKw pos (keywordEach [] env))))
section
variable{X:Cx}{pins:List (Addr×Obj)}{σ:St}{H:Hp}{s:Shared}{C N0 f c:Addr}{fd:FuncData}{st:Stmt}{qual fld sf pn:Str}{ve:Expr}{k:Nat}{v0:V}{u:Value}{gm:VK}
theorem CK(D:vX X.K X.mg C N0 f c fd st qual fld sf pn ve)(I:Inv X pins σ H s)(hr:bY (k + 2) X.A)(rv:RelV v0 u)
  (ze:∀ (A:Around) (s':Shared) (e:Addr) (E:XK),bY k (A.deeper (envOfC qual (af st) s'.heap.objs.size f (.ref c)))->∃ tv,PE ((cx eG X.prog X.w X.K X.mg X.base [sf,pn] qual (af st) f (.ref c) A X.stack s' H E).jv.mk1 e) ve tv/\tv (start [sf,pn] [.ref e,v0]) H gm)
  {Q:Value->Shared->Prop} (h:∀ e dd t v H2 s',gm v H2->Inv X pins σ (upd H2 dd (.xd [(fld,v)])) s'->s'.heap.get? e=some (cA C (some dd) t)->s.heap.objs.size<=e->upd H2 dd (.xd [(fld,v)]) e=none->H2 dd=none->Q (.ref e) s') :
  wpAny (model X.prog X.w) X.A (call (.ref C) [u]) Q X.xe s:=by
 obtain⟨nm,q,bs,bm,sn,sub,ab,col,Mn,k0,k1,k2,k3,k5,hC,ot⟩:=D.cls.ex;obtain⟨mN,hn,hni⟩:=D.cls.ns _ I.gi;obtain⟨x,F⟩:=D.fn;obtain⟨bn,B0,a1,a2,a3,p1,p2,p3,p4,p5,apos,pos,pl,B,hd0,hg,hbd,hsw,hl,ht⟩:=D.body;have kx:∀ b o,s.heap.get? b=some o->(ei s.heap C [u]).get? b=some o:=fun b o e=>Heap.get?_push_of_some _ (Heap.get?_push_of_some _ e)
 have I2:Inv X pins σ H { s with heap:=ei s.heap C [u] }:=I.kept (t':=s.toks) kx
 have hget:(ei s.heap C [u]).get? (s.heap.objs.size + 1)=some (cA C none s.heap.objs.size):=by
  show(ei s.heap C [u]).get? (s.heap.objs.size + 1)=some ({ cls:=.ref C,data:=.fields #[.ref s.heap.objs.size,.none,.none,.none,.bool false,.none] }:Obj)
  heap_get
 have hfe:H (s.heap.objs.size + 1)=none:=I.hok.fresh (Nat.le_succ _);have hne:∀ b o,s.heap.get? b=some o->b≠s.heap.objs.size + 1:=fun b o q=>Nat.ne_of_lt (Nat.lt_succ_of_lt (Heap.lt_size q))
 have hef:s.heap.objs.size + 1∉frs X.stack:=fun z=>by
  obtain⟨_,o,ho,_⟩:=I.stack.mem z;exact hne _ _ ho rfl
 refine wpAny_call ?_;have hz:[u].length<=sizeLine:=by show 1<=sizeLine;decide
 refine vO PySem.F.excBase_ValueError (ot _ I.gi) (I.gi _ _ hC) hn hni (fun self=>PySem.W.bind_fn I.gi self D.cls.fn) hz ?_
 refine zd (k:=k) (gm:=gm) (v0:=v0) F D.cv D.sc D.cls B D.na hbd hg D.sl hsw hl ht (fun E=>ze _ _ _ E ?_) (hr.make C [u] []) (I2.env0.make C [u] []) (D.bs _ [.ref (s.heap.objs.size + 1),u] I2.gi rfl) rv hget ?_ hfe hef (fun v H2 dd t' s' q2 ho hbr un hok hdd Sl g1 g2 => ?_) hd0 D.d1 D.d2
 ·exact(hr.make C [u] []).deeper _
 ·exact Nat.le_trans (Nat.le_trans I.ok.t9 I.sz) (Nat.le_succ _)
 ·refine h (s.heap.objs.size + 1) dd t' v H2 s' q2 (I.call' (ch:=[]) ho ⟨fun b o e n hb _=>un.keep b o (kx b o e) n hb (by simpa using hne b o e),fun b o e n hb _=>un.slot b o (kx b o e) n hb (by simpa using hne b o e),fun b o e n _=>un.free b o (kx b o e) n (by simpa using hne b o e),fun b o e _=>un.there b o (kx b o e) (by simpa using hne b o e),un.tups,un.iq,un.jH⟩ hok hbr (by simp)) g1 (Nat.le_succ _) g2 hdd
end
section
variable{M:Model}{A:Around}{E:Value->Shared->Prop}{s:Shared}{env:Env}
variable{nm q:Str}{C N:Addr}{bs bm:List Value}{hdct:Bool}{sn:List Str}{sub:List Value}{ab:Bool}{col:Option Bool}{dd:Option Addr}{k0 k1 k2 k3 k5:Option Value}{newId:String}
theorem kA{x:Sem Value}{Q:Flow->Shared->Prop}(hbase:bm.contains (.type "BaseException")=true)(hh:A.handled=none)
  (h:wpAny M A x (fun v s₁=>∃ e od t,v=.ref e/\s₁.heap.get? C=some (excClassObj nm q C N bs bm hdct sn sub ab col dd k0 k1 k2 k3 k5 newId)/\s₁.heap.get? e=some (cA C od t)/\E (.ref e) s₁) E s) :
  wpAny M A (raiseStmt env (some x) none) Q E s:=by
 have hcB:(Value.ref C::bm).contains (.type "BaseException")=true:=by rw[List.contains_cons,hbase,Bool.or_true]
 unfold raiseStmt;refine wpAny_bind (wpAny_mono h (fun v s₁ h₁ => ?_) fun _ _ x=>x)
 obtain⟨e,od,t,rfl,hC,he,hE⟩:=h₁;obtain⟨hp,g,d,tk,os⟩:=s₁;have he:hp.get? e=some ⟨.ref C,od,.fields #[.ref t,.none,.none,.none,.bool false,.none],#[]⟩:=he
 repeat (first | with_reducible refine wpAny_loadPart_at he ?_ | with_reducible refine wpAny_loadPart_at hC ?_ | (with_reducible refine wpAny_isSubtype_exc hC ?_;rw[hcB]) | wp_step)
 exact wpAny_raiseNew_none hh hE
theorem uo{x:Expr}{pos:Pos}{Q:Flow->Shared->Prop}(hbase:bm.contains (.type "BaseException")=true)(hh:A.handled=none)
  (h:wpAny M A (eval x env) (fun v s₁=>∃ e od t,v=.ref e/\s₁.heap.get? C=some (excClassObj nm q C N bs bm hdct sn sub ab col dd k0 k1 k2 k3 k5 newId)/\s₁.heap.get? e=some (cA C od t)/\E (.ref e) s₁) E s) :
  wpAny M A (exec (.Raise (some x) none pos) env) Q E s:=by
 rw[arm_exec_Raise]
 first
  | exact wpAny_bind (wpAny_standAt (kA hbase hh (wpAny_bind (wpAny_mono h (fun v s₁ h₁=>wpAny_bind (wpAny_standAt (wpAny_pure h₁))) fun _ _ x=>x))))
  | (show wpAny M A (do standAt pos;raiseStmt env (some (do let v ← eval x env;standAt pos;pure v)) none) Q E s;exact wpAny_bind (wpAny_standAt (kA hbase hh (wpAny_bind (wpAny_mono h (fun v s₁ h₁=>wpAny_bind (wpAny_standAt (wpAny_pure h₁))) fun _ _ x=>x)))))
end
structure qO(P:Program)(w:World)(outer:List Env)(H:Hp)(s:Shared)(e C d:Addr)(H':Hp)(s':Shared):Prop where
 os:s'.os=s.os
 bare:AllBare s'.gens
 un:Un (frs outer) [] H H' s.heap s'.heap
 hok:jt P w H' s'.heap
 new:s.heap.objs.size<=e
 free:H' e=none
 obj:∃ oe vs,s'.heap.get? e=some oe/\oe.cls=.ref C/\oe.dict=some d/\oe.data=.fields vs/\qN s'.heap vs
noncomputable def jU(P:Program)(w:World):sg:=fun outer H s E x s'=>∃ e C d H',x=.ref e/\qO P w outer H s e C d H' s'/\E (.ref C) (some d) H'
section
variable{X:Cx}{pins:List (Addr×Obj)}{σ:St}{H:Hp}{s:Shared}{e C d t:Addr}
theorem vY(I:Inv X pins σ H s)(hx:X.ex=[])(hst:X.stack=X.env::X.outer)(hfm:X.env.frame=some X.env.locals)(he:s.heap.get? e=some (cA C (some d) t))(hn:X.s₀.heap.objs.size<=e)(hH:H e=none){Q:Unit->Shared->Prop}{E:Value->Shared->Prop}
  (h:∀ s',qO X.prog X.w X.outer X.H₀ X.s₀ e C d H s'->Q () s'):wpAny (model X.prog X.w) X.A (leaving X.env (.ref e)) Q E s:=by
 have hfr:=I.ok.frames;rw[hst]at hfr;have hl:=I.stack;rw[hst]at hl;refine um hfr hl hfm he rfl (.inl rfl) fun h' T F=>h _ ?_
 have hfree:∀ b u,H b=some u->b∉frs (X.env::X.outer):=fun b u q z=>by
  have:=I.jR b (by rw[hst];exact z)
  rw[this]at q;cases q
 have hlt:∀ b o,X.s₀.heap.get? b=some o->b≠e/\b≠X.env.locals:=fun b o q=>⟨fun z=>by rw[z]at q;exact absurd (Nat.lt_of_lt_of_le (Heap.lt_size q) hn) (Nat.lt_irrefl _),fun z=>by rw[z]at q;exact absurd (Nat.lt_of_lt_of_le (Heap.lt_size q) I.ok.above) (Nat.lt_irrefl _)⟩
 have hnf:∀ b o,X.s₀.heap.get? b=some o->b∉X.fs->b∉frs (X.env::X.outer):=fun b o q hb z=>by
  unfold frs at z;rw[List.filterMap_cons,hfm]at z;rcases List.mem_cons.mp z with z | z
  ·exact(hlt b o q).2 z
  ·exact hb z
 refine⟨I.os,I.bare,⟨fun b o q n hb _ => ?_,fun b o q n hb _ => ?_,fun b o q n _=>I.base.free b o q n (by rw[hx];simp),fun b o q _ => ?_,I.base.tups,I.base.iq,I.base.jH⟩,fun a u q => ?_,hn,hH,?_⟩
 ·exact F.keep b o (hlt b o q).1 (hnf b o q hb) (I.base.keep b o q n hb (by rw[hx];simp))
 ·obtain⟨sl,q1⟩:=I.base.slot b o q n hb (by rw[hx];simp)
  obtain⟨sl',q2⟩:=F.slot b _ (hlt b o q).1 q1;exact⟨sl',q2⟩
 ·obtain⟨o',q1⟩:=I.base.there b o q (by rw[hx];simp)
  obtain⟨sl',q2⟩:=F.slot b _ (hlt b o q).1 q1;exact⟨_,q2⟩
 ·refine(I.hok a u q).stay (fun b u' hb q'=>F.keep b u' (fun z => ?_) ?_ q') (fun b q'=>q') fun b xs q'=>q'
  ·rw[z]at hb
   rcases hb with hb | hb
   ·rw[← hb,hH]at q;cases q
   ·rw[hH]at hb;cases hb
  ·rcases hb with hb | hb
   ·rw[hb];exact hfree a u q
   ·exact hfree b _ hb
 ·obtain⟨oT,ts,g1,g2,g3⟩:=F.tb
  exact⟨_,_,F.at_,rfl,rfl,rfl,.inr ⟨T,oT,ts,by simp,g1,g2,g3⟩⟩
end
def CL(te:TE)(Arg:V->Hp->Prop)(gm:V->Hp->VK)(C:Addr)(fld:Str)(E:XK):TS:=fun _ σ H=>te σ H fun v0 H1=>Arg v0 H1/\∀ v H2 dd,gm v0 H1 v H2->H2 dd=none->E (.ref C) (some dd) (upd H2 dd (.xd [(fld,v)]))
section
variable{P:Program}{w:World}{K:PySem.W.Frag}{mg:Str->Option Value}{base:Heap}{N:List Str}{qual:Str}{scope:Scope}{f:Addr}{cd:Value}{A:Around}{outer:List Env}{s0:Shared}{H0:Hp}{E:XK}
variable{C N0 fI c:Addr}{fd:FuncData}{st:Stmt}{gp fld sf pn cn:Str}{ve arg:Expr}{k:Nat}{te:TE}{Arg:V->Hp->Prop}{gm:V->Hp->VK}{np cpos pos:Pos}
theorem vZ(D:vX K mg C N0 fI c fd st gp fld sf pn ve)(hr:bY (k + 2) (A.deeper (envOfC qual scope s0.heap.objs.size f cd)))(hg:Gl (cx (jU P w) P w K mg base N qual scope f cd A outer s0 H0 E) cn)(hm:mg cn=some (.ref C))
  (harg:PE (cx (jU P w) P w K mg base N qual scope f cd A outer s0 H0 E) arg te)
  (ze:∀ v0 H1,Arg v0 H1->∀ (A':Around) (ot:List Env) (s':Shared) (e:Addr) (E':XK),bY k (A'.deeper (envOfC gp (af st) s'.heap.objs.size fI (.ref c)))->∃ tv,PE ((cx eG P w K mg base [sf,pn] gp (af st) fI (.ref c) A' ot s' H1 E').jv.mk1 e) ve tv/\tv (start [sf,pn] [.ref e,v0]) H1 (gm v0 H1))
  (hst:starEach [arg] (envOfC qual scope s0.heap.objs.size f cd)=[(false,eval arg (envOfC qual scope s0.heap.objs.size f cd))]) (hdb:(cn == ("__debug__":Str))=false:=by decide) :
  PS (cx (jU P w) P w K mg base N qual scope f cd A outer s0 H0 E) (.Raise (some (.Call (.Name cn np) [arg] [] cpos)) none pos) (CL te Arg gm C fld E):=by
 intro pins s σ H Dn I h;obtain⟨nm,q,bs,bm,sn,sub,ab,col,Mn,k0,k1,k2,k3,k5,hC,ot⟩:=D.cls.ex;have hbase:bm.contains (.type "BaseException")=true:=(ot _ I.gi).hasType (by decide +kernel)
 refine uo (C:=C) (nm:=nm) (q:=q) (N:=N0) (bs:=bs) (bm:=bm) (hdct:=true) (sn:=sn) (sub:=sub) (ab:=ab) (col:=col) (dd:=Mn) (k0:=k0) (k1:=k1) (k2:=k2) (k3:=k3) (k5:=k5) (newId:="ValueError.__new__") hbase (I.ok.hd rfl) ?_;refine wpAny_Call_Name_kw (gT I hg hm ?_ hdb);refine PySem.W.callWith_K (h₀:=base) I.ok.mod.E5 D.cls.kp ?_ hst rfl
 have hst':backTo cpos (starEach [arg] (cx (jU P w) P w K mg base N qual scope f cd A outer s0 H0 E).env)=(false,eval arg (cx (jU P w) P w K mg base N qual scope f cd A outer s0 H0 E).env)::[]:=by
  show backTo cpos (starEach [arg] (envOfC qual scope s0.heap.objs.size f cd))=_
  rw[hst];rfl
 rw[hst'];refine Calls.spliced_cons (cz (harg pins s σ H _ I h) fun u s1 ⟨v0,H1,I1,r1,ha,hq⟩=>Calls.spliced_nil ⟨I1.gi,?_⟩)
 refine CK (k:=k) (gm:=gm v0 H1) D I1 hr r1 (fun A' s' e E' hr'=>ze v0 H1 ha A' _ s' e E' hr') fun e dd t v H2 s' q2 J g1 g2 g3 g4=>⟨e,some dd,t,rfl,J.gi _ _ hC,g1,?_⟩
 exact vY J rfl rfl rfl g1 (Nat.le_trans I1.sz g2) g3 fun s'' T=>⟨e,C,dd,_,rfl,T,hq v H2 dd q2 g4⟩
end
section
variable{X:Cx}{pins:List (Addr×Obj)}{σ:St}{H H':Hp}{s s':Shared}{e C d:Addr}{h':Heap}
noncomputable def Cx.o4(X:Cx)(e:Addr):Cx:={ X with A:=X.A.mark (some (.ref e)),calm:=false,xe:=fun _ _=>False }
theorem Inv.o4(I:Inv X pins σ H s):Inv (X.o4 e) pins σ H s:=
 ⟨⟨I.ok.mod,I.ok.kind,I.ok.glob,I.ok.blt,I.ok.above,I.ok.inj,I.ok.has,I.ok.cab,(fun z=>nomatch (show false=true from z)),I.ok.frames,I.ok.Bo,I.ok.Cc,I.ok.bs,I.ok.t9,I.ok.oO,I.ok.oP,I.ok.gh,I.ok.vh⟩,
  I.os,I.bare,I.base,I.loc,I.cell,I.free,I.dn,I.pin,I.hok,I.len⟩
theorem Inv.Ge(ok:X.Ok)(I:Inv (X.o4 e) pins σ H s):Inv X [] σ H s:=
 ⟨ok,I.os,I.bare,I.base,I.loc,I.cell,I.free,I.dn,fun p hp=>I.pin p (by rw[List.append_nil]at hp;simp[show p∈(X.o4 e).pn from hp]),I.hok,I.len⟩
theorem Inv.blank{t':Nat}{m':Str->Option Value}(ok:X.Ok)(I:Inv (X.o4 e) pins σ H s)(hn:h'.Ns X.env.locals m')(hs:Heap.SameBut X.env.locals s.heap h'):Inv X [] (List.replicate X.N.length none) H { s with heap:=h',toks:=t' }:=by
 have k:∀ b o,b≠X.env.locals->s.heap.get? b=some o->h'.get? b=some o:=fun b o hb q=>(hs.2 b hb).trans q
 have E6:∀ b o,X.s₀.heap.get? b=some o->b≠X.env.locals:=fun b o q=>Nat.ne_of_lt (Nat.lt_of_lt_of_le (Heap.lt_size q) I.ok.above)
 refine⟨ok,I.os,I.bare,⟨fun b o q n hb hx=>k b o (E6 b o q) (I.base.keep b o q n hb hx),fun b o q n hb hx => ?_,I.base.free,fun b o q hx => ?_,I.base.tups,I.base.iq,I.base.jH⟩,⟨m',hn,fun i x v _ z => ?_⟩,fun x c q => ?_,I.free,I.dn,fun p hp => ?_,fun a u q => ?_,by simp⟩
 ·obtain⟨sl,q1⟩:=I.base.slot b o q n hb hx
  exact⟨sl,k b _ (E6 b o q) q1⟩
 ·obtain⟨o',q1⟩:=I.base.there b o q hx
  exact⟨o',k b _ (E6 b o q) q1⟩
 ·rw[List.getElem?_replicate]at z
  split at z<;>cases z
 ·obtain⟨v,o,q1,q2⟩:=I.cell x c q
  exact⟨v,o,k c o (I.yx x c q) q1,q2⟩
 ·rw[List.append_nil]at hp
  obtain⟨a1,a2,a3,a4,a5⟩:=I.pin p (by simp[show p∈(X.o4 e).pn from hp])
  exact⟨k _ _ a3 a1,a2,a3,a4,a5⟩
 ·refine(I.hok a u q).stay (fun b u' hb q'=>k b u' (fun z => ?_) q') (fun _ q'=>q') fun _ _ q'=>q'
  have hf:H X.env.locals=none:=I.free;rcases hb with hb | hb
  ·rw[← hb,z,hf]at q;cases q
  ·rw[z,hf]at hb;cases hb
theorem Inv.flown{oe:Obj}{T:Addr}(I:Inv X [] σ H s)(F:sF X.stack e oe T s.heap h')(Fr:vU X e)(he:e≠X.env.locals)(hH:H e=none):Inv X [] σ H { s with heap:=h' }:=by
 have hst:∀ b,b∈frs X.stack->b=X.env.locals\/b∈X.fs:=fun b z=>List.mem_cons.mp (I.m5 b z)
 refine I.step (g':=s.gens) (d':=s.drawn) (t':=s.toks) (ch:=[e]) (fun b hb => ?_) (fun b o hL hb hc q n=>F.keep b o (by simpa using hc) (fun z=>(hst b z).elim hL hb) q) (fun b o _ _ hc q _=>F.slot b o (by simpa using hc) q) (fun _ _ _ _ n=>n) (fun b o hc q => ?_) (fun _ _ q=>q) (fun _ _ _ q=>q) (fun b ps q=>⟨#[],by rw[q];simp⟩) (fun m hm => ?_) (fun a u q => ?_) I.bare
 ·rw[List.mem_singleton.mp hb]
  exact⟨Fr.new,he,Fr.cell,fun p hp=>Fr.pn p (by simpa using hp)⟩
 ·obtain⟨sl,q1⟩:=F.slot b o (by simpa using hc) q
  exact⟨_,q1⟩
 ·obtain⟨o,es,ep,e1,e2,e3⟩:=hm
  obtain⟨sl,q1⟩:=F.slot _ o (Ne.symm he) e1;exact⟨_,es,ep,q1,e2,e3⟩
 ·refine(I.hok a u q).stay (fun b u' hb q'=>F.keep b u' (fun z => ?_) (fun z => ?_) q') (fun _ q'=>q') fun _ _ q'=>q'
  ·rw[z]at hb
   rcases hb with hb | hb
   ·rw[← hb,hH]at q;cases q
   ·rw[hH]at hb;cases hb
  ·have hf:=I.jR b z
   rcases hb with hb | hb
   ·rw[hb,q]at hf;cases hf
   ·rw[hb]at hf;cases hf
theorem gq{M:Model}{A:Around}{E:Value->Shared->Prop}{Q:Unit->Shared->Prop}{oe oT:Obj}{vs ts:Array Value}{T:Addr}(he:s.heap.get? e=some oe)(hd:oe.data=.fields vs)(h1:vs[1]?=some (.ref T))(hT:s.heap.get? T=some oT)(hdT:oT.data=.fields ts)(h3:ts[3]?=some .none)(h:Q () s) :
  wpAny M A (setFlight (.ref e) none) Q E s:=by
 unfold setFlight;refine wpAny_bind (wpAny_field he hd h1 ?_);rw[if_pos (show(Value.ref T != Value.none)=true from by simp)]
 refine wpAny_setField hT hdT (Array.getElem?_eq_some_iff.mp h3).1 ?_;have:s.heap.update T (Obj.mapFields (·.setIfInBounds 3 ((none:Option Addr).elim Value.none fun f=>rawInt f)))=s.heap:=Heap.update_setField_same s.heap T oT ts 3 .none hT hdT h3
 rw[this];exact h
end
section
variable{X:Cx}{σ:St}{H H':Hp}{s s':Shared}{e C d:Addr}
theorem v7{bn:Str}{nm:Option Str}{B0:Addr}{i:Nat}{b0:Stmt}{suite:List Stmt}{hp pos:Pos}{fs:List (Str×V)}{Q:Flow->Shared->Prop}{E:Value->Shared->Prop}(I:Inv X [] σ H s)(Th:qO X.prog X.w X.stack H s e C d H' s')(hst:X.stack=X.env::X.outer)(hfm:X.env.frame=some X.env.locals)
  (hxd:H' d=some (.xd fs)) (hg:Gl X bn) (hm:X.mg bn=some (.ref B0)) (hex:PySem.W.exmOne X.K (.ref C) (.ref B0)=some true) (hN:X.N.Nodup) (hi:∀ n,nm=some n->X.N[i]?=some n) (hn:∀ n,nm=some n->X.env.scope.names.lookup n=some .local)
  (hsuite:∀ oe s4,oe.cls=.ref C->oe.dict=some d->PySem.W.notCls oe=true->Inv (X.o4 e) [(e,oe)] (if nm.isSome then σ.set i (some (.ref e)) else σ) H' s4 ->
   wpAny (model X.prog X.w) (X.A.mark (some (.ref e))) (execs (b0::suite) X.env) (fun f s5=>∃ Gf H5,Inv (X.o4 e) [(e,oe)] Gf H5 s5/\∀ JO s6,Inv X [] JO H5 s6->Q f s6) (fun _ _=>False) s4)
  (hdb:(bn == ("__debug__":Str))=false:=by decide) :
  wpAny (model X.prog X.w) X.A (noteFrame (.ref e) X.env) (fun _ s₂=>wpAny (model X.prog X.w) X.A (setFlight (.ref e) none) (fun _ s₃=>wpAny (model X.prog X.w) X.A (handleBy (.ref e) X.env [.ExceptHandler (some (.Name bn hp)) nm (b0::suite) pos]) Q E s₃) E s₂) E s':=by
 have I':Inv X [] σ H' s':=I.call' (ch:=[]) Th.os Th.un Th.hok Th.bare (by simp)
 obtain⟨oe,vs,g1,g2,g3,g4,g5⟩:=Th.obj;have hfr:=I'.ok.frames;rw[hst]at hfr;have hl:=I'.stack;rw[hst]at hl;have hlt:∀ b o,s.heap.get? b=some o->b≠e:=fun b o q z=>by rw[z]at q;exact absurd (Nat.lt_of_lt_of_le (Heap.lt_size q) Th.new) (Nat.lt_irrefl _)
 have hloc:e≠X.env.locals:=fun z=>by
  obtain⟨m,⟨o,_,_,ho,_⟩,_⟩:=I.loc;exact hlt _ _ ho z.symm
 have fr:vU X e:=⟨.inr (Nat.le_trans I.sz Th.new),fun x c q=>by
  obtain⟨v,o,q1,_⟩:=I.cell x c q;exact hlt _ _ q1,fun p hp=>by
  obtain⟨q1,_⟩:=I.pin p (by simp[hp])
  exact hlt _ _ q1⟩
 have hfs:e∉X.fs:=fun z=>by
  obtain⟨_,o,ho,_⟩:=I.ok.gh.mem z;exact absurd (Nat.lt_of_lt_of_le (Heap.lt_size ho) (Nat.le_trans I.sz Th.new)) (Nat.lt_irrefl _)
 refine vW hfr hl hfm g1 g4 g5 fun h' T F => ?_
 have J:Inv X [] σ H' { s' with heap:=h' }:=I'.flown (by rw[hst];exact F) fr hloc Th.free
 have hat:=F.at_;obtain⟨oT,ts,t1,t2,t3⟩:=F.tb;have hcl:(oe.mapFields (·.setIfInBounds 1 (.ref T))).cls=.ref C:=by rw[Obj.cls_mapFields];exact g2
 have hdat:=Obj.data_mapFields g4 (·.setIfInBounds 1 (Value.ref T))
 have hdi:(oe.mapFields (·.setIfInBounds 1 (.ref T))).dict=some d:=by
  obtain⟨oc,od,dt,sl⟩:=oe;cases dt<;>exact g3
 have hsz:1 < vs.size:=by
  rcases g5 with z | ⟨_,_,_,z,_⟩<;>exact(Array.getElem?_eq_some_iff.mp z).1
 generalize (oe.mapFields (·.setIfInBounds 1 (.ref T)))=oe' at *;have hnc:PySem.W.notCls oe'=true:=by unfold PySem.W.notCls;rw[hdat]
 obtain⟨mA,nA,_⟩:=J.hok d _ hxd;obtain⟨od,gd,_⟩:=i_ nA;have at_:PySem.W.InstAt h' e oe' C (some od):=⟨hat,hcl,hnc,by rw[hdi];exact gd⟩
 refine wpAny_handleBy_cons (codeAny_handlers_test ?_) (by intro q;cases q)
 refine gT (X:=X.o4 e) J.o4 hg hm ?_ hdb;refine(PySem.W.exm_one (K:=X.K) J.gi at_.type hex).here ?_;cases nm with
 | none=>
  refine codeAny_handlers_suite ?_;refine gq hat hdat (by simp[hsz]) t1 t2 t3 ?_
  have J1:Inv (X.o4 e) [(e,oe')] σ H' { s' with heap:=h' }:=J.o4.vS hat Th.free hloc hfs (fun v=>by rw[hdat];simp)
  exact wpAny_mono (hsuite oe' _ hcl hdi hnc J1) (fun f s5 ⟨Gf,H5,J5,q5⟩=>q5 _ _ (J5.Ge I.ok)) (fun _ _ z=>z.elim)
 | some n=>
 have hi:=hi n rfl;have hn:=hn n rfl;refine codeAny_handlers_suite_as ?_;refine gq hat hdat (by simp[hsz]) t1 t2 t3 ?_
 have J1:Inv (X.o4 e) [(e,oe')] σ H' { s' with heap:=h' }:=J.o4.vS hat Th.free hloc hfs (fun v=>by rw[hdat];simp)
 refine kj (X:=X.o4 e) J1 hN hi (.inl hn) (v:=.ref e) rfl (fun s4 J4 => ?_) (.inr hn)
 refine wpAny_mono (hsuite oe' s4 hcl hdi hnc J4) (fun f s5 ⟨Gf,H5,J5,q5⟩ => ?_) (fun _ _ z=>z.elim)
 obtain⟨m,Sm,_⟩:=J5.loc;exact wpAny_nameGoes hn Sm (by rw[I.ok.kind];rfl) fun h6 m6 n6 Sn=>q5 _ _ (J5.blank I.ok n6 Sn)
end
theorem Cx.qP(X:Cx):X.fz []=X:=by
 obtain⟨a1,a2,a3,a4,a5,a6,a7,a8,a9,a10,a11,a12,a13,fn,a15,a16,a17⟩:=X;simp[Cx.fz]
section
variable{X:Cx}{σ:St}{H:Hp}{s:Shared}{C:Addr}{k:Nat}{f:Addr}{fd:FuncData}{ps:List Str}{sp:Sp}{ta:TA}{fs:List (Str×V)}{Rest:Hp->Prop}
end
section
variable{X:Cx}{pins:List (Addr×Obj)}{σ:St}{H:Hp}{s:Shared}{e C N fI:Addr}{oe:Obj}
noncomputable def Cx.zf(X:Cx)(e:Addr)(oe:Obj):Cx:={ X with pn:=X.pn++[(e,oe)] }
theorem Inv.zf(I:Inv X [(e,oe)] σ H s):Inv (X.zf e oe) [] σ H s:=
 ⟨⟨I.ok.mod,I.ok.kind,I.ok.glob,I.ok.blt,I.ok.above,I.ok.inj,I.ok.has,I.ok.cab,I.ok.hd,I.ok.frames,I.ok.Bo,I.ok.Cc,I.ok.bs,I.ok.t9,I.ok.oO,I.ok.oP,I.ok.gh,I.ok.vh⟩,
  I.os,I.bare,I.base,I.loc,I.cell,I.free,I.dn,fun p hp=>I.pin p (by simpa[Cx.zf] using hp),I.hok,I.len⟩
theorem Inv.Gg(I:Inv (X.zf e oe) [] σ H s):Inv X [(e,oe)] σ H s:=
 ⟨⟨I.ok.mod,I.ok.kind,I.ok.glob,I.ok.blt,I.ok.above,I.ok.inj,I.ok.has,I.ok.cab,I.ok.hd,I.ok.frames,I.ok.Bo,I.ok.Cc,I.ok.bs,I.ok.t9,I.ok.oO,I.ok.oP,I.ok.gh,I.ok.vh⟩,
  I.os,I.bare,I.base,I.loc,I.cell,I.free,I.dn,fun p hp=>I.pin p (by simpa[Cx.zf] using hp),I.hok,I.len⟩
structure Mq(K:PySem.W.Frag)(C:Addr):Prop where
 ha:PySem.W.findIn K (.ref C) "__class__"=some (some (.builtin "object.__class__"))
 hn:PySem.W.specialIn K (.builtin "object.__class__") "__get__"=some (some (.builtin "getset_descriptor.__get__"))
 ht:PySem.W.takesIn K (.builtin "object.__class__")=some true
 hm:PySem.W.mroIn K C (.type "object")=some true
structure JT(X:Cx)(e C:Addr)(oe:Obj)(d:Addr)(N fI:Addr):Prop where
 pn:(e,oe)∈X.pn
 cls:oe.cls=.ref C
 dict:oe.dict=some d
 no:PySem.W.notCls oe=true
 txt:nu X.K C N fI
 is:Mq X.K C
variable{d:Addr}
noncomputable def So(i:Nat)(e d:Addr)(fld:Str):TE:=fun σ H Q=>σ[i]?=some (some (.ref e))/\∃ fs v,H d=some (.xd fs)/\fs.lookup fld=some v/\Q v H
theorem Gh{i:Nat}{n fld:Str}{q p:Pos}(c:JT X e C oe d N fI)(na:fN X.K C fld)(hi:X.N[i]?=some n)(hv:yw X.env.scope n)(hd1:(n == ("__debug__":Str))=false:=by decide)(hd2:(n == ("__classdict__":Str))=false:=by decide) :
  PE X (.Attribute (.Name n q) fld p) (So i e d fld):=by
 intro pins s σ H Q I h;obtain⟨h1,fs,v,h2,h3,h4⟩:=h;refine sd rfl (cz (km (pos:=q) hi hv hd1 hd2 pins s σ H (fun w H'=>w=.ref e/\H'=H) I ⟨.ref e,h1,rfl,rfl⟩) fun u s1 ⟨w,H1,J1,r1,hw,hH⟩ => ?_)
 subst hw hH;cases (show u=Value.ref e from r1)
 exact sE J1 c.txt na (J1.pin (e,oe) (by simp[c.pn])).1 c.cls c.dict c.no h2 h3 fun u' ru J2=>⟨v,H1,J2,ru,h4⟩
end
section
variable{X:Cx}{e C N fI d:Addr}{oe:Obj}
end
noncomputable def v8(e:DictEntry):Bool:=match e.key with
 | .str _ _=>true
 | _=>false
def JU(K:PySem.W.Frag)(N:Addr)(nm:Str):Option (Option Value):=match K.lookup N with
 | some ⟨_,_,.dict es _,_⟩=>if es.toList.all v8=true then some (nsFind es nm) else none
 | _=>none
theorem Bx{K:PySem.W.Frag}{N:Addr}{nm:Str}{r:Option Value}(h:JU K N nm=some r)(hp:Heap)(X:K.In hp):∃ mN,hp.Ns N mN/\mN nm=r:=by
 unfold JU at h;split at h
 ·rename_i c d es n sl hl
  split at h
  ·rename_i ha
   cases h;refine⟨nsFind es,⟨_,es,n,X _ _ hl,rfl,fun e he => ?_,fun _=>rfl⟩,rfl⟩
   have:=List.all_eq_true.mp ha e (by simpa using he)
   unfold v8 at this;split at this
   ·rename_i a b q;exact⟨a,b,q⟩
   ·cases this
  ·cases h
 ·cases h
def o5(K:PySem.W.Frag):List Value->Bool
 | .ref A::tl=>(match K.lookup A with
  | some ⟨_,_,.cls cd,_⟩=>JU K cd.ns "__init__" == some none
  | _=>false) && o5 K tl
 | l=>l == iv
theorem sH{K:PySem.W.Frag}:∀ {l:List Value},o5 K l=true->∀ h:Heap,K.In h->OwnTail h iv l
 | [],e,h,X=>by simp[o5]at e
 | a::r,e,h,X=>by
  cases a with
  | ref A=>
   simp only[o5,Bool.and_eq_true]at e;obtain⟨e1,e2⟩:=e;split at e1
   ·rename_i c d cd sl hl
    obtain⟨mN,n1,n2⟩:=Bx (eq_of_beq e1) h X;exact .own (X _ _ hl) n1 n2 (sH e2 h X)
   ·cases e1
  | _=>rw[eq_of_beq (show(_ == iv)=true from e)];exact .base
end L2
namespace Mir
open PySem
inductive D where
 | non | bl (b:Bool) | int (i:Int) | str (x:Str)
 | lst (xs:List D) | tup (xs:List D) | dct (ks:List L2.Key) (vs:List D) | ref (n:Nat)
 deriving Inhabited
inductive Out (α:Type) where
 | ok (a:α) | exc (c:Str) (fs:List (Str×D)) | bad
noncomputable def Out.bind{α β:Type}:Out α->(α->Out β)->Out β
 | .ok a,f=>f a
 | .exc c fs,_=>.exc c fs
 | .bad,_=>.bad
instance:Monad Out where
 pure:=.ok
 bind:=Out.bind
@[simp] theorem JV{α β:Type}(a:α)(f:α->Out β):(Out.ok a >>= f)=f a:=rfl
@[simp] theorem Gi{α β:Type}(f:α->Out β):((Out.bad:Out α) >>= f)=.bad:=rfl
@[simp] theorem Gj{α β:Type}(c fs)(f:α->Out β):((Out.exc c fs:Out α) >>= f)=.exc c fs:=rfl
@[simp] theorem JW{α:Type}(a:α):(pure a:Out α)=.ok a:=rfl
mutual
noncomputable def ej:D->D->Bool
 | .non,.non=>true
 | .bl a,.bl b=>a == b
 | .bl a,.int j=>(if a then 1 else 0) == j
 | .int i,.bl b=>i == (if b then 1 else 0)
 | .int i,.int j=>i == j
 | .str x,.str y=>x == y
 | .lst xs,.lst ys=>d_ xs ys
 | .tup xs,.tup ys=>d_ xs ys
 | _,_=>false
noncomputable def d_:List D->List D->Bool
 | [],[]=>true
 | x::xs,y::ys=>ej x y && d_ xs ys
 | _,_=>false
end
noncomputable def aK:Nat->D->Bool
 | _,.non | _,.bl _ | _,.int _ | _,.str _=>true
 | n + 1,.lst xs | n + 1,.tup xs=>xs.all (aK n)
 | _,_=>false
noncomputable def small(n:Nat):Bool:=decide (n<=sizeLine)
def jL:D->Option Bool
 | .non=>some false
 | .bl b=>some b
 | .int i=>some (i != 0)
 | .str x=>if small x.length then some (x.length != 0) else none
 | .lst xs=>some (!xs.isEmpty)
 | .tup xs=>some (!xs.isEmpty)
 | _=>none
abbrev Rs:=Bool×D
noncomputable def lU(i:Int):Bool:=decide (i.natAbs < 18446744073709551616)
theorem o7{i:Int}(h:lU i=true) : -(2 ^ 64) < i/\i < 2 ^ 64:=by
 have:=of_decide_eq_true h;omega
def fw(op:Operator)(x y:D):Out Rs:=
 match op,x,y with
 | .Add,.int i,.int j=>.ok (false,.int (i + j))
 | .Sub,.int i,.int j=>.ok (false,.int (i - j))
 | .Mult,.int i,.int j=>if lU i || lU j then .ok (false,.int (i * j)) else .bad
 | .FloorDiv,.int i,.int j=>if decide (0 < j) && decide (j < 1073741824) then .ok (false,.int (i / j)) else .bad
 | .Mod,.int i,.int j=>if decide (0 < j) then .ok (false,.int (i % j)) else .bad
 | .Pow,.int i,.int j=>if decide (0<=j) && decide (j<=1000) && decide (i.natAbs < 2 ^ 64) then .ok (false,.int (i ^ j.toNat)) else .bad
 | .Add,.str i,.str j=>if small (i.length + j.length) then .ok (false,.str (i++j)) else .bad
 | .Add,.lst i,.lst j=>if small (i.length + j.length) then .ok (true,.lst (i++j)) else .bad
 | _,_,_=>.bad
noncomputable def By(x y:Str):Bool := !(Builtin.Str.occurrences y x 0 y.length 1).isEmpty
def inD(x y:D):Out Bool:=
 match x,y with
 | x,.lst ys=>if aK 8 x && ys.all (aK 8) then .ok (ys.any fun y=>ej y x) else .bad
 | x,.tup ys=>if aK 8 x && ys.all (aK 8) then .ok (ys.any fun y=>ej y x) else .bad
 | .str x,.str y=>.ok (By x y)
 | _,_=>.bad
noncomputable def isD(x y:D):Out Bool:=
 match x,y with
 | .non,.non=>.ok true
 | _,.non=>.ok false
 | .bl a,.bl b=>.ok (a == b)
 | .non,.bl _=>.ok false
 | .int _,.bl _=>.ok false
 | .str _,.bl _=>.ok false
 | .lst _,.bl _=>.ok false
 | .tup _,.bl _=>.ok false
 | _,_=>.bad
def ek(op:CmpOp)(x y:D):Out Bool:=
 match op,x,y with
 | .Eq,x,y=>if aK 8 x && aK 8 y then .ok (ej x y) else .bad
 | .NotEq,x,y=>if aK 8 x && aK 8 y then .ok (!ej x y) else .bad
 | .Lt,.int i,.int j=>.ok (decide (i < j))
 | .LtE,.int i,.int j=>.ok (decide (i<=j))
 | .Gt,.int i,.int j=>.ok (decide (j < i))
 | .GtE,.int i,.int j=>.ok (decide (j<=i))
 | .In,x,y=>inD x y
 | .NotIn,x,y=>do let b ← inD x y;.ok (!b)
 | .Is,x,y=>isD x y
 | .IsNot,x,y=>do let b ← isD x y;.ok (!b)
 | _,_,_=>.bad
noncomputable def gu(c:Nat):Str:=⟨#[c]⟩
def qQ(x y:D):Out Rs:=
 match x,y with
 | .lst xs,.int i=>match L2.i9 xs i with | some d=>.ok (false,d) | none=>.bad
 | .tup xs,.int i=>match L2.i9 xs i with | some d=>.ok (false,d) | none=>.bad
 | .str z,.int i=>if small z.length then (match L2.i9 z.cps.toList i with | some c=>.ok (false,.str (gu c)) | none=>.bad) else .bad
 | _,_=>.bad
def dq{α:Type}(xs:List α)(lo hi:Option Int):List α:=(xs.drop (HT.cF xs.length 0 lo)).take (HT.cF xs.length xs.length hi - HT.cF xs.length 0 lo)
def v9(x:D)(lo hi:Option Int):Out Rs:=
 match x with
 | .lst xs=>.ok (true,.lst (dq xs lo hi))
 | .str z=>if small z.length then .ok (false,.str ⟨(dq z.cps.toList lo hi).toArray⟩) else .bad
 | _=>.bad
noncomputable def intsFrom(lo:Int):Nat->List D
 | 0=>[]
 | n + 1=>.int lo::intsFrom (lo + 1) n
noncomputable def hU(i:Int):Bool:=decide (i.natAbs < 4611686018427387904)
theorem o_{i:Int}(h:hU i=true) : -(2 ^ 62)<=i/\i < 2 ^ 62:=by
 have:=of_decide_eq_true h;omega
noncomputable def du(i:Nat):List D->List D
 | []=>[]
 | d::ds=>.tup [.int i,d]::du (i + 1) ds
inductive iD where
 | len | all | any | sorted | list | tuple | int | min | max | bool
 deriving DecidableEq
def fx:List D->Option (List Bool)
 | []=>some []
 | d::r=>match jL d,fx r with | some b,some bs=>some (b::bs) | _,_=>none
noncomputable def jx:List D->Option (List Int)
 | []=>some []
 | .int i::r=>(jx r).map (i :: ·)
 | _=>none
noncomputable def dv:List D->Option (List Str)
 | []=>some []
 | .str i::r=>(dv r).map (i :: ·)
 | _=>none
noncomputable def bN(a b:Str):Bool := !decide (b.cps.toList < a.cps.toList)
def fP(ds:List D):Out (List D):=
 if 64<=ds.length then .bad else
 match jx ds with
 | some is=>.ok ((is.mergeSort fun a b=>decide (a<=b)).map .int)
 | none=>match dv ds with
  | some xs=>.ok ((xs.mergeSort bN).map .str)
  | none=>.bad
def iw(f:iD)(a:D):Out Rs:=
 match f,a with
 | .len,.tup [.lst xs]=>.ok (false,.int xs.length)
 | .len,.tup [.tup xs]=>.ok (false,.int xs.length)
 | .len,.tup [.str z]=>if small z.length then .ok (false,.int z.length) else .bad
 | .all,.tup [.lst xs]=>match fx xs with | some bs=>.ok (false,.bl (bs.all id)) | none=>.bad
 | .any,.tup [.lst xs]=>match fx xs with | some bs=>.ok (false,.bl (bs.any id)) | none=>.bad
 | .sorted,.tup [.lst xs]=>do let ys ← fP xs;.ok (true,.lst ys)
 | .list,.tup [.lst xs]=>.ok (true,.lst xs)
 | .list,.tup [.tup xs]=>.ok (true,.lst xs)
 | .tuple,.tup [.lst xs]=>.ok (false,.tup xs)
 | .tuple,.tup [.tup xs]=>.ok (false,.tup xs)
 | .int,.tup [.int i]=>.ok (false,.int i)
 | .int,.tup [.bl k]=>.ok (false,.int (if k then 1 else 0))
 | .min,.tup [.int i,.int j]=>.ok (false,.int (if j < i then j else i))
 | .max,.tup [.int i,.int j]=>.ok (false,.int (if j > i then j else i))
 | _,_=>.bad
inductive Sq where
 | index | join
 deriving DecidableEq
def nv(m:Sq)(x:D)(a:D):Out Rs:=
 match m,x,a with
 | .index,.lst xs,.tup [d]=>if aK 8 d && xs.all (aK 8) then (match xs.findIdx? fun y=>ej y d with | some j=>.ok (false,.int j) | none=>.bad) else .bad
 | .index,.str z,.tup [.str y]=>match Builtin.Str.occurrences z y 0 z.length 1 with | i::_=>.ok (false,.int i) | []=>.bad
 | .join,.str z,.tup [.lst ds]=>match dv ds with | some xs=>if decide (z.length<=16) && decide ((xs.map (·.length)).sum + xs.length<=1048576) then .ok (false,.str (Txt.join z xs)) else .bad | none=>.bad
 | _,_,_=>.bad
inductive Ty where
 | int | str | bool | list | tuple | dict
 deriving DecidableEq
noncomputable def v_:D->Ty->Option Bool
 | .non,_=>some false
 | .bl _,t=>some (t == .bool || t == .int)
 | .int _,t=>some (t == .int)
 | .str _,t=>some (t == .str)
 | .lst _,t=>some (t == .list)
 | .tup _,t=>some (t == .tuple)
 | .dct _ _,t=>some (t == .dict)
 | .ref _,_=>none
noncomputable def eZ:D->Bool
 | .non | .bl _ | .int _ | .str _=>true
 | _=>false
noncomputable def ie(σ:List Str)(x:Str):List Str:=if x∈σ then σ else σ++[x]
def unlike(xs:List Str):Nat:=(xs.foldl ie []).length
noncomputable def fuel:Nat:=100000
end Mir
namespace Mir
open PySem PySem.Spec PyProof.Rows L2
mutual
noncomputable def Rep(Z:Addr->Prop)(H:Hp):D->V->Prop
 | .non,v=>v=.non
 | .bl b,v=>v=.bl b
 | .int i,v=>v=.int i
 | .str x,v=>v=.str x
 | .lst ds,v=>∃ a vs,v=.ref a/\Z a/\Rd H a (.lst vs)/\aT Z H ds vs
 | .tup ds,v=>∃ a vs,v=.ref a/\Z a/\Rd H a (.tup vs)/\aT Z H ds vs
 | .dct ks ds,v=>∃ a vs,v=.ref a/\Z a/\H a=some (.dK (ks.zip vs))/\aT Z H ds vs
 | .ref _,_=>False
noncomputable def aT(Z:Addr->Prop)(H:Hp):List D->List V->Prop
 | [],vs=>vs=[]
 | d::ds,vs=>∃ v r,vs=v::r/\Rep Z H d v/\aT Z H ds r
end
section
variable{Z Z':Addr->Prop}{H H':Hp}
theorem nz{a:Addr}{u:HO}(k:∀ o,H a=some o->H' a=some o)(h:Rd H a u):Rd H' a u:=by
 rcases h with h | ⟨o,h⟩
 ·exact .inl (k _ h)
 ·exact .inr ⟨o,k _ h⟩
mutual
theorem Rep.mono(k:∀ a o,Z a->H a=some o->H' a=some o)(z:∀ a,Z a->Z' a):∀ {d:D} {v:V},Rep Z H d v->Rep Z' H' d v
 | .non,_,h=>by simpa only [Rep] using h
 | .bl _,_,h=>by simpa only [Rep] using h
 | .int _,_,h=>by simpa only [Rep] using h
 | .str _,_,h=>by simpa only [Rep] using h
 | .lst ds,v,h=>by
  simp only[Rep]at h ⊢;obtain⟨a,vs,e,hz,hr,hs⟩:=h;exact⟨a,vs,e,z a hz,nz (fun o=>k a o hz) hr,aT.mono k z hs⟩
 | .tup ds,v,h=>by
  simp only[Rep]at h ⊢;obtain⟨a,vs,e,hz,hr,hs⟩:=h;exact⟨a,vs,e,z a hz,nz (fun o=>k a o hz) hr,aT.mono k z hs⟩
 | .dct ks ds,v,h=>by
  simp only[Rep]at h ⊢;obtain⟨a,vs,e,hz,hr,hs⟩:=h;exact⟨a,vs,e,z a hz,k a _ hz hr,aT.mono k z hs⟩
 | .ref _,_,h=>by simp only[Rep]at h
theorem aT.mono(k:∀ a o,Z a->H a=some o->H' a=some o)(z:∀ a,Z a->Z' a):∀ {ds:List D} {vs:List V},aT Z H ds vs->aT Z' H' ds vs
 | [],_,h=>by simpa only [aT] using h
 | d::ds,vs,h=>by
  simp only[aT]at h ⊢;obtain⟨v,r,e,h1,h2⟩:=h;exact⟨v,r,e,Rep.mono k z h1,aT.mono k z h2⟩
end
theorem aT.length:∀ {ds:List D} {vs:List V},aT Z H ds vs->vs.length=ds.length
 | [],_,h=>by simp only[aT]at h;rw[h];rfl
 | d::ds,_,h=>by
  simp only[aT]at h;obtain⟨v,r,e,_,h2⟩:=h;rw[e,List.length_cons,List.length_cons,aT.length h2]
theorem aT.get:∀ {ds:List D} {vs:List V} {i:Nat} {d:D},aT Z H ds vs->ds[i]?=some d->∃ v,vs[i]?=some v/\Rep Z H d v
 | [],_,_,_,_,e=>by simp at e
 | d::ds,_,0,_,h,e=>by
  simp only[aT]at h;obtain⟨v,r,rfl,h1,_⟩:=h;simp at e;subst e
  exact⟨v,rfl,h1⟩
 | d::ds,_,i + 1,d',h,e=>by
  simp only[aT]at h;obtain⟨v,r,rfl,_,h2⟩:=h;obtain⟨u,h3,h4⟩:=aT.get (i:=i) (d:=d') h2 (by simpa using e)
  exact⟨u,by simpa using h3,h4⟩
theorem aT.append:∀ {ds es:List D} {vs ws:List V},aT Z H ds vs->aT Z H es ws->aT Z H (ds++es) (vs++ws)
 | [],_,_,_,h,h'=>by simp only[aT]at h;rw[h];exact h'
 | d::ds,_,_,_,h,h'=>by
  simp only[aT]at h;obtain⟨v,r,rfl,h1,h2⟩:=h
  show aT Z H (d::(ds++_)) (v::(r++_))
  simp only[aT];exact⟨v,_,rfl,h1,aT.append h2 h'⟩
theorem aT.nil:aT Z H [] []:=by simp only[aT]
theorem aT.cons{d:D}{ds:List D}{v:V}{vs:List V}(h:Rep Z H d v)(h':aT Z H ds vs):aT Z H (d::ds) (v::vs):=by
 simp only[aT];exact⟨v,vs,rfl,h,h'⟩
theorem aT.nil_inv{vs:List V}(h:aT Z H [] vs):vs=[]:=by simpa only [aT] using h
theorem aT.cons_inv{d:D}{ds:List D}{vs:List V}(h:aT Z H (d::ds) vs):∃ v r,vs=v::r/\Rep Z H d v/\aT Z H ds r:=by simpa only [aT] using h
def Now(Z:Addr->Prop)(H:Hp)(d:D)(v:V):Prop:=
 match d with
 | .lst ds=>∃ a vs,v=.ref a/\Rd H a (.lst vs)/\aT Z H ds vs
 | d=>Rep Z H d v
theorem Rep.now{d:D}{v:V}(h:Rep Z H d v):Now Z H d v:=by
 cases d with
 | lst ds=>
  simp only[Rep]at h;obtain⟨a,vs,e,_,h⟩:=h;exact⟨a,vs,e,h⟩
 | _=>exact h
end
structure el(Z:Addr->Prop)(H:Hp)(Z':Addr->Prop)(H':Hp):Prop where
 same:lR H H'
 sub:∀ a,Z a->Z' a
 new:∀ a,Z' a->Z a\/H a=none
 dom:∀ a,Z' a->H' a≠none
theorem el.refl{Z:Addr->Prop}{H:Hp}(d:∀ a,Z a->H a≠none):el Z H Z H:=⟨lR.refl _,fun _ h=>h,fun _ h=>.inl h,d⟩
theorem lR.laid{H:Hp}{p:Addr}{o:HO}(h:H p=none):lR H (upd H p o):=fun b u e=>by rw[aI (br e h)];exact e
theorem el.laid{Z:Addr->Prop}{H:Hp}{p:Addr}{o:HO}(d:∀ a,Z a->H a≠none)(h:H p=none):el Z H Z (upd H p o):=
 ⟨lR.laid h,fun _ h=>h,fun _ h=>.inl h,fun a ha=>by
  have ne:a≠p:=fun e=>d a ha (by rw[e];exact h)
  rw[aI ne];exact d a ha⟩
def Zp(Z:Addr->Prop)(p:Addr):Addr->Prop:=fun a=>Z a\/a=p
section
variable{Z0 Z Z':Addr->Prop}{H0 H H':Hp}{ρ:zg}{σ:L2.St}
end
def dU(bw own:Bool)(Z:Addr->Prop)(Hb H:Hp)(d:D)(v:V):Prop:=
 if own=true then ∃ a vs ds,d=.lst ds/\v=.ref a/\Hb a=none/\¬ Z a/\H a=some (.lst vs)/\aT Z H ds vs
 else if bw=true then Now Z H d v else Rep Z H d v
theorem dU.own{bw:Bool}{Z:Addr->Prop}{Hb H:Hp}{a:Addr}{ds:List D}{vs:List V}(h1:Hb a=none)(h2:¬ Z a)(h3:H a=some (.lst vs))(h4:aT Z H ds vs):dU bw true Z Hb H (.lst ds) (.ref a):=by
 unfold dU;rw[if_pos rfl];exact⟨a,vs,ds,rfl,rfl,h1,h2,h3,h4⟩
theorem dU.rep{bw:Bool}{Z:Addr->Prop}{Hb H:Hp}{d:D}{v:V}(h:Rep Z H d v):dU bw false Z Hb H d v:=by
 unfold dU;rw[if_neg Bool.false_ne_true]
 split
 ·exact h.now
 ·exact h
theorem dU.now{own:Bool}{Z:Addr->Prop}{Hb H:Hp}{d:D}{v:V}(h:dU true own Z Hb H d v):Now Z H d v:=by
 unfold dU at h;split at h
 ·obtain⟨a,vs,ds,rfl,rfl,_,_,h3,h4⟩:=h
  exact⟨a,vs,rfl,.inl h3,h4⟩
 ·rw[if_pos rfl]at h;exact h
theorem PE.imp{X:Cx}{e:Expr}{t t':TE}(h:PE X e t)(i:∀ σ H Q,t' σ H Q->t σ H Q):PE X e t':=fun pins s σ H Q I q=>h pins s σ H Q I (i σ H Q q)
theorem kB{α β:Type}{x:Out α}{f:α->Out β}{b:β}(h:(x >>= f)=.ok b):∃ a,x=.ok a/\f a=.ok b:=by
 cases x with
 | ok a=>exact⟨a,rfl,h⟩
 | exc c fs=>cases h
 | bad=>cases h
section
variable{Γ:lV}{Z0 Z:Addr->Prop}{H0 H:Hp}{ρ:zg}{σ:L2.St}{c:Ex}{Q:VK}{own:Bool}{d:D}
end
end Mir
namespace Mir
open PySem PySem.Spec PyProof.Rows L2
section
variable{Z Z':Addr->Prop}{H H2 H':Hp}{d:D}{v:V}{bw own:Bool}
theorem bS{n:Nat}(h:small n=true):n<=sizeLine:=of_decide_eq_true h
end
section
variable{X:Cx}{Γ:lV}{bw:Bool}{a b e:Expr}{ca cb c:Ex}{pos:Pos}
noncomputable def fy:D->Option V
 | .non=>some .non
 | .bl b=>some (.bl b)
 | .int i=>some (.int i)
 | .str x=>some (.str x)
 | _=>none
theorem eH{Z:Addr->Prop}{H:Hp}{d:D}{v:V}(h:fy d=some v):Rep Z H d v:=by
 cases d<;>simp only[fy]at h<;>first | cases h;simp only[Rep] | cases h
end
section
variable{Z:Addr->Prop}{H:Hp}{x:V}
theorem fQ(h:Now Z H .non x):x=.non:=by simpa only [Now,Rep] using h
theorem bc{i:Int}(h:Now Z H (.int i) x):x=.int i:=by simpa only [Now,Rep] using h
theorem gv{i:Bool}(h:Now Z H (.bl i) x):x=.bl i:=by simpa only [Now,Rep] using h
theorem cQ{i:Str}(h:Now Z H (.str i) x):x=.str i:=by simpa only [Now,Rep] using h
theorem cM{ds:List D}(h:Now Z H (.lst ds) x):∃ a vs,x=.ref a/\Rd H a (.lst vs)/\aT Z H ds vs:=h
theorem fR{ds:List D}(h:Now Z H (.tup ds) x):∃ a vs,x=.ref a/\Z a/\Rd H a (.tup vs)/\aT Z H ds vs:=by simpa only [Now,Rep] using h
theorem jc{K:PySem.W.Frag}{a:Addr}{vs:List V}(h:Rd H a (.lst vs)):ju K H a vs:=.inl h
theorem uq{K:PySem.W.Frag}{a:Addr}{vs:List V}(h:Rd H a (.tup vs)):f7 K H a vs:=.inl h
theorem zh{bw:Bool}{Q:VK}{ds:List D}{vs:List V}(dom:∀ a,Z a->H a≠none)(hs:aT Z H ds vs)
  (k:∀ v H' Z',el Z H Z' H'->dU bw true Z' H H' (.lst ds) v->Q v H'):∀ p,H p=none->Q (.ref p) (upd H p (.lst vs)):=fun p hp=>
 k _ _ Z (el.laid dom hp) (.own hp (fun z=>dom p z hp) bE (hs.mono (fun a o _=>lR.laid hp a o) fun _ z=>z))
end
section
variable{X:Cx}{Γ:lV}{bw:Bool}{a b e:Expr}{ca cb c:Ex}{pos:Pos}
def Bz:R2:=fun x y H Q=>∃ l b xs zs,x=.ref l/\y=.ref b/\Rd H l (.lst xs)/\Rd H b (.lst zs)/\xs.length + zs.length<=sizeLine/\∀ p,H p=none->Q (.ref p) (upd H p (.lst (xs++zs)))
theorem zi:f9 X (binaryOp .Add) Bz:=by
 intro pins s σ H x y v u Q I rx ry h;obtain⟨l,b,xs,zs,rfl,rfl,hH,hB,hz,q⟩:=h;cases rx;cases ry;obtain⟨z,its,n,r,e⟩:xs.length<=sizeLine/\∃ (its:List Value) (n:Nat),Vals xs its/\s.heap.get? l=some { cls:=.type "list",data:=.seq its.toArray n }:=Rd.ok hH I.hok;obtain⟨z2,its2,n2,r2,e2⟩:zs.length<=sizeLine/\∃ (its:List Value) (n:Nat),Vals zs its/\s.heap.get? b=some { cls:=.type "list",data:=.seq its.toArray n }:=Rd.ok hB I.hok;have hl:=r.length;have hl2:=r2.length;refine PySem.P.add_list e e2 ?_ (by rw[List.size_toArray,List.size_toArray];omega)
 have ea:its.toArray++its2.toArray=(its++its2).toArray:=by simp
 rw[ea];exact⟨.ref _,_,I.Mj (t':=s.toks) (r.append r2) (by rw[List.length_append];omega),rfl,q _ I.fresh⟩
def zj(op:Operator):R2:=fun x y H Q=>match op with
 | .Add=>(∃ i j,x=.int i/\y=.int j/\Q (.int (i + j)) H)\/(∃ i j,x=.str i/\y=.str j/\i.length + j.length<=sizeLine/\Q (.str (i++j)) H)\/Bz x y H Q
 | .Sub=>∃ i j,x=.int i/\y=.int j/\Q (.int (i - j)) H
 | .Mult=>∃ i j,x=.int i/\y=.int j/\yR i j/\Q (.int (i * j)) H
 | .FloorDiv=>∃ i j,x=.int i/\y=.int j/\FI i j/\Q (.int (i / j)) H
 | .Mod=>∃ i j,x=.int i/\y=.int j/\0 < j/\Q (.int (i % j)) H
 | .Pow=>∃ i j,x=.int i/\y=.int j/\FJ i j/\Q (.int (i ^ j.toNat)) H
 | _=>False
theorem wa(op:Operator):f9 X (binaryOp op) (zj op):=by
 cases op with
 | Add=>exact Cu.or (qH.or zi)
 | Sub=>exact Cv
 | Mult=>exact Cw
 | FloorDiv=>exact yS
 | Mod=>exact Cy
 | Pow=>exact Cz
 | _=>exact fun _ _ _ _ _ _ _ _ _ _ _ _ h=>h.elim
theorem CM{op:Operator}{dx dy:D}{x y:V}{Z:Addr->Prop}{H:Hp}{own:Bool}{d:D}{Q:VK}(nx:Now Z H dx x)(ny:Now Z H dy y)(dom:∀ a,Z a->H a≠none)(ee:fw op dx dy=.ok (own,d))
  (k:∀ v H' Z',el Z H Z' H'->dU bw own Z' H H' d v->Q v H'):zj op x y H Q:=by
 have flat:∀ {d':D} {v:V},fy d'=some v->Out.ok (false,d')=Out.ok (own,d)->Q v H:=fun hf q=>by
  cases q;exact k _ H Z (el.refl dom) (.rep (eH hf))
 unfold fw at ee;split at ee
 ·cases bc nx;cases bc ny
  exact .inl ⟨_,_,rfl,rfl,flat rfl ee⟩
 ·cases bc nx;cases bc ny
  exact⟨_,_,rfl,rfl,flat rfl ee⟩
 ·cases bc nx;cases bc ny
  split at ee
  ·rename_i hc
   refine⟨_,_,rfl,rfl,?_,flat rfl ee⟩;simp only[Bool.or_eq_true]at hc;have hc:=hc.imp o7 o7;exact hc
  ·cases ee
 ·cases bc nx;cases bc ny
  split at ee
  ·rename_i hc
   refine⟨_,_,rfl,rfl,?_,flat rfl ee⟩;simp only[Bool.and_eq_true,decide_eq_true_eq]at hc;exact hc
  ·cases ee
 ·cases bc nx;cases bc ny
  split at ee
  ·rename_i hc
   exact⟨_,_,rfl,rfl,of_decide_eq_true hc,flat rfl ee⟩
  ·cases ee
 ·cases bc nx;cases bc ny
  split at ee
  ·rename_i hc
   refine⟨_,_,rfl,rfl,?_,flat rfl ee⟩;simp only[Bool.and_eq_true,decide_eq_true_eq]at hc;exact⟨hc.1.1,Int.le_trans hc.1.2 (by decide),hc.2⟩
  ·cases ee
 ·cases cQ nx;cases cQ ny
  split at ee
  ·rename_i hc
   exact .inr (.inl ⟨_,_,rfl,rfl,bS hc,flat rfl ee⟩)
  ·cases ee
 ·obtain⟨l,xs,rfl,h1,h2⟩:=cM nx
  obtain⟨m,zs,rfl,h3,h4⟩:=cM ny;split at ee
  ·rename_i hc
   cases ee;have hz:=bS hc;exact .inr (.inr ⟨l,m,xs,zs,rfl,rfl,h1,h3,by rw[h2.length,h4.length];exact hz,zh dom (h2.append h4) k⟩)
  ·cases ee
 ·cases ee
end
section
variable{Z:Addr->Prop}{H:Hp}
theorem nB{a:Addr}{u u':HO}(hn:∀ o w,u≠.jG o w)(hn':∀ o w,u'≠.jG o w)(h:Rd H a u)(h':Rd H a u'):u=u':=by
 rcases h with h | ⟨o,h⟩<;>rcases h' with h' | ⟨o',h'⟩<;>rw[h]at h'<;>injection h' with e
 ·exact absurd e (hn _ _)
 ·exact absurd e.symm (hn' _ _)
 ·injection e
theorem qR{a:Addr}{xs ys:List V}(h:Rd H a (.lst xs))(h':Rd H a (.lst ys)):xs=ys:=by
 have e:=nB (fun _ _ z=>by cases z) (fun _ _ z=>by cases z) h h'
 injection e
theorem qS{a:Addr}{xs ys:List V}(h:Rd H a (.tup xs))(h':Rd H a (.tup ys)):xs=ys:=by
 have e:=nB (fun _ _ z=>by cases z) (fun _ _ z=>by cases z) h h'
 injection e
theorem sI{a:Addr}{xs ys:List V}(h:Rd H a (.lst xs))(h':Rd H a (.tup ys)):False:=by
 have e:=nB (fun _ _ z=>by cases z) (fun _ _ z=>by cases z) h h'
 cases e
mutual
theorem Rep.uniq:∀ (n:Nat) (d d':D) (v:V),aK n d=true->aK n d'=true->Rep Z H d v->Rep Z H d' v->d=d'
 | n,.lst xs,d',v,o,o',h,h'=>by
  simp only[Rep]at h;obtain⟨a,vs,rfl,_,h1,h2⟩:=h;cases d'<;>simp only[Rep]at h'
  case lst ys=>
   obtain⟨b,ws,e,_,h3,h4⟩:=h';cases e;cases qR h1 h3;cases n with
   | zero=>simp[aK]at o
   | succ n=>rw[aT.uniq n xs ys vs (by simpa[aK] using o) (by simpa[aK] using o') h2 h4]
  case tup ys=>
   obtain⟨b,ws,e,_,h3,h4⟩:=h';cases e;exact(sI h1 h3).elim
  case dct ks ys=>cases n<;>simp[aK]at o'
  all_goals cases h'
 | n,.tup xs,d',v,o,o',h,h'=>by
  simp only[Rep]at h;obtain⟨a,vs,rfl,_,h1,h2⟩:=h;cases d'<;>simp only[Rep]at h'
  case tup ys=>
   obtain⟨b,ws,e,_,h3,h4⟩:=h';cases e;cases qS h1 h3;cases n with
   | zero=>simp[aK]at o
   | succ n=>rw[aT.uniq n xs ys vs (by simpa[aK] using o) (by simpa[aK] using o') h2 h4]
  case lst ys=>
   obtain⟨b,ws,e,_,h3,h4⟩:=h';cases e;exact(sI h3 h1).elim
  case dct ks ys=>cases n<;>simp[aK]at o'
  all_goals cases h'
 | n,.dct ks xs,_,_,o,_,_,_=>by cases n<;>simp[aK]at o
 | n,.ref _,_,_,_,_,h,_=>by simp only[Rep]at h
 | n,.non,d',v,_,o',h,h'=>by
  simp only[Rep]at h;subst h
  cases d'<;>simp only[Rep]at h'<;>first | rfl | (obtain⟨_,_,e,_⟩:=h';cases e;done) | (cases h';done)
 | n,.bl b,d',v,_,o',h,h'=>by
  simp only[Rep]at h;subst h
  cases d'<;>simp only[Rep]at h'<;>first | (obtain⟨_,_,e,_⟩:=h';cases e;done) | (cases h';rfl) | (cases h';done)
 | n,.int b,d',v,_,o',h,h'=>by
  simp only[Rep]at h;subst h
  cases d'<;>simp only[Rep]at h'<;>first | (obtain⟨_,_,e,_⟩:=h';cases e;done) | (cases h';rfl) | (cases h';done)
 | n,.str b,d',v,_,o',h,h'=>by
  simp only[Rep]at h;subst h
  cases d'<;>simp only[Rep]at h'<;>first | (obtain⟨_,_,e,_⟩:=h';cases e;done) | (cases h';rfl) | (cases h';done)
theorem aT.uniq:∀ (n:Nat) (xs ys:List D) (vs:List V),(∀ x∈xs,aK n x=true)->(∀ x∈ys,aK n x=true)->aT Z H xs vs->aT Z H ys vs->xs=ys
 | n,[],ys,vs,_,_,h,h'=>by
  rw[h.nil_inv]at h';cases ys with
  | nil=>rfl
  | cons y ys=>obtain⟨_,_,e,_⟩:=h'.cons_inv;cases e
 | n,x::xs,ys,vs,o,o',h,h'=>by
  obtain⟨v,r,rfl,h1,h2⟩:=h.cons_inv;cases ys with
  | nil=>exact absurd h'.nil_inv (by simp)
  | cons y ys=>
   obtain⟨w,r',e,h3,h4⟩:=h'.cons_inv;cases e;rw[Rep.uniq n x y v (o x (by simp)) (o' y (by simp)) h1 h3,aT.uniq n xs ys r (fun z hz=>o z (by simp[hz])) (fun z hz=>o' z (by simp[hz])) h2 h4]
end
mutual
theorem wb:∀ (n:Nat) (d:D),aK n d=true->ej d d=true
 | n,.lst xs,o=>by
  cases n with
  | zero=>simp[aK]at o
  | succ n=>simp only[ej];exact fA n xs (by simpa[aK] using o)
 | n,.tup xs,o=>by
  cases n with
  | zero=>simp[aK]at o
  | succ n=>simp only[ej];exact fA n xs (by simpa[aK] using o)
 | n,.dct _ _,o=>by cases n<;>simp[aK]at o
 | n,.ref _,o=>by cases n<;>simp[aK]at o
 | n,.non,_=>by simp[ej]
 | n,.bl _,_=>by simp[ej]
 | n,.int _,_=>by simp[ej]
 | n,.str _,_=>by simp[ej]
theorem fA:∀ (n:Nat) (xs:List D),(∀ x∈xs,aK n x=true)->d_ xs xs=true
 | n,[],_=>by simp[d_]
 | n,x::xs,o=>by
  simp only[d_,wb n x (o x (by simp)),fA n xs fun z hz=>o z (by simp[hz]),Bool.and_self]
end
theorem dH:∀ (xs ys:List D),((List.range (min xs.length ys.length)).all (fun j=>ej (xs.getD j .non) (ys.getD j .non)) && (xs.length == ys.length))=d_ xs ys
 | [],[]=>by simp[d_]
 | [],_::_=>by simp[d_]
 | _::_,[]=>by simp[d_]
 | x::xs,y::ys=>by
  have ih:=dH xs ys;have e1:min (x::xs).length (y::ys).length=min xs.length ys.length + 1:=by simp only[List.length_cons];omega
  rw[e1,List.range_succ_eq_map,List.all_cons,List.all_map,d_,← ih];simp[Function.comp_def,Bool.and_assoc]
theorem kC{xs ys:List D}(h:xs.length=ys.length):(List.range xs.length).all (fun j=>ej (xs.getD j .non) (ys.getD j .non))=d_ xs ys:=by
 have e:=dH xs ys;rw[← h,Nat.min_self]at e;simpa using e
theorem nE{xs ys:List D}(h:xs.length≠ys.length):d_ xs ys=false:=by
 rw[← dH xs ys];simp[h]
end
inductive Vw (s:Shared) (Z:Addr->Prop) (H:Hp):D->Value->Prop where
 | non:Vw s Z H .non .none
 | bl (b:Bool):Vw s Z H (.bl b) (.bool b)
 | int (i:Int) (t:Tok):Vw s Z H (.int i) (.int i t)
 | str (x:Str) (t:Tok):Vw s Z H (.str x) (.str x t)
 | lst {l:Addr} {its:List Value} {vs:List V} {ds:List D}:s.heap.IsList l its.toArray->Vals vs its->Rd H l (.lst vs)/\aT Z H ds vs->Vw s Z H (.lst ds) (.ref l)
 | tup {l:Addr} {its:List Value} {vs:List V} {ds:List D}:s.heap.IsTuple l its.toArray->Vals vs its->Rd H l (.tup vs)/\aT Z H ds vs->Vw s Z H (.tup ds) (.ref l)
section
variable{X:Cx}{pins:List (Addr×Obj)}{σ:L2.St}{Z:Addr->Prop}{H:Hp}{s:Shared}{A:Around}
theorem fX{n:Nat}{d:D}{v:V}{u:Value}(I:Inv X pins σ H s)(nw:Now Z H d v)(r:RelV v u)(o:aK n d=true):Vw s Z H d u:=by
 cases d with
 | non=>cases fQ nw;cases r;exact .non
 | bl b=>cases gv nw;cases r;exact .bl b
 | int b=>cases bc nw;obtain⟨t,rfl⟩:=r;exact .int b t
 | str b=>cases cQ nw;obtain⟨t,rfl⟩:=r;exact .str b t
 | lst ds=>
  obtain⟨a,vs,rfl,h1,h2⟩:=cM nw;cases r;obtain⟨its,rv,p,hz⟩:=I.list (jc (K:=X.K) h1);exact .lst p.isList rv ⟨h1,h2⟩
 | tup ds=>
  obtain⟨a,vs,rfl,_,h1,h2⟩:=fR nw;cases r;obtain⟨its,rv,p,hz⟩:=I.tuple (uq (K:=X.K) h1);exact .tup p rv ⟨h1,h2⟩
 | dct ks ds=>cases n<;>simp[aK]at o
 | ref k=>cases n<;>simp[aK]at o
theorem nF{vs:List V}{its:List Value}(r:Vals vs its){j:Nat}(hj:j < its.length):∃ v,vs[j]?=some v/\RelV v its[j]:=by
 have hl:=r.length;have h1:vs[j]?=some vs[j]:=by simp[show j < vs.length by omega]
 obtain⟨u,h2,h3⟩:=r.get h1;rw[List.getElem?_eq_getElem hj]at h2;cases h2;exact⟨_,h1,h3⟩
theorem fB{n:Nat}(I:Inv X pins σ H s)(ih:∀ (A:Around) (dx dy:D) (u w:Value),A.units + n < cLine->aK n dx=true->aK n dy=true->Vw s Z H dx u->Vw s Z H dy w->SeqAt.EqAt A s u w (ej dx dy))
  {ds es:List D} (ox:∀ x∈ds,aK n x=true) (oy:∀ x∈es,aK n x=true) (hu:A.units + (n + 1) < cLine) {vs ws:List V} {its its2:List Value} (rl:Vals vs its) (rm:Vals ws its2) (pl:aT Z H ds vs) (pm:aT Z H es ws) :
  ∀ j (h1:j < its.toArray.size) (h2:j < its2.toArray.size),SeqAt.EqAt A.in1 s its.toArray[j] its2.toArray[j] (ej (ds.getD j .non) (es.getD j .non)):=by
 intro j h1 h2;have n1:=rl.length;have n2:=rm.length;have k1:=pl.length;have k2:=pm.length;simp only[List.size_toArray]at h1 h2;simp only[List.getElem_toArray];obtain⟨v,hv,rv⟩:=nF rl h1;obtain⟨w,hw,yy⟩:=nF rm h2;have e1:ds[j]?=some (ds.getD j .non):=by simp[List.getD,show j < ds.length by omega]
 have e2:es[j]?=some (es.getD j .non):=by simp[List.getD,show j < es.length by omega]
 obtain⟨v',hv',p1⟩:=pl.get e1;obtain⟨w',hw',p2⟩:=pm.get e2;rw[hv]at hv';cases hv'
 rw[hw]at hw';cases hw'
 have o1:=ox _ (List.mem_of_getElem? e1);have o2:=oy _ (List.mem_of_getElem? e2);exact ih A.in1 _ _ _ _ (by show A.units + 1 + n < cLine;omega) o1 o2 (fX I p1.now rv o1) (fX I p2.now yy o2)
theorem fC(I:Inv X pins σ H s):∀ (n:Nat) (A:Around) (dx dy:D) (u w:Value),A.units + n < cLine->aK n dx=true->aK n dy=true->Vw s Z H dx u->Vw s Z H dy w->SeqAt.EqAt A s u w (ej dx dy):=by
 intro n
 induction n with
 | zero=>
  intro A dx dy u w hn ox oy hx hy;have hu:A.units < cLine:=by omega
  cases hx with
  | non=>
   cases hy with
   | non=>exact SeqAt.EqAt.same _
   | bl b2=>exact SeqAt.EqAt.none_bool _
   | int i2 t2=>exact SeqAt.EqAt.none_int _ _
   | str x2 t2=>exact SeqAt.EqAt.none_str _ _
   | @lst m its2 vs2 c_ hm rm pm=>exact SeqAt.EqAt.none_list hm hu
   | @tup m its2 vs2 c_ hm rm pm=>exact SeqAt.EqAt.none_tuple hm hu
  | bl b=>
   cases hy with
   | non=>exact SeqAt.EqAt.bool_none _
   | bl b2=>exact SeqAt.EqAt.bool_bool _ _
   | int i2 t2=>exact SeqAt.EqAt.bool_int _ _ _
   | str x2 t2=>exact SeqAt.EqAt.bool_str _ _ _
   | @lst m its2 vs2 c_ hm rm pm=>exact SeqAt.EqAt.bool_list _ hm hu
   | @tup m its2 vs2 c_ hm rm pm=>exact SeqAt.EqAt.bool_tuple _ hm hu
  | int i t=>
   cases hy with
   | non=>exact SeqAt.EqAt.int_none _ _
   | bl b2=>exact SeqAt.EqAt.int_bool _ _ _
   | int i2 t2=>exact SeqAt.EqAt.int_int _ _ _ _
   | str x2 t2=>exact SeqAt.EqAt.int_str _ _ _ _
   | @lst m its2 vs2 c_ hm rm pm=>exact SeqAt.EqAt.int_list _ _ hm hu
   | @tup m its2 vs2 c_ hm rm pm=>exact SeqAt.EqAt.int_tuple _ _ hm hu
  | str x t=>
   cases hy with
   | non=>exact SeqAt.EqAt.str_none _ _
   | bl b2=>exact SeqAt.EqAt.str_bool _ _ _
   | int i2 t2=>exact SeqAt.EqAt.str_int _ _ _ _
   | str x2 t2=>exact SeqAt.EqAt.str_str _ _ _ _
   | @lst m its2 vs2 c_ hm rm pm=>exact SeqAt.EqAt.str_list _ _ hm hu
   | @tup m its2 vs2 c_ hm rm pm=>exact SeqAt.EqAt.str_tuple _ _ hm hu
  | @lst l its vs ds hl rl pl=>
   cases hy with
   | non=>exact SeqAt.EqAt.list_none hl hu
   | bl b2=>exact SeqAt.EqAt.list_bool _ hl hu
   | int i2 t2=>exact SeqAt.EqAt.list_int _ _ hl hu
   | str x2 t2=>exact SeqAt.EqAt.list_str _ _ hl hu
   | @lst m its2 vs2 c_ hm rm pm=>
    simp[aK]at ox
   | @tup m its2 vs2 c_ hm rm pm=>exact SeqAt.EqAt.list_tuple hl hm hu
  | @tup l its vs ds hl rl pl=>
   cases hy with
   | non=>exact SeqAt.EqAt.tuple_none hl hu
   | bl b2=>exact SeqAt.EqAt.tuple_bool _ hl hu
   | int i2 t2=>exact SeqAt.EqAt.tuple_int _ _ hl hu
   | str x2 t2=>exact SeqAt.EqAt.tuple_str _ _ hl hu
   | @lst m its2 vs2 c_ hm rm pm=>exact SeqAt.EqAt.tuple_list hl hm hu
   | @tup m its2 vs2 c_ hm rm pm=>
    simp[aK]at ox
 | succ n ih=>
  intro A dx dy u w hn ox oy hx hy;have hu:A.units < cLine:=by omega
  cases hx with
  | non=>
   cases hy with
   | non=>exact SeqAt.EqAt.same _
   | bl b2=>exact SeqAt.EqAt.none_bool _
   | int i2 t2=>exact SeqAt.EqAt.none_int _ _
   | str x2 t2=>exact SeqAt.EqAt.none_str _ _
   | @lst m its2 vs2 c_ hm rm pm=>exact SeqAt.EqAt.none_list hm hu
   | @tup m its2 vs2 c_ hm rm pm=>exact SeqAt.EqAt.none_tuple hm hu
  | bl b=>
   cases hy with
   | non=>exact SeqAt.EqAt.bool_none _
   | bl b2=>exact SeqAt.EqAt.bool_bool _ _
   | int i2 t2=>exact SeqAt.EqAt.bool_int _ _ _
   | str x2 t2=>exact SeqAt.EqAt.bool_str _ _ _
   | @lst m its2 vs2 c_ hm rm pm=>exact SeqAt.EqAt.bool_list _ hm hu
   | @tup m its2 vs2 c_ hm rm pm=>exact SeqAt.EqAt.bool_tuple _ hm hu
  | int i t=>
   cases hy with
   | non=>exact SeqAt.EqAt.int_none _ _
   | bl b2=>exact SeqAt.EqAt.int_bool _ _ _
   | int i2 t2=>exact SeqAt.EqAt.int_int _ _ _ _
   | str x2 t2=>exact SeqAt.EqAt.int_str _ _ _ _
   | @lst m its2 vs2 c_ hm rm pm=>exact SeqAt.EqAt.int_list _ _ hm hu
   | @tup m its2 vs2 c_ hm rm pm=>exact SeqAt.EqAt.int_tuple _ _ hm hu
  | str x t=>
   cases hy with
   | non=>exact SeqAt.EqAt.str_none _ _
   | bl b2=>exact SeqAt.EqAt.str_bool _ _ _
   | int i2 t2=>exact SeqAt.EqAt.str_int _ _ _ _
   | str x2 t2=>exact SeqAt.EqAt.str_str _ _ _ _
   | @lst m its2 vs2 c_ hm rm pm=>exact SeqAt.EqAt.str_list _ _ hm hu
   | @tup m its2 vs2 c_ hm rm pm=>exact SeqAt.EqAt.str_tuple _ _ hm hu
  | @lst l its vs ds hl rl pl=>
   cases hy with
   | non=>exact SeqAt.EqAt.list_none hl hu
   | bl b2=>exact SeqAt.EqAt.list_bool _ hl hu
   | int i2 t2=>exact SeqAt.EqAt.list_int _ _ hl hu
   | str x2 t2=>exact SeqAt.EqAt.list_str _ _ hl hu
   | @lst m its2 vs2 c_ hm rm pm=>
    have n1:=rl.length;have n2:=rm.length;have k1:=pl.2.length;have k2:=pm.2.length;simp only[ej]
    by_cases hll:l=m
    ·subst hll
     have e0:=qR pl.1 pm.1;subst e0;have e1:=aT.uniq n ds c_ vs (by simpa[aK] using ox) (by simpa[aK] using oy) pl.2 pm.2
     subst e1;rw[fA n ds (by simpa[aK] using ox)]
     exact SeqAt.EqAt.same _
    ·refine SeqAt.EqAt.of_refs hll ?_
     by_cases hsz:ds.length=c_.length
     ·rw[← kC hsz]
      have:=SeqAt.RcAt.lists hl hm (by simp only[List.size_toArray];omega) hu (fB I ih (by simpa[aK] using ox) (by simpa[aK] using oy) hn rl rm pl.2 pm.2)
      rw[show its.toArray.size=ds.length by simp only[List.size_toArray];omega]at this
      exact this
     ·rw[nE hsz]
      exact SeqAt.RcAt.lists_lengths hl hm (by simp only[List.size_toArray,bne_iff_ne];omega) hu
   | @tup m its2 vs2 c_ hm rm pm=>exact SeqAt.EqAt.list_tuple hl hm hu
  | @tup l its vs ds hl rl pl=>
   cases hy with
   | non=>exact SeqAt.EqAt.tuple_none hl hu
   | bl b2=>exact SeqAt.EqAt.tuple_bool _ hl hu
   | int i2 t2=>exact SeqAt.EqAt.tuple_int _ _ hl hu
   | str x2 t2=>exact SeqAt.EqAt.tuple_str _ _ hl hu
   | @lst m its2 vs2 c_ hm rm pm=>exact SeqAt.EqAt.tuple_list hl hm hu
   | @tup m its2 vs2 c_ hm rm pm=>
    have n1:=rl.length;have n2:=rm.length;have k1:=pl.2.length;have k2:=pm.2.length;simp only[ej]
    by_cases hll:l=m
    ·subst hll
     have e0:=qS pl.1 pm.1;subst e0;have e1:=aT.uniq n ds c_ vs (by simpa[aK] using ox) (by simpa[aK] using oy) pl.2 pm.2
     subst e1;rw[fA n ds (by simpa[aK] using ox)]
     exact SeqAt.EqAt.same _
    ·refine SeqAt.EqAt.of_refs hll ?_
     rw[← dH ds c_];have:=SeqAt.RcAt.tuples hl hm hu (fB I ih (by simpa[aK] using ox) (by simpa[aK] using oy) hn rl rm pl.2 pm.2)
     rw[show its.toArray.size=ds.length by simp only[List.size_toArray];omega,show its2.toArray.size=c_.length by simp only[List.size_toArray];omega]at this
     exact this
theorem wc(I:Inv X pins σ H s){n:Nat}{dx dy:D}{u w:Value}(hn:A.units + (n + 1) < cLine)(ox:aK (n + 1) dx=true)(oy:aK (n + 1) dy=true)(hx:Vw s Z H dx u)(hy:Vw s Z H dy w):SeqAt.RcAt A s u w (ej dx dy):=by
 have hu:A.units < cLine:=by omega
 cases hx with
 | non=>
  cases hy with
  | non=>exact SeqAt.RcAt.none_none
  | bl b2=>exact SeqAt.RcAt.none_bool _
  | int i2 t2=>exact SeqAt.RcAt.none_int _ _
  | str x2 t2=>exact SeqAt.RcAt.none_str _ _
  | @lst m its2 vs2 c_ hm rm pm=>exact SeqAt.RcAt.none_list hm hu
  | @tup m its2 vs2 c_ hm rm pm=>exact SeqAt.RcAt.none_tuple hm hu
 | bl b=>
  cases hy with
  | non=>exact SeqAt.RcAt.bool_none _
  | bl b2=>exact SeqAt.RcAt.bool_bool _ _
  | int i2 t2=>exact SeqAt.RcAt.bool_int _ _ _
  | str x2 t2=>exact SeqAt.RcAt.bool_str _ _ _
  | @lst m its2 vs2 c_ hm rm pm=>exact SeqAt.RcAt.bool_list _ hm hu
  | @tup m its2 vs2 c_ hm rm pm=>exact SeqAt.RcAt.bool_tuple _ hm hu
 | int i t=>
  cases hy with
  | non=>exact SeqAt.RcAt.int_none _ _
  | bl b2=>exact SeqAt.RcAt.int_bool _ _ _
  | int i2 t2=>exact SeqAt.RcAt.int_int _ _ _ _
  | str x2 t2=>exact SeqAt.RcAt.int_str _ _ _ _
  | @lst m its2 vs2 c_ hm rm pm=>exact SeqAt.RcAt.int_list _ _ hm hu
  | @tup m its2 vs2 c_ hm rm pm=>exact SeqAt.RcAt.int_tuple _ _ hm hu
 | str x t=>
  cases hy with
  | non=>exact SeqAt.RcAt.str_none _ _
  | bl b2=>exact SeqAt.RcAt.str_bool _ _ _
  | int i2 t2=>exact SeqAt.RcAt.str_int _ _ _ _
  | str x2 t2=>exact SeqAt.RcAt.str_str _ _ _ _
  | @lst m its2 vs2 c_ hm rm pm=>exact SeqAt.RcAt.str_list _ _ hm hu
  | @tup m its2 vs2 c_ hm rm pm=>exact SeqAt.RcAt.str_tuple _ _ hm hu
 | @lst l its vs ds hl rl pl=>
  cases hy with
  | non=>exact SeqAt.RcAt.list_none hl hu
  | bl b2=>exact SeqAt.RcAt.list_bool _ hl hu
  | int i2 t2=>exact SeqAt.RcAt.list_int _ _ hl hu
  | str x2 t2=>exact SeqAt.RcAt.list_str _ _ hl hu
  | @lst m its2 vs2 c_ hm rm pm=>
   have n1:=rl.length;have n2:=rm.length;have k1:=pl.2.length;have k2:=pm.2.length;simp only[ej]
   by_cases hsz:ds.length=c_.length
   ·rw[← kC hsz]
    have:=SeqAt.RcAt.lists hl hm (by simp only[List.size_toArray];omega) hu (fB I (fC I n) (by simpa[aK] using ox) (by simpa[aK] using oy) hn rl rm pl.2 pm.2)
    rw[show its.toArray.size=ds.length by simp only[List.size_toArray];omega]at this
    exact this
   ·rw[nE hsz]
    exact SeqAt.RcAt.lists_lengths hl hm (by simp only[List.size_toArray,bne_iff_ne];omega) hu
  | @tup m its2 vs2 c_ hm rm pm=>exact SeqAt.RcAt.list_tuple hl hm hu
 | @tup l its vs ds hl rl pl=>
  cases hy with
  | non=>exact SeqAt.RcAt.tuple_none hl hu
  | bl b2=>exact SeqAt.RcAt.tuple_bool _ hl hu
  | int i2 t2=>exact SeqAt.RcAt.tuple_int _ _ hl hu
  | str x2 t2=>exact SeqAt.RcAt.tuple_str _ _ hl hu
  | @lst m its2 vs2 c_ hm rm pm=>exact SeqAt.RcAt.tuple_list hl hm hu
  | @tup m its2 vs2 c_ hm rm pm=>
   have n1:=rl.length;have n2:=rm.length;have k1:=pl.2.length;have k2:=pm.2.length;simp only[ej];rw[← dH ds c_];have:=SeqAt.RcAt.tuples hl hm hu (fB I (fC I n) (by simpa[aK] using ox) (by simpa[aK] using oy) hn rl rm pl.2 pm.2)
   rw[show its.toArray.size=ds.length by simp only[List.size_toArray];omega,show its2.toArray.size=c_.length by simp only[List.size_toArray];omega]at this
   exact this
theorem qT(I:Inv X pins σ H s){n:Nat}{dx dy:D}{u w:Value}(hn:A.units + (n + 1) < cLine)(ox:aK (n + 1) dx=true)(oy:aK (n + 1) dy=true)(hx:Vw s Z H dx u)(hy:Vw s Z H dy w):SeqAt.RcNeAt A s u w (!ej dx dy):=by
 have hu:A.units < cLine:=by omega
 cases hx with
 | non=>
  cases hy with
  | non=>exact SeqAt.RcNeAt.none_none
  | bl b2=>exact SeqAt.RcNeAt.none_bool _
  | int i2 t2=>exact SeqAt.RcNeAt.none_int _ _
  | str x2 t2=>exact SeqAt.RcNeAt.none_str _ _
  | @lst m its2 vs2 c_ hm rm pm=>exact SeqAt.RcNeAt.none_list hm hu
  | @tup m its2 vs2 c_ hm rm pm=>exact SeqAt.RcNeAt.none_tuple hm hu
 | bl b=>
  cases hy with
  | non=>exact SeqAt.RcNeAt.bool_none _
  | bl b2=>exact SeqAt.RcNeAt.bool_bool _ _
  | int i2 t2=>exact SeqAt.RcNeAt.bool_int _ _ _
  | str x2 t2=>exact SeqAt.RcNeAt.bool_str _ _ _
  | @lst m its2 vs2 c_ hm rm pm=>exact SeqAt.RcNeAt.bool_list _ hm hu
  | @tup m its2 vs2 c_ hm rm pm=>exact SeqAt.RcNeAt.bool_tuple _ hm hu
 | int i t=>
  cases hy with
  | non=>exact SeqAt.RcNeAt.int_none _ _
  | bl b2=>exact SeqAt.RcNeAt.int_bool _ _ _
  | int i2 t2=>exact SeqAt.RcNeAt.int_int _ _ _ _
  | str x2 t2=>exact SeqAt.RcNeAt.int_str _ _ _ _
  | @lst m its2 vs2 c_ hm rm pm=>exact SeqAt.RcNeAt.int_list _ _ hm hu
  | @tup m its2 vs2 c_ hm rm pm=>exact SeqAt.RcNeAt.int_tuple _ _ hm hu
 | str x t=>
  cases hy with
  | non=>exact SeqAt.RcNeAt.str_none _ _
  | bl b2=>exact SeqAt.RcNeAt.str_bool _ _ _
  | int i2 t2=>exact SeqAt.RcNeAt.str_int _ _ _ _
  | str x2 t2=>exact SeqAt.RcNeAt.str_str _ _ _ _
  | @lst m its2 vs2 c_ hm rm pm=>exact SeqAt.RcNeAt.str_list _ _ hm hu
  | @tup m its2 vs2 c_ hm rm pm=>exact SeqAt.RcNeAt.str_tuple _ _ hm hu
 | @lst l its vs ds hl rl pl=>
  cases hy with
  | non=>exact SeqAt.RcNeAt.list_none hl hu
  | bl b2=>exact SeqAt.RcNeAt.list_bool _ hl hu
  | int i2 t2=>exact SeqAt.RcNeAt.list_int _ _ hl hu
  | str x2 t2=>exact SeqAt.RcNeAt.list_str _ _ hl hu
  | @lst m its2 vs2 c_ hm rm pm=>
   have n1:=rl.length;have n2:=rm.length;have k1:=pl.2.length;have k2:=pm.2.length;simp only[ej]
   by_cases hsz:ds.length=c_.length
   ·rw[← kC hsz]
    have:=SeqAt.RcNeAt.lists hl hm (by simp only[List.size_toArray];omega) hu (fB I (fC I n) (by simpa[aK] using ox) (by simpa[aK] using oy) hn rl rm pl.2 pm.2)
    rw[show its.toArray.size=ds.length by simp only[List.size_toArray];omega]at this
    exact this
   ·rw[nE hsz]
    exact SeqAt.RcNeAt.lists_lengths hl hm (by simp only[List.size_toArray,bne_iff_ne];omega) hu
  | @tup m its2 vs2 c_ hm rm pm=>exact SeqAt.RcNeAt.list_tuple hl hm hu
 | @tup l its vs ds hl rl pl=>
  cases hy with
  | non=>exact SeqAt.RcNeAt.tuple_none hl hu
  | bl b2=>exact SeqAt.RcNeAt.tuple_bool _ hl hu
  | int i2 t2=>exact SeqAt.RcNeAt.tuple_int _ _ hl hu
  | str x2 t2=>exact SeqAt.RcNeAt.tuple_str _ _ hl hu
  | @lst m its2 vs2 c_ hm rm pm=>exact SeqAt.RcNeAt.tuple_list hl hm hu
  | @tup m its2 vs2 c_ hm rm pm=>
   have n1:=rl.length;have n2:=rm.length;have k1:=pl.2.length;have k2:=pm.2.length;simp only[ej];rw[← dH ds c_];have:=SeqAt.RcNeAt.tuples hl hm hu (fB I (fC I n) (by simpa[aK] using ox) (by simpa[aK] using oy) hn rl rm pl.2 pm.2)
   rw[show its.toArray.size=ds.length by simp only[List.size_toArray];omega,show its2.toArray.size=c_.length by simp only[List.size_toArray];omega]at this
   exact this
end
end Mir
namespace Mir
open PySem PySem.Spec PyProof.Rows L2
theorem Vw.uniq{s:Shared}{Z:Addr->Prop}{H:Hp}{n:Nat}{d d':D}{u:Value}(h:Vw s Z H d u)(h':Vw s Z H d' u)(o:aK n d=true)(o':aK n d'=true):d=d':=by
 cases h with
 | non=>cases h';rfl
 | bl b=>cases h';rfl
 | int i t=>cases h';rfl
 | str x t=>cases h';rfl
 | @lst l its vs ds hl rl pl=>
  cases h' with
  | @lst _ its2 vs2 c_ hm rm pm=>
   cases qR pl.1 pm.1;cases n with
   | zero=>simp[aK]at o
   | succ n=>rw[aT.uniq n ds c_ vs (by simpa[aK] using o) (by simpa[aK] using o') pl.2 pm.2]
  | @tup _ its2 vs2 c_ hm rm pm=>exact(sI pl.1 pm.1).elim
 | @tup l its vs ds hl rl pl=>
  cases h' with
  | @tup _ its2 vs2 c_ hm rm pm=>
   cases qS pl.1 pm.1;cases n with
   | zero=>simp[aK]at o
   | succ n=>rw[aT.uniq n ds c_ vs (by simpa[aK] using o) (by simpa[aK] using o') pl.2 pm.2]
  | @lst _ its2 vs2 c_ hm rm pm=>exact(sI pm.1 pl.1).elim
section
variable{X:Cx}{pins:List (Addr×Obj)}{σ:L2.St}{Z:Addr->Prop}{H:Hp}{s:Shared}
def jM(s:Shared)(Z:Addr->Prop)(H:Hp)(dx:D)(u:Value):Bool:=@decide (∃ d,aK 8 d=true/\Vw s Z H d u/\ej d dx=true) (Classical.propDecidable _)
theorem sJ{dx d:D}{u:Value}(o:aK 8 d=true)(h:Vw s Z H d u):jM s Z H dx u=ej d dx:=by
 unfold jM;cases e:ej d dx with
 | true=>exact @decide_eq_true _ (Classical.propDecidable _) ⟨d,o,h,e⟩
 | false=>
  refine @decide_eq_false _ (Classical.propDecidable _) ?_;rintro⟨d',o',h',e'⟩;rw[Vw.uniq h' h o' o,e]at e';cases e'
theorem kD(I:Inv X pins σ H s){dx:D}:∀ {ds:List D} {vs:List V} {its:List Value},aT Z H ds vs->Vals vs its->(∀ d∈ds,aK 8 d=true)->its.any (jM s Z H dx)=ds.any fun d=>ej d dx
 | [],_,_,h,r,_=>by rw[h.nil_inv]at r;cases r;rfl
 | d::ds,_,_,h,r,o=>by
  obtain⟨v,vr,rfl,h1,h2⟩:=h.cons_inv;cases r with
  | cons r1 r2=>
   rw[List.any_cons,List.any_cons,kD I h2 r2 fun z hz=>o z (by simp[hz]),sJ (o d (by simp)) (fX I h1.now r1 (o d (by simp)))]
theorem kF(I:Inv X pins σ H s){A:Around}{dx:D}{w:Value}(hu:A.units + 8 < cLine)(ox:aK 8 dx=true)(hx:Vw s Z H dx w) :
  ∀ {ds:List D} {vs:List V} {its:List Value},aT Z H ds vs->Vals vs its->(∀ d∈ds,aK 8 d=true)->∀ u∈its,SeqAt.EqAt A s u w (jM s Z H dx u)
 | [],_,_,h,r,_,u,hm=>by rw[h.nil_inv]at r;cases r;simp at hm
 | d::ds,_,_,h,r,o,u,hm=>by
  obtain⟨v,vr,rfl,h1,h2⟩:=h.cons_inv;cases r with
  | cons r1 r2=>
   rcases List.mem_cons.mp hm with e | hm
   ·subst e
    have vw:=fX I h1.now r1 (o d (by simp))
    rw[sJ (o d (by simp)) vw]
    exact fC I 8 A d dx _ w hu (o d (by simp)) ox vw hx
   ·exact kF I hu ox hx h2 r2 (fun z hz=>o z (by simp[hz])) u hm
end
section
variable{X:Cx}{Γ:lV}{bw:Bool}{a b e:Expr}{ca cb cc c:Ex}{pos:Pos}
def wd(op:CmpOp):R2:=fun x y H Q=>∃ Z dx dy k,Now Z H dx x/\Now Z H dy y/\ek op dx dy=.ok k/\Q (.bl k) H
theorem pd{Z:Addr->Prop}{H:Hp}{ks:List L2.Key}{ds:List D}{x:V}(h:Now Z H (.dct ks ds) x):∃ a,x=.ref a:=by
 have h:Rep Z H (.dct ks ds) x:=h;simp only[Rep]at h;obtain⟨a,_,e,_⟩:=h;exact⟨a,e⟩
theorem BA{Z:Addr->Prop}{H:Hp}{dx dy:D}{x y:V}{k:Bool}{u v:Value}(nx:Now Z H dx x)(ny:Now Z H dy y)(rx:RelV x u)(ry:RelV y v)(h:isD dx dy=.ok k):plainIs u v=true/\(u == v)=k:=by
 have zk:∀ {ds:List D} {x:V} {u:Value},Now Z H (.lst ds) x->RelV x u->∃ a,u=.ref a:=fun n r=>by
  obtain⟨a,_,rfl,_⟩:=cM n;exact⟨a,r⟩
 have Gk:∀ {ds:List D} {x:V} {u:Value},Now Z H (.tup ds) x->RelV x u->∃ a,u=.ref a:=fun n r=>by
  obtain⟨a,_,rfl,_⟩:=fR n;exact⟨a,r⟩
 cases dy with
 | non=>
  cases fQ ny;cases ry;cases dx with
  | non=>cases fQ nx;cases rx;cases h;exact⟨rfl,rfl⟩
  | bl b=>cases gv nx;cases rx;cases h;exact⟨rfl,rfl⟩
  | int i=>cases bc nx;obtain⟨t,rfl⟩:=rx;cases h;exact⟨rfl,rfl⟩
  | str i=>cases cQ nx;obtain⟨t,rfl⟩:=rx;cases h;exact⟨rfl,rfl⟩
  | lst ds=>obtain⟨a,rfl⟩:=zk nx rx;cases h;exact⟨rfl,rfl⟩
  | tup ds=>obtain⟨a,rfl⟩:=Gk nx rx;cases h;exact⟨rfl,rfl⟩
  | dct ks ds=>obtain⟨a,rfl⟩:=pd nx;cases rx;cases h;exact⟨rfl,rfl⟩
  | ref n=>exact(show False by simpa only [Now,Rep] using nx).elim
 | bl c=>
  cases gv ny;cases ry;cases dx with
  | non=>cases fQ nx;cases rx;cases h;exact⟨rfl,rfl⟩
  | bl b=>cases gv nx;cases rx;cases h;exact⟨rfl,by cases b<;>cases c<;>rfl⟩
  | int i=>cases bc nx;obtain⟨t,rfl⟩:=rx;cases h;exact⟨rfl,rfl⟩
  | str i=>cases cQ nx;obtain⟨t,rfl⟩:=rx;cases h;exact⟨rfl,rfl⟩
  | lst ds=>obtain⟨a,rfl⟩:=zk nx rx;cases h;exact⟨rfl,rfl⟩
  | tup ds=>obtain⟨a,rfl⟩:=Gk nx rx;cases h;exact⟨rfl,rfl⟩
  | dct ks ds=>cases h
  | ref n=>cases h
 | int _=>cases dx<;>cases h
 | str _=>cases dx<;>cases h
 | lst _=>cases dx<;>cases h
 | tup _=>cases dx<;>cases h
 | dct _ _=>cases dx<;>cases h
 | ref _=>cases dx<;>cases h
theorem BB{pins:List (Addr×Obj)}{s:Shared}{σ:L2.St}{H:Hp}{x y:V}{u v:Value}{Q:VK}(hu:X.A.units + 64 < cLine)(I:Inv X pins σ H s)(rx:RelV x u)(ry:RelV y v)
  {Z:Addr->Prop} {dx dy:D} {k:Bool} (nx:Now Z H dx x) (ny:Now Z H dy y) (e:inD dx dy=.ok k) :
  (Q (.bl k) H->wpAny (model X.prog X.w) X.A (compareOp .In u v) (EP X pins σ Q) X.xe s)/\(Q (.bl !k) H->wpAny (model X.prog X.w) X.A (compareOp .NotIn u v) (EP X pins σ Q) X.xe s):=by
 unfold inD at e;split at e
 ·rename_i ys
  split at e
  ·rename_i hc
   cases e;simp only[Bool.and_eq_true]at hc;obtain⟨ox,os⟩:=hc;have os:=List.all_eq_true.mp os;obtain⟨l,vs,rfl,h1,h2⟩:=cM ny;cases ry;obtain⟨its,rv,p,hz⟩:=I.list (jc (K:=X.K) h1);have vw:=fX I nx rx ox;have hm:∀ w,w∈its.toArray->SeqAt.EqAt X.A.in1 s w u (jM s Z H dx w):=fun w hw=>kF I (A:=X.A.in1) (by show X.A.units + 1 + 8 < cLine;omega) ox vw h2 rv os w (by simpa using hw)
   have ea:its.toArray.any (jM s Z H dx)=ys.any fun y=>ej y dx:=by
    rw[← kD I h2 rv os];simp
   exact⟨fun q=>SeqAt.in_listAt (jM s Z H dx) p.isList hm ⟨.bl _,H,I,rfl,by rw[ea];exact q⟩,fun q=>SeqAt.notIn_listAt (jM s Z H dx) p.isList hm ⟨.bl _,H,I,rfl,by rw[ea];exact q⟩⟩
  ·cases e
 ·rename_i ys
  split at e
  ·rename_i hc
   cases e;simp only[Bool.and_eq_true]at hc;obtain⟨ox,os⟩:=hc;have os:=List.all_eq_true.mp os;obtain⟨l,vs,rfl,_,h1,h2⟩:=fR ny;cases ry;obtain⟨its,rv,p,hz⟩:=I.tuple (uq (K:=X.K) h1);have vw:=fX I nx rx ox;have hm:∀ w,w∈its.toArray->SeqAt.EqAt X.A.in1 s w u (jM s Z H dx w):=fun w hw=>kF I (A:=X.A.in1) (by show X.A.units + 1 + 8 < cLine;omega) ox vw h2 rv os w (by simpa using hw)
   have ea:its.toArray.any (jM s Z H dx)=ys.any fun y=>ej y dx:=by
    rw[← kD I h2 rv os];simp
   exact⟨fun q=>SeqAt.in_tupleAt (jM s Z H dx) p hm ⟨.bl _,H,I,rfl,by rw[ea];exact q⟩,fun q=>SeqAt.notIn_tupleAt (jM s Z H dx) p hm ⟨.bl _,H,I,rfl,by rw[ea];exact q⟩⟩
  ·cases e
 ·cases e
  cases cQ nx;cases cQ ny;exact⟨fun q=>ud pins s σ H _ _ u v Q I rx ry ⟨_,_,rfl,rfl,q⟩,fun q=>m9 pins s σ H _ _ u v Q I rx ry ⟨_,_,rfl,rfl,q⟩⟩
 ·cases e
theorem jd(hu:X.A.units + 64 < cLine)(op:CmpOp):f9 X (compareOp op) (wd op):=by
 intro pins s σ H x y u v Q I rx ry h;obtain⟨Z,dx,dy,k,nx,ny,e,q⟩:=h;have fin:EP X pins σ Q (.bool k) s:=⟨.bl k,H,I,rfl,q⟩
 have intc:∀ {i j:Int} {o:CmpOp} {g:Int->Int->Bool},f9 X (compareOp o) (yP fun i j=>.bl (g i j))->dx=.int i->dy=.int j->k=g i j->wpAny (model X.prog X.w) X.A (compareOp o u v) (EP X pins σ Q) X.xe s:=by
  intro i j o g h1 e1 e2 e3;subst e1 e2 e3;cases bc nx;cases bc ny;exact h1 pins s σ H _ _ u v Q I rx ry ⟨_,_,rfl,rfl,q⟩
 cases op with
 | Eq=>
  unfold ek at e;dsimp only at e;split at e
  ·rename_i hc
   cases e;simp only[Bool.and_eq_true]at hc;exact wc I (n:=7) (by omega) hc.1 hc.2 (fX I nx rx hc.1) (fX I ny ry hc.2) X.prog X.w X.xe _ fin
  ·cases e
 | NotEq=>
  unfold ek at e;dsimp only at e;split at e
  ·rename_i hc
   cases e;simp only[Bool.and_eq_true]at hc;exact qT I (n:=7) (by omega) hc.1 hc.2 (fX I nx rx hc.1) (fX I ny ry hc.2) X.prog X.w X.xe _ fin
  ·cases e
 | Lt=>cases dx<;>cases dy<;>first | (cases e;exact intc FK rfl rfl rfl) | cases e
 | LtE=>cases dx<;>cases dy<;>first | (cases e;exact intc FL rfl rfl rfl) | cases e
 | Gt=>cases dx<;>cases dy<;>first | (cases e;exact intc FO rfl rfl rfl) | cases e
 | GtE=>cases dx<;>cases dy<;>first | (cases e;exact intc FP rfl rfl rfl) | cases e
 | In=>
  have e:inD dx dy=.ok k:=by cases dx<;>cases dy<;>exact e
  exact(BB hu I rx ry nx ny e).1 q
 | NotIn=>
  have e:(do let b ← inD dx dy;Out.ok (!b))=.ok k:=by cases dx<;>cases dy<;>exact e
  obtain⟨b,e1,e2⟩:=kB e;cases e2;exact(BB hu I rx ry nx ny e1).2 q
 | Is=>
  have e:isD dx dy=.ok k:=by cases dx<;>cases dy<;>exact e
  obtain⟨h1,h2⟩:=BA nx ny rx ry e;exact wpAny_is_plain h1 (by rw[h2];exact fin)
 | IsNot=>
  have e:(do let b ← isD dx dy;Out.ok (!b))=.ok k:=by cases dx<;>cases dy<;>exact e
  obtain⟨b,e1,e2⟩:=kB e;cases e2;obtain⟨h1,h2⟩:=BA nx ny rx ry e1;exact wpAny_isNot_plain h1 (by rw[h2];exact fin)
theorem CN{op:CmpOp}{dx dy:D}{x y:V}{Z:Addr->Prop}{H:Hp}{own:Bool}{d:D}{Q:VK}(nx:Now Z H dx x)(ny:Now Z H dy y)(dom:∀ a,Z a->H a≠none)
  (ee:(do let r ← ek op dx dy;Out.ok (false,D.bl r))=.ok (own,d)) (k:∀ v H' Z',el Z H Z' H'->dU bw own Z' H H' d v->Q v H'):wd op x y H Q:=by
 obtain⟨r,e1,e2⟩:=kB ee;cases e2;exact⟨Z,dx,dy,r,nx,ny,e1,k _ H Z (el.refl dom) (.rep (eH rfl))⟩
end
theorem PT.imp{X:Cx}{e:Expr}{t t':TT}(h:PT X e t)(i:∀ σ H Q,t' σ H Q->t σ H Q):PT X e t':=fun pins s σ H Q I q=>h pins s σ H Q I (i σ H Q q)
theorem PW.imp{X:Cx}{e:Expr}{t t':TT}(h:PW X e t)(i:∀ σ H Q,t' σ H Q->t σ H Q):PW X e t':=fun wh pins s σ H Q I q=>h wh pins s σ H Q I (i σ H Q q)
section
variable{X:Cx}{Γ:lV}{bw:Bool}{a b e:Expr}{ca cb cc c:Ex}{pos:Pos}
theorem CO{Z:Addr->Prop}{H:Hp}{d:D}{x:V}{t:Bool}{K:PySem.W.Frag}(n:Now Z H d x)(h:jL d=some t):oS K x H t:=by
 cases d with
 | non=>cases fQ n;cases h;rfl
 | bl b=>cases gv n;cases h;rfl
 | int b=>cases bc n;cases h;rfl
 | str b=>
  cases cQ n;simp only[jL]at h;split at h
  ·rename_i hs
   cases h;refine⟨bS hs,?_⟩
   have e:((b.length:Int) != 0)=(b.length != 0):=by
    rw[Bool.eq_iff_iff];simp only[bne_iff_ne,ne_eq];omega
   rw[e]
  ·cases h
 | lst ds=>
  obtain⟨a,vs,rfl,h1,h2⟩:=cM n;cases h;refine .inl ⟨vs,jc h1,?_⟩;have:=h2.length;cases ds<;>cases vs<;>simp at this ⊢
 | tup ds=>
  obtain⟨a,vs,rfl,_,h1,h2⟩:=fR n;cases h;refine .inr (.inl ⟨vs,uq h1,?_⟩);have:=h2.length;cases ds<;>cases vs<;>simp at this ⊢
 | dct ks ds=>cases h
 | ref k=>cases h
end
def qU(Z:Addr->Prop)(H:Hp):List D->List V->Prop
 | [],vs=>vs=[]
 | d::ds,vs=>∃ v r,vs=v::r/\Now Z H d v/\qU Z H ds r
section
variable{Z Z':Addr->Prop}{H H':Hp}
theorem qU.one{d:D}{xs:List V}(h:qU Z H [d] xs):∃ x,xs=[x]/\Now Z H d x:=by
 obtain⟨v,r,e,h1,h2⟩:=h;exact⟨v,by rw[e,show r=[] from h2],h1⟩
theorem qU.two{d d':D}{xs:List V}(h:qU Z H [d,d'] xs):∃ x y,xs=[x,y]/\Now Z H d x/\Now Z H d' y:=by
 obtain⟨v,r,e,h1,v',r',e',h2,h3⟩:=h;exact⟨v,v',by rw[e,e',show r'=[] from h3],h1,h2⟩
end
def Args(bw:Bool)(Z:Addr->Prop)(H:Hp)(ds:List D)(vs:List V):Prop:=if bw=true then qU Z H ds vs else aT Z H ds vs
theorem PA.imp{X:Cx}{e:List Expr}{t t':TA}(h:PA X e t)(i:∀ σ H Q,t' σ H Q->t σ H Q):PA X e t':=fun pos pins s σ H Q I q=>h pos pins s σ H Q I (i σ H Q q)
section
variable{X:Cx}{Γ:lV}{bw:Bool}{a b e:Expr}{es:List Expr}{ca cb cc c cs:Ex}{pos p:Pos}
theorem we{Z:Addr->Prop}{H:Hp}{ds:List D}{vs:List V}{i:Int}{d:D}(h:aT Z H ds vs)(e:i9 ds i=some d):∃ v,i9 vs i=some v/\Rep Z H d v:=by
 unfold i9 at e ⊢;rw[h.length];cases q:sr ds.length i with
 | none=>rw[q]at e;cases e
 | some j=>
  rw[q]at e;exact h.get e
theorem CP{dx dy:D}{x y:V}{Z:Addr->Prop}{H:Hp}{own:Bool}{d:D}{Q:VK}{K:PySem.W.Frag}(nx:Now Z H dx x)(ny:Now Z H dy y)(dom:∀ a,Z a->H a≠none)(ee:qQ dx dy=.ok (own,d))
  (k:∀ v H' Z',el Z H Z' H'->dU bw own Z' H H' d v->Q v H'):FZ K x y H Q:=by
 unfold qQ at ee;split at ee
 ·obtain⟨l,xs,rfl,h1,h2⟩:=cM nx
  cases bc ny;split at ee
  ·rename_i d' hd
   cases ee;obtain⟨v,hv,rv⟩:=we h2 hd;exact .inl ⟨l,xs,_,v,rfl,rfl,jc h1,hv,k v H Z (el.refl dom) (.rep rv)⟩
  ·cases ee
 ·obtain⟨l,xs,rfl,_,h1,h2⟩:=fR nx
  cases bc ny;split at ee
  ·rename_i d' hd
   cases ee;obtain⟨v,hv,rv⟩:=we h2 hd;exact .inr (.inl ⟨l,xs,_,v,rfl,rfl,uq h1,hv,k v H Z (el.refl dom) (.rep rv)⟩)
  ·cases ee
 ·cases cQ nx
  cases bc ny;split at ee
  ·rename_i hs
   split at ee
   ·rename_i c' hd
    cases ee;exact .inr (.inr ⟨_,_,c',rfl,rfl,bS hs,hd,k _ H Z (el.refl dom) (.rep (eH rfl))⟩)
   ·cases ee
  ·cases ee
 ·cases ee
theorem wg{α:Type}(xs:List α)(lo hi:Option Int):(dq xs lo hi).length<=xs.length:=by
 unfold dq;rw[List.length_take,List.length_drop];omega
theorem sL(n d:Nat)(v:Int):max 0 (min (if v < 0 then v + (n:Int) else v) (n:Int))=((HT.cF n d (some v):Nat):Int):=by
 show max 0 (min (if v < 0 then v + (n:Int) else v) (n:Int))=(((if v < 0 then (v + (n:Int)).toNat else min v.toNat n):Nat):Int)
 by_cases hv:v < 0
 ·simp only[if_pos hv];omega
 ·simp only[if_neg hv];omega
theorem wj{a b:Int}{p q:Nat}(ha:a=p)(hb:b=q):sliceRange a b 1=(List.range (q - p)).map fun k=>p + k:=by
 subst ha hb;unfold sliceRange;simp only[show((1:Int) > 0)=True from by simp,if_true]
 by_cases hlt:(p:Int) < q
 ·rw[if_pos hlt]
  have e3:(((q:Int) - p + 1 - 1) / 1).toNat=q - p:=by first | omega | (simp;done) | (simp;omega)
  rw[e3];refine List.map_congr_left fun k _ => ?_
  omega
 ·rw[if_neg hlt]
  have:q - p=0:=by omega
  rw[this];rfl
theorem kG(lo hi:Option Int)(n:Nat):Builtin.Str.strSliceIndices lo hi 1 n=(List.range (HT.cF n n hi - HT.cF n 0 lo)).map fun k=>HT.cF n 0 lo + k:=by
 unfold Builtin.Str.strSliceIndices;simp only[show((1:Int) > 0)=True from by simp,if_true]
 refine wj ?_ ?_
 ·cases lo with
  | none=>rfl
  | some v=>exact sL n 0 v
 ·cases hi with
  | none=>rfl
  | some v=>exact sL n n v
theorem ur:∀ (n a:Nat) (l:List Nat),a + n<=l.length->((List.range n).map fun k=>a + k).filterMap (fun i=>l[i]?)=(l.drop a).take n:=by
 intro n
 induction n with
 | zero=>intro a l _;simp
 | succ n ih=>
  intro a l h;have hlt:a + n < l.length:=by omega
  rw[List.range_succ,List.map_append,List.filterMap_append,ih a l (by omega),List.take_add_one,List.getElem?_drop]
  simp[List.getElem?_eq_getElem hlt]
theorem wk(x:Str)(lo hi:Option Int):(Builtin.Str.strSliceIndices lo hi 1 x.length).filterMap (x.cps[·]?)=dq x.cps.toList lo hi:=by
 have hn:x.cps.toList.length=x.length:=by simp[Str.length]
 have l1:=HT.ng x.length 0 (Nat.zero_le _) lo;have l2:=HT.ng x.length x.length (Nat.le_refl _) hi;rw[kG];unfold dq;rw[hn];generalize HT.cF x.length 0 lo=p at *;generalize HT.cF x.length x.length hi=q at *
 by_cases Vu:p<=q
 ·have:=ur (q - p) p x.cps.toList (by rw[hn];omega)
  simpa using this
 ·have:q - p=0:=by omega
  rw[this];simp
def Gm:V->Option Int->Option Int->Hp->VK->Prop:=fun x lo hi H Q=>∃ z,x=.str z/\z.length<=sizeLine/\Q (.str ⟨(dq z.cps.toList lo hi).toArray⟩) H
theorem kH:yX X Gm:=by
 intro pins s σ H x v vl vu lo hi sl Q I rx hs pl pu h;obtain⟨z,rfl,hz,q⟩:=h;obtain⟨t,rfl⟩:=rx;refine⟨"str",_,F.slot_str_getitem.lookup,typeIs_str _ _ _,?_⟩
 have part:∀ {w:Value} {o:Option Int},IsPart w o->∃ p:Option (Int×Tok),w=partValue p/\p.map (·.1)=o:=fun h=>by
  cases h with
  | none=>exact⟨none,rfl,rfl⟩
  | int i t=>exact⟨some (i,t),rfl,rfl⟩
 obtain⟨p1,e1,m1⟩:=part pl;obtain⟨p2,e2,m2⟩:=part pu;subst e1 e2;refine wpAny_getItem_str_slice (l:=p1) (u:=p2) (st:=none) hs rfl ?_
 have ep:(slicePicked z p1 p2 none).filterMap (z.cps[·]?)=dq z.cps.toList lo hi:=by
  unfold slicePicked;rw[m1,m2];exact wk z lo hi
 have hl:(dq z.cps.toList lo hi).length<=z.length:=by
  have:=wg z.cps.toList lo hi;simpa[Str.length] using this
 unfold sliceMade;split
 ·rename_i hc
  have hw:(slicePicked z p1 p2 none).length=z.length:=by
   simp only[Bool.and_eq_true,beq_iff_eq]at hc;exact hc.2
  have ez:(⟨(dq z.cps.toList lo hi).toArray⟩:Str)=z:=by
   unfold slicePicked at hw;rw[m1,m2]at hw;have hw:(Builtin.Str.strSliceIndices lo hi 1 z.length).length=z.length:=hw;rw[kG,List.length_map,List.length_range]at hw;have l2:=HT.ng z.length z.length (Nat.le_refl _) hi;have hn:z.cps.toList.length=z.length:=by simp[Str.length]
   have ec:dq z.cps.toList lo hi=z.cps.toList:=by
    unfold dq;rw[hn]
    by_cases h0:z.length=0
    ·have:z.cps.toList=[]:=List.eq_nil_of_length_eq_zero (by rw[hn];exact h0)
     rw[this];simp
    ·have p0:HT.cF z.length 0 lo=0:=by omega
     rw[p0,List.drop_zero,List.take_of_length_le (by rw[hn];omega)]
   rw[ec]
  refine⟨.str z,H,I,⟨t,rfl⟩,?_⟩;rw[ez]at q;exact q
 ·rw[ep]
  refine⟨?_,.str _,H,I.tok _,⟨_,rfl⟩,q⟩
  show(dq z.cps.toList lo hi).toArray.size<=sizeLine
  rw[List.size_toArray];omega
def Sr(K:PySem.W.Frag):V->Option Int->Option Int->Hp->VK->Prop:=fun x lo hi H Q=>F4 K x lo hi H Q\/Gm x lo hi H Q
end
noncomputable def kI(F:List D->Out Rs):Sp:=fun vs H Q _=>
 ∃ Z ds own d,(∀ a,Z a->H a≠none)/\aT Z H ds vs/\F ds=.ok (own,d)/\∀ v H' Z',el Z H Z' H'->dU false own Z' H H' d v->Q v H'
theorem dU.weak{bw own:Bool}{Z:Addr->Prop}{Hb H:Hp}{d:D}{v:V}(h:dU false own Z Hb H d v):dU bw own Z Hb H d v:=by
 unfold dU at h ⊢;split
 ·rename_i ho;rw[if_pos ho]at h;exact h
 ·rename_i ho;rw[if_neg ho,if_neg Bool.false_ne_true]at h
  split
  ·exact h.now
  ·exact h
section
variable{X:Cx}{Γ:lV}{bw:Bool}{a b e:Expr}{es:List Expr}{ca cb cc c cs:Ex}{pos p:Pos}
structure Gn(X:Cx)(k:Nat)(x:Str)(F:List D->Out Rs):Prop where
 ex:∃ (f:Addr) (fd:FuncData) (ps:List Str),X.mg x=some (.ref f)/\PySem.W.keepIn X.K (.ref f)=true/\Binds X.K fd ps []/\cp X.prog X.w X.K X.mg X.base eG k f fd ps (kI F)
inductive eI (h:Heap):Value->Bool->Prop where
 | non:eI h .none false
 | bl (b:Bool):eI h (.bool b) b
 | int (i:Int) (t:Tok):eI h (.int i t) (i != 0)
 | str (x:Str) (t:Tok):x.length<=sizeLine->eI h (.str x t) ((x.length:Int) != 0)
 | lst {l:Addr} {its:Array Value}:h.IsList l its->its.size<=sizeLine->eI h (.ref l) (!its.isEmpty)
 | tup {l:Addr} {its:Array Value}:IsTup h l its->its.size<=sizeLine->eI h (.ref l) (!its.isEmpty)
theorem eI.keep{h h':Heap}{u:Value}{t:Bool}(k:∀ b o,(u=.ref b)->h.get? b=some o->h'.get? b=some o)(x:eI h u t):eI h' u t:=by
 cases x with
 | non=>exact .non
 | bl=>exact .bl _
 | int i t=>exact .int i t
 | str x t z=>exact .str x t z
 | lst q z=>obtain⟨o,h1,h2⟩:=q;exact .lst ⟨o,k _ o rfl h1,h2⟩ z
 | tup q z=>obtain⟨o,h1,h2⟩:=q;exact .tup ⟨o,k _ o rfl h1,h2⟩ z
theorem eI.run{prog:Program}{w:World}{A:Around}{E:Value->Shared->Prop}{s:Shared}{u:Value}{t:Bool}{Q:Bool->Shared->Prop}(x:eI s.heap u t)(q:∀ tk,Q t { s with toks:=tk }):wpAny (model prog w) A (truthy u) Q E s:=by
 have hl:=ir;cases x with
 | non=>exact truthy_none (q s.toks)
 | bl=>exact wpAny_truthy_bool (q s.toks)
 | int i t=>exact PySem.P.truthy_int (q s.toks)
 | str x t z=>exact PySem.P.truthy_str (by omega) (q _)
 | lst h z=>exact wpAny_truthy_list h (by omega) (q _)
 | tup h z=>exact truthy_tuple h (by omega) (q _)
theorem wm{pins:List (Addr×Obj)}{σ:L2.St}{H:Hp}{s:Shared}{Z:Addr->Prop}{d:D}{v:V}{u:Value}{t:Bool}(I:Inv X pins σ H s)(n:Now Z H d v)(r:RelV v u)(h:jL d=some t):eI s.heap u t:=by
 cases d with
 | non=>cases fQ n;cases r;cases h;exact .non
 | bl b=>cases gv n;cases r;cases h;exact .bl _
 | int b=>cases bc n;obtain⟨k,rfl⟩:=r;cases h;exact .int _ _
 | str b=>
  cases cQ n;obtain⟨k,rfl⟩:=r;simp only[jL]at h;split at h
  ·rename_i hs
   cases h
   have e:((b.length:Int) != 0)=(b.length != 0):=by
    rw[Bool.eq_iff_iff];simp only[bne_iff_ne,ne_eq];omega
   rw[← e];exact .str b k (bS hs)
  ·cases h
 | lst ds=>
  obtain⟨a,vs,rfl,h1,h2⟩:=cM n;cases r;cases h;obtain⟨its,rv,p,hz⟩:=I.list (jc (K:=X.K) h1)
  have e:(!ds.isEmpty) = !its.toArray.isEmpty:=by
   have k1:=h2.length;have k2:=rv.length;cases ds<;>cases vs<;>cases its<;>simp at k1 k2 ⊢
  rw[e];exact .lst p.isList (by rw[List.size_toArray,← rv.length];exact hz)
 | tup ds=>
  obtain⟨a,vs,rfl,_,h1,h2⟩:=fR n;cases r;cases h;obtain⟨its,rv,p,hz⟩:=I.tuple (uq (K:=X.K) h1)
  have e:(!ds.isEmpty) = !its.toArray.isEmpty:=by
   have k1:=h2.length;have k2:=rv.length;cases ds<;>cases vs<;>cases its<;>simp at k1 k2 ⊢
  rw[e];exact .tup p (by rw[List.size_toArray,← rv.length];exact hz)
 | dct ks ds=>cases h
 | ref k=>cases h
section
variable{prog:Program}{w:World}{A:Around}{R:Result->Shared->Prop}{J:Addr}{fp wr:List Addr}{n:Nat}{P:Nat->Value->Prop}{T:Nat->Heap->Prop}
theorem wo(W:Walks prog w A.in1 J fp wr n P T)(tr:Nat->Bool)(G:Heap->Prop)(gk:∀ h h':Heap,G h->(∀ b o,b∉wr->h.get? b=some o->h'.get? b=some o)->G h')
  (ht:∀ i v (h:Heap),P i v->G h->eI h v (tr i)):∀ (m i:Nat) (s:Shared),n - i=m->i<=n->T i s.heap->G s.heap ->
  (∀ h' tk,(∀ b o,b∉wr->s.heap.get? b=some o->h'.get? b=some o)->R (.ok (.ret (.bool (((List.range n).drop i).all tr)))) { s with heap:=h',toks:=tk }) ->
  codeAny (model prog w) A (.builtin "all.loop" ⟨[.ref J],[]⟩) R s:=by
 intro m
 induction m with
 | zero=>
  intro i s hm hi st g fin;obtain rfl:i=n:=by omega
  refine codeAny_builtin PySem.F.entry_all_loop ?_;rw[Around.under_plainId PySem.F.plain_all_loop _];refine wpAny_bind (m:=pyNext (.ref J)) (W.done s _ _ st fun h' tk kp=>wpAny_bind (wpAny_rule (wpAny_pure ?_)))
  have q:=fin h' tk kp;rw[List.drop_of_length_le (by simp)]at q
  exact q
 | succ m ih=>
  intro i s hm hi st g fin;have lt:i < n:=by omega
  have dr:(List.range n).drop i=i::(List.range n).drop (i + 1):=by
   rw[List.drop_eq_getElem_cons (by simpa using lt)];simp
  refine codeAny_builtin PySem.F.entry_all_loop ?_;rw[Around.under_plainId PySem.F.plain_all_loop _];refine wpAny_bind (m:=pyNext (.ref J)) (W.item i s _ _ lt st fun v h' tk pv st' kp => ?_)
  have g':G h':=gk _ _ g kp;refine wpAny_bind (wpAny_holding ((ht i v h' pv g').run (s:={ s with heap:=h',toks:=tk }) fun tk2 => ?_))
  refine wpAny_bind (wpAny_letGo ?_);cases e:tr i with
  | true=>
   simp only[if_true];refine wpAny_pure ⟨plainId_quiet PySem.F.plain_all_loop _,ih (i + 1) _ (by omega) lt st' g' fun h2 tk3 CQ => ?_⟩
   have q:=fin h2 tk3 fun b o nb z=>CQ b o nb (kp b o nb z)
   rw[dr,List.all_cons,e,Bool.true_and]at q;exact q
  | false=>
   simp only[Bool.false_eq_true,if_false];refine wpAny_bind (wpAny_rule (wpAny_pure ?_));have q:=fin h' tk2 kp;rw[dr,List.all_cons,e,Bool.false_and]at q;exact q
theorem wq(W:Walks prog w A.in1 J fp wr n P T)(tr:Nat->Bool)(G:Heap->Prop)(gk:∀ h h':Heap,G h->(∀ b o,b∉wr->h.get? b=some o->h'.get? b=some o)->G h')
  (ht:∀ i v (h:Heap),P i v->G h->eI h v (tr i)):∀ (m i:Nat) (s:Shared),n - i=m->i<=n->T i s.heap->G s.heap ->
  (∀ h' tk,(∀ b o,b∉wr->s.heap.get? b=some o->h'.get? b=some o)->R (.ok (.ret (.bool (((List.range n).drop i).any tr)))) { s with heap:=h',toks:=tk }) ->
  codeAny (model prog w) A (.builtin "any.loop" ⟨[.ref J],[]⟩) R s:=by
 intro m
 induction m with
 | zero=>
  intro i s hm hi st g fin;obtain rfl:i=n:=by omega
  refine codeAny_builtin PySem.F.entry_any_loop ?_;rw[Around.under_plainId PySem.F.plain_any_loop _];refine wpAny_bind (m:=pyNext (.ref J)) (W.done s _ _ st fun h' tk kp=>wpAny_bind (wpAny_rule (wpAny_pure ?_)))
  have q:=fin h' tk kp;rw[List.drop_of_length_le (by simp)]at q
  exact q
 | succ m ih=>
  intro i s hm hi st g fin;have lt:i < n:=by omega
  have dr:(List.range n).drop i=i::(List.range n).drop (i + 1):=by
   rw[List.drop_eq_getElem_cons (by simpa using lt)];simp
  refine codeAny_builtin PySem.F.entry_any_loop ?_;rw[Around.under_plainId PySem.F.plain_any_loop _];refine wpAny_bind (m:=pyNext (.ref J)) (W.item i s _ _ lt st fun v h' tk pv st' kp => ?_)
  have g':G h':=gk _ _ g kp;refine wpAny_bind (wpAny_holding ((ht i v h' pv g').run (s:={ s with heap:=h',toks:=tk }) fun tk2 => ?_))
  refine wpAny_bind (wpAny_letGo ?_);cases e:tr i with
  | false=>
   simp only[Bool.false_eq_true,if_false];refine wpAny_pure ⟨plainId_quiet PySem.F.plain_any_loop _,ih (i + 1) _ (by omega) lt st' g' fun h2 tk3 CQ => ?_⟩
   have q:=fin h2 tk3 fun b o nb z=>CQ b o nb (kp b o nb z)
   rw[dr,List.any_cons,e,Bool.false_or]at q;exact q
  | true=>
   simp only[if_true];refine wpAny_bind (wpAny_rule (wpAny_pure ?_));have q:=fin h' tk2 kp;rw[dr,List.any_cons,e,Bool.true_or]at q;exact q
end
theorem nG:∀ {ds:List D} {bs:List Bool},fx ds=some bs->bs.length=ds.length
 | [],_,h=>by cases h;rfl
 | d::ds,bs,h=>by
  simp only[fx]at h;split at h
  ·rename_i b bs' h1 h2
   cases h;rw[List.length_cons,List.length_cons,nG h2]
  ·cases h
theorem sM:∀ {ds:List D} {bs:List Bool} {i:Nat} {d:D},fx ds=some bs->ds[i]?=some d->∃ b,bs[i]?=some b/\jL d=some b
 | [],_,_,_,_,h=>by simp at h
 | d::ds,bs,i,d',h,hd=>by
  simp only[fx]at h;split at h
  ·rename_i b bs' h1 h2
   cases h;cases i with
   | zero=>simp at hd;subst hd;exact⟨b,rfl,h1⟩
   | succ i=>
    obtain⟨c,q1,q2⟩:=sM (i:=i) h2 (by simpa using hd)
    exact⟨c,by simpa using q1,q2⟩
  ·cases h
theorem all_range:∀ (bs:List Bool),((List.range bs.length).all fun i=>(bs[i]?).getD true)=bs.all id
 | []=>rfl
 | b::bs=>by
  rw[List.length_cons,List.range_succ_eq_map,List.all_cons,List.all_map,List.all_cons,← all_range bs];rfl
theorem any_range:∀ (bs:List Bool),((List.range bs.length).any fun i=>(bs[i]?).getD false)=bs.any id
 | []=>rfl
 | b::bs=>by
  rw[List.length_cons,List.range_succ_eq_map,List.any_cons,List.any_map,List.any_cons,← any_range bs];rfl
def Mr(K:PySem.W.Frag):List V->Hp->VK->Prop:=fun xs H Q=>∃ Z ds bs x,xs=[x]/\Now Z H (.lst ds) x/\fx ds=some bs/\Q (.bl (bs.all id)) H
def Ms(K:PySem.W.Frag):List V->Hp->VK->Prop:=fun xs H Q=>∃ Z ds bs x,xs=[x]/\Now Z H (.lst ds) x/\fx ds=some bs/\Q (.bl (bs.any id)) H
theorem wt{pins:List (Addr×Obj)}{σ:L2.St}{H:Hp}{s:Shared}{Z:Addr->Prop}{ds:List D}{vs:List V}{its:List Value}{bs:List Bool}(I:Inv X pins σ H s)(h2:aT Z H ds vs)(rv:Vals vs its)(hb:fx ds=some bs)(dflt:Bool) :
  ∀ (i:Nat) (v:Value),its.toArray[i]?=some v->eI s.heap v ((bs[i]?).getD dflt):=by
 intro i v hv;have hv:its[i]?=some v:=by simpa using hv
 obtain⟨hi,ev⟩:=List.getElem?_eq_some_iff.mp hv;obtain⟨x,hx,rx⟩:=nF rv hi;have k1:=h2.length;have k2:=rv.length;have ed:ds[i]?=some ds[i]:=by simp[show i < ds.length by omega]
 obtain⟨y,hy,ry⟩:=h2.get ed;rw[hx]at hy;cases hy
 obtain⟨b,q1,q2⟩:=sM hb ed;rw[q1];rw[ev]at rx;exact wm I ry.now rx q2
theorem wu(hc:X.calm=true):eF X (.builtin "all") (Mr X.K):=by
 intro pins s σ H xs us Q I r h;obtain⟨Z,ds,bs,x,rfl,nw,hb,q⟩:=h;obtain⟨u,rfl,rx⟩:=vals1 r;obtain⟨l,vs,rfl,h1,h2⟩:=cM nw;cases rx;obtain⟨its,rv,p,hz⟩:=I.list (jc (K:=X.K) h1);have hlt:l < s.heap.objs.size:=by obtain⟨_,e,_⟩:=p.isList;exact Heap.lt_size e
 have tr:=wt I h2 rv hb true;refine call_function_tree PySem.F.kind_all PySem.F.plain_all PySem.F.entry_all (PySem.F.args_all1 _) ?_;unfold Builtin.«all»;refine wpAny_bind (m:=oneArg "all" _) (wpAny_pure (wpAny_bind (wpAny_pyIter_list p.isList ?_)))
 refine wpAny_pure ⟨plainId_quiet PySem.F.plain_all_loop _,wo (Walks.list (A:=X.A.in1) (I.ok.hd hc) s.heap.objs.size l (Nat.ne_of_lt hlt) its.toArray) (fun i=>(bs[i]?).getD true)
  (fun h=>∀ b o,b≠s.heap.objs.size->s.heap.get? b=some o->h.get? b=some o) (fun h h' g kp b o nb e=>kp b o (by simpa using nb) (g b o nb e))
  (fun i v h pv g=>(tr i v pv).keep fun b o e z=>g b o (Nat.ne_of_lt (Heap.lt_size z)) z) _ 0 _ rfl (Nat.zero_le _) ⟨⟨_,Heap.get?_push_size _ rfl,rfl,rfl⟩,p.isList.push _⟩ (fun b o nb e=>Heap.get?_push_of_some _ e) fun h' tk kp => ?_⟩
 have e:((List.range its.toArray.size).drop 0).all (fun i=>(bs[i]?).getD true)=bs.all id:=by
  rw[List.drop_zero,List.size_toArray,← rv.length,h2.length,← nG hb];exact all_range bs
 rw[e]
 exact⟨.bl _,H,I.kept (h':=h') (t':=tk) fun b o z=>kp b o (by
  have:=Nat.ne_of_lt (Heap.lt_size z);simpa using this) (Heap.get?_push_of_some _ z),rfl,q⟩
theorem wx(hc:X.calm=true):eF X (.builtin "any") (Ms X.K):=by
 intro pins s σ H xs us Q I r h;obtain⟨Z,ds,bs,x,rfl,nw,hb,q⟩:=h;obtain⟨u,rfl,rx⟩:=vals1 r;obtain⟨l,vs,rfl,h1,h2⟩:=cM nw;cases rx;obtain⟨its,rv,p,hz⟩:=I.list (jc (K:=X.K) h1);have hlt:l < s.heap.objs.size:=by obtain⟨_,e,_⟩:=p.isList;exact Heap.lt_size e
 have tr:=wt I h2 rv hb false;refine call_function_tree PySem.F.kind_any PySem.F.plain_any PySem.F.entry_any (PySem.F.args_any1 _) ?_;unfold Builtin.«any»;refine wpAny_bind (m:=oneArg "any" _) (wpAny_pure (wpAny_bind (wpAny_pyIter_list p.isList ?_)))
 refine wpAny_pure ⟨plainId_quiet PySem.F.plain_any_loop _,wq (Walks.list (A:=X.A.in1) (I.ok.hd hc) s.heap.objs.size l (Nat.ne_of_lt hlt) its.toArray) (fun i=>(bs[i]?).getD false)
  (fun h=>∀ b o,b≠s.heap.objs.size->s.heap.get? b=some o->h.get? b=some o) (fun h h' g kp b o nb e=>kp b o (by simpa using nb) (g b o nb e))
  (fun i v h pv g=>(tr i v pv).keep fun b o e z=>g b o (Nat.ne_of_lt (Heap.lt_size z)) z) _ 0 _ rfl (Nat.zero_le _) ⟨⟨_,Heap.get?_push_size _ rfl,rfl,rfl⟩,p.isList.push _⟩ (fun b o nb e=>Heap.get?_push_of_some _ e) fun h' tk kp => ?_⟩
 have e:((List.range its.toArray.size).drop 0).any (fun i=>(bs[i]?).getD false)=bs.any id:=by
  rw[List.drop_zero,List.size_toArray,← rv.length,h2.length,← nG hb];exact any_range bs
 rw[e]
 exact⟨.bl _,H,I.kept (h':=h') (t':=tk) fun b o z=>kp b o (by
  have:=Nat.ne_of_lt (Heap.lt_size z);simpa using this) (Heap.get?_push_of_some _ z),rfl,q⟩
end
section
variable{X:Cx}{Γ:lV}{bw:Bool}{a b e:Expr}{es:List Expr}{ca cb cc c cs:Ex}{pos p:Pos}
noncomputable def iD.nm:iD->Str
 | .len=>"len" | .all=>"all" | .any=>"any" | .sorted=>"sorted" | .list=>"list" | .tuple=>"tuple" | .int=>"int" | .min=>"min" | .max=>"max" | .bool=>"bool"
theorem fS{Z:Addr->Prop}{H:Hp}{d:D}{v:V}{Q:VK}(dom:∀ a,Z a->H a≠none)(k:∀ v H' Z',el Z H Z' H'->dU bw false Z' H H' d v->Q v H')(h:fy d=some v):Q v H:=
 k _ H Z (el.refl dom) (.rep (eH h))
noncomputable def Ty.nm:Ty->Str
 | .int=>"int" | .str=>"str" | .bool=>"bool" | .list=>"list" | .tuple=>"tuple" | .dict=>"dict"
noncomputable def Ty.id:Ty->String
 | .int=>"int" | .str=>"str" | .bool=>"bool" | .list=>"list" | .tuple=>"tuple" | .dict=>"dict"
theorem zl(t:Ty):bootBuiltins t.nm=some (.type t.id):=by cases t<;>decide +kernel
theorem sN(K:PySem.W.Frag)(t:Ty):PySem.W.kitOne K (.type "NoneType") (.type t.id)=some false/\PySem.W.kitOne K (.type "bool") (.type t.id)=some (t == .bool || t == .int)/\PySem.W.kitOne K (.type "int") (.type t.id)=some (t == .int) /\
  PySem.W.kitOne K (.type "str") (.type t.id)=some (t == .str)/\PySem.W.kitOne K (.type "list") (.type t.id)=some (t == .list)/\PySem.W.kitOne K (.type "tuple") (.type t.id)=some (t == .tuple)/\PySem.W.kitOne K (.type "dict") (.type t.id)=some (t == .dict):=by
 cases t<;>refine⟨?_,?_,?_,?_,?_,?_,?_⟩<;>with_unfolding_all rfl
def Gp(K:PySem.W.Frag):List V->Hp->VK->Prop:=fun xs H Q=>∃ Z d x t b,xs=[x,.ty (Ty.id t)]/\Now Z H d x/\v_ d t=some b/\Q (.bl b) H
theorem jy{K:PySem.W.Frag}{H:Hp}{a:Addr}{vs:List V}{X:Cx}{pins:List (Addr×Obj)}{σ:L2.St}{s:Shared}(I:Inv X pins σ H s)(h:Rd H a (.tup vs)):∃ o,s.heap.get? a=some o/\o.cls=.type "tuple":=by
 obtain⟨_,its,_,o,h1,h2,_⟩:vs.length<=sizeLine/\∃ its:List Value,Vals vs its/\IsTup s.heap a its.toArray:=Rd.ok h I.hok;exact⟨o,h1,h2⟩
theorem wy:eF X (.builtin "isinstance") (Gp X.K):=by
 intro pins s σ H xs us Q I r h;obtain⟨Z,d,x,t,b,rfl,nw,ht,q⟩:=h;obtain⟨u,w',rfl,rx,rt⟩:=vals2 r;cases (show w'=Value.type (Ty.id t) from rt)
 obtain⟨t1,t2,t3,t4,t5,t6,t7⟩:=sN X.K t;have fin:∀ tk,EP X pins σ Q (.bool b) { s with toks:=tk }:=fun tk=>⟨.bl b,H,I.tok tk,rfl,q⟩
 cases d with
 | non=>cases fQ nw;cases ht;exact cJ I rx .non t1 fin
 | bl c=>cases gv nw;cases ht;exact cJ I rx (.bl c) t2 fin
 | int c=>cases bc nw;cases ht;exact cJ I rx (.int c) t3 fin
 | str c=>cases cQ nw;cases ht;exact cJ I rx (.str c) t4 fin
 | lst ds=>
  obtain⟨a,vs,rfl,h1,h2⟩:=cM nw;cases ht;rcases h1 with h1 | ⟨o,h1⟩
  ·exact cJ I rx (.lst h1) t5 fin
  ·exact cJ I rx (.jG h1) t5 fin
 | tup ds=>
  obtain⟨a,vs,rfl,_,h1,h2⟩:=fR nw;cases ht;cases rx;exact PySem.W.kia_one PySem.W.kitx_tuple I.gi (jy (K:=X.K) I h1) t6 (fun z=>nomatch z) fin
 | dct ks ds=>
  have nw:Rep Z H (.dct ks ds) x:=nw;simp only[Rep]at nw;obtain⟨a,vs,rfl,_,h1,h2⟩:=nw;cases ht;exact cJ I rx (.dK h1) t7 fin
 | ref k=>cases ht
end
abbrev sO(ifs:List Expr)(env:Env):Sem Bool:=forIn ifs true fun c r=>if r=true then do let ok ← isTrue c env (eval c env);pure (ForInStep.yield ok) else pure (ForInStep.yield r)
section
variable{prog:Program}{w:World}{A:Around}{R:Result->Shared->Prop}{s:Shared}
theorem uu{elt tg iter:Expr}{ifs:List Expr}{scope:Scope}{pos:Pos}{it acc:Value}{env:Env}(J:Nat->Shared->Prop)
  (turn:∀ n s,J n s->wpAny (model prog w) A (pyNext it) (fun r s1=>match r with
   | none=>R (.ok .next) s1
   | some v=>wpAny (model prog w) A (letOwnedTupleGo tg it v) (fun _ s2=>wpAny (model prog w) A (assign tg env v) (fun _ s3=>wpAny (model prog w) A (sO ifs env) (fun ok s4=>
      if ok=true then wpAny (model prog w) A (eval elt env) (fun x s5=>wpAny (model prog w) A (call (.builtin "list.append") [acc,x]) (fun _ s6=>∃ m,m < n/\J m s6) (fun _ _=>False) s5) (fun _ _=>False) s4
      else ∃ m,m < n/\J m s4) (fun _ _=>False) s3) (fun _ _=>False) s2) (fun _ _=>False) s1) (fun _ _=>False) s)
  (n:Nat) (h:J n s):codeAny (model prog w) A (.compLoop (.ListComp elt [⟨tg,iter,ifs,0⟩] scope pos) 0 it acc env) R s:=by
 refine codeAny_loop rfl J (fun n s hJ => ?_) n h
 refine wpAny_noted (env:=env) (m:=compTurn (.ListComp elt [⟨tg,iter,ifs,0⟩] scope pos) 0 it acc env) ?_;rw[compTurn_list];refine wpAny_bind (wpAny_standAt (wpAny_bind (wpAny_mono (turn n s hJ) (fun r s1 h1 => ?_) fun _ _ z=>z.elim)))
 cases r with
 | none=>exact wpAny_pure h1
 | some v=>
  refine wpAny_bind (wpAny_mono h1 (fun _ s2 h2=>wpAny_bind (wpAny_mono h2 (fun _ s3 h3=>wpAny_bind (wpAny_mono h3 (fun ok s4 h4 => ?_) fun _ _ z=>z.elim)) fun _ _ z=>z.elim)) fun _ _ z=>z.elim)
  cases ok with
  | false=>exact wpAny_pure ⟨rfl,by simpa using h4⟩
  | true=>
   rw[if_pos rfl]at h4;refine wpAny_bind (wpAny_bind (wpAny_mono h4 (fun x s5 h5=>wpAny_bind (wpAny_mono h5 (fun _ s6 h6 => ?_) fun _ _ z=>z.elim)) fun _ _ z=>z.elim))
   exact wpAny_pure (wpAny_pure ⟨rfl,h6⟩)
end
theorem qV{scope:Scope}{env:Env}(h:∀ y∈scope.names,y.2=.free->∃ c,env.cells.lookup y.1=some c) :
  ∃ cl,closureFor scope env=pure cl/\(∀ n c,(n,c)∈cl->env.cells.lookup n=some c)/\∀ y∈scope.names,y.2=.free->∃ c,(y.1,c)∈cl:=by
 have gen:∀ (l:List (Str×NameKind)) (acc:List (Str×Addr)),(∀ y∈l,y.2=.free->∃ c,env.cells.lookup y.1=some c)->(∀ n c,(n,c)∈acc->env.cells.lookup n=some c) ->
   ∃ cl,(forIn l acc fun x r=>match x with | (name,kind)=>if (kind == NameKind.free)=true then do let a ← cellOf env name;pure (ForInStep.yield ((name,a)::r)) else pure (ForInStep.yield r):Sem (List (Str×Addr)))=pure cl /\
    (∀ n c,(n,c)∈cl->env.cells.lookup n=some c)/\(∀ p∈acc,p∈cl)/\∀ y∈l,y.2=.free->∃ c,(y.1,c)∈cl:=by
  intro l
  induction l with
  | nil=>intro acc _ ha;exact⟨acc,rfl,ha,fun _ hp=>hp,fun _ hy=>absurd hy (by simp)⟩
  | cons y l ih=>
   intro acc hl ha;obtain⟨n,k⟩:=y;cases hk:(k == NameKind.free) with
   | false=>
    obtain⟨cl,e,h1,h2,h3⟩:=ih acc (fun z hz=>hl z (by simp[hz])) ha
    refine⟨cl,?_,h1,h2,fun z hz JX => ?_⟩
    ·rw[List.forIn_cons]
     simp only[hk,Bool.false_eq_true,if_false];exact e
    ·rcases List.mem_cons.mp hz with rfl | hz
     ·have:k=.free:=JX
      rw[this]at hk;exact absurd hk (by decide)
     ·exact h3 z hz JX
   | true=>
    have hk':k=.free:=by simpa using hk
    obtain⟨c,hc⟩:=hl (n,k) (by simp) hk'
    obtain⟨cl,e,h1,h2,h3⟩:=ih ((n,c)::acc) (fun z hz=>hl z (by simp[hz])) (fun n' c' hm=>by
     rcases List.mem_cons.mp hm with q | q
     ·cases q;exact hc
     ·exact ha n' c' q)
    refine⟨cl,?_,h1,fun p hp=>h2 p (by simp[hp]),fun z hz JX => ?_⟩
    ·rw[List.forIn_cons]
     simp only[hk,if_true]
     have:cellOf env n=pure c:=by
      have hc:env.cells.lookup n=some c:=hc;unfold cellOf;rw[hc]
     rw[this];exact e
    ·rcases List.mem_cons.mp hz with rfl | hz
     ·exact⟨c,h2 _ (by simp)⟩
     ·exact h3 z hz JX
 obtain⟨cl,e,h1,_,h3⟩:=gen scope.names [] h (fun _ _ z=>absurd z (by simp))
 refine⟨cl,?_,h1,h3⟩;unfold closureFor;have e':=congrArg (fun m:Sem (List (Str×Addr))=>m >>= fun r=>pure r) e
 exact e'
noncomputable def blk(X:Cx)(scope:Scope)(cl:List (Str×Addr))(C:Addr)(N:List Str)(s₀:Shared)(H₀:Hp)(fp:List Addr):Cx:=
 { X with N:=N,s₀:=s₀,H₀:=H₀,env:=compEnvC scope cl C X.env,outer:=X.stack,stack:=X.stack,ex:=fp,fn:=fun _=>false,pn:=[],xe:=fun _ _=>False }
theorem lookup_mem{α β:Type}[BEq α][LawfulBEq α]:∀ {l:List (α×β)} {x:α} {v:β},l.lookup x=some v->(x,v)∈l
 | [],_,_,h=>by simp at h
 | (n,k)::r,x,v,h=>by
  rw[List.lookup_cons]at h;cases e:x == n with
  | true=>rw[e]at h;cases h;rw[eq_of_beq e];simp
  | false=>rw[e]at h;exact List.mem_cons_of_mem _ (lookup_mem h)
theorem mem_lookup{α β:Type}[BEq α][LawfulBEq α]:∀ {l:List (α×β)} {x:α} {v:β},(x,v)∈l->∃ u,l.lookup x=some u
 | [],_,_,h=>by simp at h
 | (n,k)::r,x,v,h=>by
  rw[List.lookup_cons];cases e:x == n with
  | true=>exact⟨k,rfl⟩
  | false=>
   rcases List.mem_cons.mp h with q | q
   ·cases q;simp at e
   ·exact mem_lookup q
theorem eJ{env:Env}:∀ (names:List (Str×NameKind)) (x:Str),(names.map fun (n,k)=>if (k == NameKind.free && env.scope.kind == .function && env.kindOf n == some .cell) then (n,NameKind.cell) else (n,k)).lookup x =
  (names.lookup x).map fun k=>if (k == NameKind.free && env.scope.kind == .function && env.kindOf x == some .cell) then NameKind.cell else k
 | [],_=>rfl
 | (n,k)::r,x=>by
  have ih:=eJ (env:=env) r x
  show List.lookup x ((if (k == NameKind.free && env.scope.kind == .function && env.kindOf n == some .cell)=true then (n,NameKind.cell) else (n,k))::_)=_
  cases hx:x == n with
  | true=>
   obtain rfl:x=n:=eq_of_beq hx
   by_cases hc:(k == NameKind.free && env.scope.kind == .function && env.kindOf x == some .cell)=true
   ·rw[if_pos hc,List.lookup_cons,List.lookup_cons]
    simp only[hx,Option.map_some,if_pos hc]
   ·rw[if_neg hc,List.lookup_cons,List.lookup_cons]
    simp only[hx,Option.map_some,if_neg hc]
  | false=>
   by_cases hc:(k == NameKind.free && env.scope.kind == .function && env.kindOf n == some .cell)=true
   ·rw[if_pos hc,List.lookup_cons,List.lookup_cons]
    simp only[hx];exact ih
   ·rw[if_neg hc,List.lookup_cons,List.lookup_cons]
    simp only[hx];exact ih
structure jz(X:Cx)(scope:Scope)(tn cn:List Str)(cap:List Nat):Prop where
 kind:scope.kind=.function
 cell:∀ y∈scope.names,y.2≠.cell
 names:∀ y∈scope.names,y.2=.local->scope.names.lookup y.1=some .local
 free:∀ y∈scope.names,y.2=.free->X.env.kindOf y.1=some .cell\/X.env.kindOf y.1=some .free
 len:cn.length=cap.length
 at':∀ (j i:Nat) (x:Str),cn[j]?=some x->cap[j]?=some i->X.N[i]?=some x/\scope.names.lookup x=some .free
noncomputable def pe(cap:List Nat)(σ:L2.St):L2.St:=cap.map fun i=>(σ[i]?).join
def fY(nt:Nat)(cap:List Nat)(σ:L2.St):L2.St:=List.replicate nt none++pe cap σ
section
variable{X:Cx}{scope:Scope}{tn cn:List Str}{cap:List Nat}
theorem uv{pins:List (Addr×Obj)}{σ:L2.St}{H:Hp}{s:Shared}{fp:List Addr}{cl:List (Str×Addr)}{h1:Heap}{tk:Nat}{m:Str->Option Value}(B:jz X scope tn cn cap)
  (I:Inv X pins σ H s) (hf:∀ b∈fp,lO X pins H b) (hfo:∀ b∈fp,∃ o,s.heap.get? b=some o) (c1:∀ n c,(n,c)∈cl->X.env.cells.lookup n=some c) (c2:∀ y∈scope.names,y.2=.free->∃ c,(y.1,c)∈cl)
  (kp:∀ b o,s.heap.get? b=some o->h1.get? b=some o) (hd:∃ n,h1.get? s.heap.objs.size=some { cls:=.type "list",data:=.seq ([]:List Value).toArray n }) (ns:h1.Ns (s.heap.objs.size + 1) m) :
  Inv (blk X scope cl (s.heap.objs.size + 1) (tn++cn) s H fp) [] (fY tn.length cap σ) (upd H s.heap.objs.size (.lst [])) { s with heap:=h1,toks:=tk }:=by
 have Ss:∀ b o,s.heap.get? b=some o->b≠s.heap.objs.size + 1:=fun b o e=>Nat.ne_of_lt (Nat.lt_succ_of_lt (Heap.lt_size e))
 have Su:∀ b o,s.heap.get? b=some o->b≠s.heap.objs.size:=fun b o e=>Nat.ne_of_lt (Heap.lt_size e)
 have cell:∀ x c,cl.lookup x=some c->∃ v,s.heap.IsCell c v:=fun x c e=>I.cell x c (c1 x c (lookup_mem e))
 have yx:∀ x c,cl.lookup x=some c->c≠s.heap.objs.size + 1/\c≠s.heap.objs.size:=fun x c e=>by
  obtain⟨v,o,ho,_⟩:=cell x c e;exact⟨Ss c o ho,Su c o ho⟩
 have Sv:∀ b∈fp,b < s.heap.objs.size:=fun b hb=>let ⟨o,e⟩:=hfo b hb;Heap.lt_size e
 have fr:=I.hok.fresh (Nat.le_refl s.heap.objs.size);obtain⟨nd,hd⟩:=hd
 refine⟨⟨I.ok.mod,B.kind,I.ok.glob,I.ok.blt,Nat.le_succ _,fun x y c e1 e2 => ?_,fun x hx => ?_,fun x c e _=>absurd (show false=true from e) Bool.false_ne_true,I.ok.hd,I.ok.frames,.inl rfl,fun b hb=>⟨?_,fun x c e z => ?_⟩,fun b o e=>I.bs b o e,Nat.le_trans I.ok.t9 I.sz,fun b o e hb => ?_,fun b hb hbs => ?_,I.stack,I.jR⟩,
  rfl,I.bare,?_,⟨m,ns,fun i x v e1 e2 e3 => ?_⟩,fun x c e => ?_,?_,fun x c e => ?_,fun p hp=>absurd (show p∈([]:List (Addr×Obj)) from hp) (by simp),?_,?_⟩
 ·exact I.ok.inj x y c (c1 x c (lookup_mem e1)) (c1 y c (lookup_mem e2))
 ·have hx:(relabel scope X.env).names.lookup x=some .cell\/(relabel scope X.env).names.lookup x=some .free:=hx
  unfold relabel at hx;simp only[eJ]at hx;cases q:scope.names.lookup x with
  | none=>rw[q]at hx;simp at hx
  | some k=>
   rw[q]at hx;have hm:=lookup_mem q
   have hk:k=.free:=by
    by_cases hk:k=.free
    ·exact hk
    ·have hkf:(k == NameKind.free)=false:=by simpa using hk
     rw[Option.map_some]at hx;simp only[hkf,Bool.false_and,Bool.false_eq_true,if_false,Option.some.injEq]at hx;rcases hx with z | z
     ·exact absurd z (B.cell _ hm)
     ·exact z
   obtain⟨c,hc⟩:=c2 _ hm hk;exact mem_lookup hc
 ·exact Nat.ne_of_lt (Nat.lt_succ_of_lt (Sv b hb))
 ·exact(hf b hb).2.2.2.2.1 x c (c1 x c (lookup_mem e)) z
 ·rcases(hf b hb).2.2.2.1 with z | z
  ·exact I.ok.oO b o e z
  ·exact absurd (Nat.lt_of_lt_of_le (Heap.lt_size (I.ok.bs b o e).1) z) (Nat.lt_irrefl _)
 ·rcases List.mem_cons.mp (I.m5 b hbs) with z | z
  ·exact(hf b hb).2.1 z
  ·exact(hf b hb).2.2.1 z
 ·exact Un.laid kp (Nat.le_refl _) fr
 ·have Mt:i < tn.length->False:=fun hi=>by
   have:(fY tn.length cap σ)[i]?=some none:=by
    unfold fY;rw[List.getElem?_append_left (by simpa using hi),List.getElem?_replicate,if_pos hi]
   rw[this]at e2;cases e2
  have hi:tn.length<=i:=Nat.le_of_not_lt Mt;have e1:(tn++cn)[i]?=some x:=e1;rw[List.getElem?_append_right hi]at e1
  have e2':(pe cap σ)[i - tn.length]?=some (some v):=by
   unfold fY at e2;rw[List.getElem?_append_right (by simpa using hi)]at e2
   simpa using e2
  unfold pe at e2';rw[List.getElem?_map]at e2';cases q:cap[i - tn.length]? with
  | none=>rw[q]at e2';cases e2'
  | some i'=>
   rw[q]at e2';have e2:(σ[i']?).join=some v:=by simpa using e2'
   have e4:σ[i']?=some (some v):=by
    cases q2:σ[i']? with
    | none=>rw[q2]at e2;cases e2
    | some z=>rw[q2]at e2;cases z with
     | none=>cases e2
     | some z=>cases e2;rfl
   obtain⟨hN,hfr⟩:=B.at' _ _ _ e1 q;have hk:=B.free _ (lookup_mem hfr) rfl;have hk:X.env.kindOf x=some .cell\/X.env.kindOf x=some .free:=hk
   have Mu:yw X.env.scope x:=by
    rcases hk with z | z
    ·exact .inr (.inl z)
    ·exact .inr (.inr z)
   obtain⟨m0,hn0,hl0⟩:=I.loc;obtain⟨u,ru,lk⟩:=hl0 i' x v hN e4 Mu;refine⟨u,ru,.inr ⟨?_,?_⟩⟩
   ·show(relabel scope X.env).names.lookup x=some .cell\/(relabel scope X.env).names.lookup x=some .free
    unfold relabel;simp only[eJ,hfr,Option.map_some];split
    ·exact .inl rfl
    ·exact .inr rfl
   ·have lk:∃ c,X.env.cells.lookup x=some c/\s.heap.IsCell c (some u):=by
     rcases lk with ⟨z,_⟩ | ⟨_,z⟩
     ·rcases hk with y | y<;>rw[y]at z<;>cases z
     ·exact z
    obtain⟨c,hc,hcc⟩:=lk;obtain⟨c',hc'⟩:=c2 _ (lookup_mem hfr) rfl;obtain⟨c'',hc''⟩:=mem_lookup hc';have:=c1 _ _ (lookup_mem hc'');rw[hc]at this;cases this
    obtain⟨o,ho,hd⟩:=hcc;exact⟨c,hc'',o,kp _ _ ho,hd⟩
 ·obtain⟨v,o,ho,hd⟩:=cell x c e
  exact⟨v,o,kp _ _ ho,hd⟩
 ·show upd H s.heap.objs.size (.lst []) (s.heap.objs.size + 1)=none
  rw[aI (Nat.succ_ne_self _)];exact I.hok.fresh (Nat.le_succ _)
 ·refine⟨?_,fun hz=>absurd (show false=true from hz) Bool.false_ne_true⟩
  rw[aI (yx x c e).2];exact(I.dn x c (c1 x c (lookup_mem e))).1
 ·refine I.hok.laid kp (Nat.le_refl _) ⟨Nat.zero_le _,[],nd,.nil,hd⟩
 ·show(fY tn.length cap σ).length=(tn++cn).length
  unfold fY pe;rw[List.length_append,List.length_append,List.length_replicate,List.length_map,B.len]
def zm(X:Cx)(ifs:List Expr)(t:TT):Prop:=∀ (pins:List (Addr×Obj)) (s:Shared) (σ:L2.St) (H:Hp) (Q:Bool->Hp->Prop),Inv X pins σ H s->t σ H Q->wpAny (model X.prog X.w) X.A (sO ifs X.env) (TP X pins σ Q) X.xe s
theorem zo:zm X [] (fun _ H Q=>Q true H):=fun pins s σ H Q I h=>wpAny_pure ⟨H,I,h⟩
theorem zp{c:Expr}{t:TT}(h:PT X c t):zm X [c] t:=fun pins s σ H Q I q=>wpAny_tests_one (h pins s σ H Q I q)
def mz(wi:TI)(nt:Nat)(cap:List Nat)(g:TG)(tc:TT)(te:TE):TE:=fun σ H Q=>wi σ H fun J H1=>∀ D,H1 D=none->∃ W:Nat->Nat->List V->Hp->Prop,(∃ m,W 0 m [] (upd H1 D (.lst []))) /\
 ∀ i m ys H2,W i m ys H2->H2 D=some (.lst ys)/\((J.stop i H2/\Q (.ref D) H2)\/(J.go i H2/\ys.length < sizeLine/\∀ x H3,J.JM i H2 x H3->g x (fY nt cap σ) H3 fun σ' H4=>tc σ' H4 fun b H5=>
  if b=true then te σ' H5 fun y H6=>H6 D=some (.lst ys)/\∃ m',m' < m/\W (i + 1) m' (ys++[y]) (upd H6 D (.lst (ys++[y]))) else ∃ m',m' < m/\W (i + 1) m' ys H5))
theorem mB{tg iter elt:Expr}{ifs:List Expr}{pos Mv:Pos}{wi:TI}{g:TG}{tc:TT}{te:TE}{use:Option (Value->Sem Unit)}{Q':Value->Shared->Prop}{Q:VK}{pins:List (Addr×Obj)}{σ:L2.St}{H:Hp}{s:Shared}
  (hc:X.calm=true) (B:jz X scope tn cn cap) (hi:PI X tg iter wi) (hs:∀ x,foldedSetIterable iter X.env x=pure x)
  (CS:∀ v σ H Q,g v σ H Q->g v σ H fun σ' H'=>Q σ' H'/\σ'.length=σ.length/\∀ j,tn.length<=j->σ'[j]?=σ[j]?)
  (hb:∀ cl C s₀ H₀ fp,PG (blk X scope cl C (tn++cn) s₀ H₀ fp) tg g/\zm (blk X scope cl C (tn++cn) s₀ H₀ fp) ifs tc/\PE (blk X scope cl C (tn++cn) s₀ H₀ fp) elt te)
  (fin:∀ (s':Shared) (H':Hp) (C D:Addr) (m:Str->Option Value),Inv X pins σ H' s'->s'.heap.Ns C m->H' C=none->C≠X.env.locals->X.s₀.heap.objs.size<=C->(∀ x c,X.env.cells.lookup x=some c->c≠C)->(∀ p∈X.pn++pins,p.1≠C)->Q (.ref D) H' ->
   compPost (model X.prog X.w) X.A X.xe use Q' (.ref D) C (.ok .next) s')
  (I:Inv X pins σ H s) (h:mz wi tn.length cap g tc te σ H Q) :
  wpAny (model X.prog X.w) X.A (comprehension (.ListComp elt [⟨tg,iter,ifs,0⟩] scope pos) scope X.env Mv (newList []) false (eval iter X.env) use) Q' X.xe s:=by
 have hfr:∀ y∈scope.names,y.2=.free->∃ c,X.env.cells.lookup y.1=some c:=fun y hy hk=>I.ok.has y.1 (B.free y hy hk)
 obtain⟨cl,hcl,c1,c2⟩:=qV hfr;refine wpAny_comprehension_free (use:=use) rfl hs hcl B.kind B.names ?_;refine cz (hi pins s σ H _ I h) fun v s1 h1=>cz h1 fun itv s2 h2 => ?_
 obtain⟨it,fp,Mw,J,H2,e,I2,T,st2,f2,h⟩:=h2;subst e;have fr:=I2.hok.fresh (Nat.le_refl s2.heap.objs.size);obtain⟨W,⟨m0,w0⟩,turn⟩:=h s2.heap.objs.size fr;refine wpAny_newObj_type (wpAny_newFunctionEnv B.cell (fun y hy=>absurd hy (by simp)) (fun h1 ns sb => ?_) B.kind)
 have hsz:(s2.heap.push { cls:=.type "list",dict:=none,data:=.seq ([]:List Value).toArray }).objs.size=s2.heap.objs.size + 1:=Heap.size_push _ _;dsimp only at ns sb ⊢;rw[hsz]at ns sb ⊢;have kp:∀ b o,s2.heap.get? b=some o->h1.get? b=some o:=fun b o e=>sb.extBut b o (Nat.ne_of_lt (Nat.lt_succ_of_lt (Heap.lt_size e))) (Heap.get?_push_of_some _ (Heap.get?_push_of_some _ e))
 have hD:∃ n,h1.get? s2.heap.objs.size=some { cls:=.type "list",data:=.seq ([]:List Value).toArray n }:=⟨0,sb.extBut _ _ (Nat.ne_of_lt (Nat.lt_succ_self _)) (Heap.get?_push_of_some _ (Heap.get?_push_size _ rfl))⟩;have hfo:∀ b∈fp,∃ o,s2.heap.get? b=some o:=fun b hb=>let ⟨o,e,_⟩:=T.obj 0 _ st2 b hb;⟨o,e⟩
 have I4:Inv (blk X scope cl (s2.heap.objs.size + 1) (tn++cn) s2 H2 fp) [] (fY tn.length cap σ) (upd H2 s2.heap.objs.size (.lst [])) { s2 with heap:=h1,toks:=s2.toks + ([]:List (Str×Value)).length }:=
  uv B I2 f2 hfo c1 c2 kp hD ns
 obtain⟨hg,ht,he⟩:=hb cl (s2.heap.objs.size + 1) s2 H2 fp;have Qh:Mw 0 h1:=T.keep 0 _ _ st2 fun b hb o e=>kp b o e
 have Sw:∀ b∈fp,upd H2 s2.heap.objs.size (.lst []) b=none:=fun b hb=>by
  obtain⟨o,e⟩:=hfo b hb;rw[aI (Nat.ne_of_lt (Heap.lt_size e))];exact(f2 b hb).1
 have stat:∀ {H':Hp} {pl:List (Addr×Obj)},(∀ b∈fp,H' b=none)->∀ b∈fp,lO (blk X scope cl (s2.heap.objs.size + 1) (tn++cn) s2 H2 fp) [] H' b:=fun hn b hb=>
  ⟨hn b hb,(I4.ok.Cc b hb).1,I4.ok.oP b hb,.inl hb,(I4.ok.Cc b hb).2,fun p hp=>absurd (show p∈([]:List (Addr×Obj)) from hp) (by simp)⟩
 have loop:codeAny (model X.prog X.w) X.A (.compLoop (.ListComp elt [⟨tg,iter,ifs,0⟩] scope pos) 0 (.ref it) (.ref s2.heap.objs.size) (compEnvC scope cl (s2.heap.objs.size + 1) X.env))
   (compPost (model X.prog X.w) X.A X.xe use Q' (.ref s2.heap.objs.size) (s2.heap.objs.size + 1)) { s2 with heap:=h1,toks:=s2.toks + ([]:List (Str×Value)).length }:=by
  refine uu (fun n s'=>∃ i ys H',Inv (blk X scope cl (s2.heap.objs.size + 1) (tn++cn) s2 H2 fp) [] (fY tn.length cap σ) H' s'/\Mw i s'.heap/\(∀ b∈fp,H' b=none)/\W i n ys H') ?_ m0 ⟨0,[],_,I4,Qh,Sw,w0⟩
  rintro n s5 ⟨i,ys,H5,I5,E9,Qi,w5⟩;obtain⟨Gq,alt⟩:=turn i n ys H5 w5;rcases alt with ⟨stop,qn⟩ | ⟨go,hlen,step⟩
  ·refine cz (T.done (blk X scope cl (s2.heap.objs.size + 1) (tn++cn) s2 H2 fp) rfl rfl rfl hc i [] s5 _ H5 _ I5 (stat (pl:=[]) Qi) E9 stop) fun r s6 ⟨hr,I6⟩ => ?_
   subst hr;obtain⟨mC,nC,_⟩:=I6.loc
   have I7:Inv X pins σ H5 s6:=by
    refine I2.call' I6.os I6.base I6.hok I6.bare fun b hb => ?_
    obtain⟨f0,f1,f3,f4,f5,f6⟩:=f2 b hb;exact⟨f4,f1,f5,f6⟩
   have hC:s2.heap.objs.size<=s2.heap.objs.size + 1:=Nat.le_succ _;refine fin s6 H5 (s2.heap.objs.size + 1) s2.heap.objs.size mC I7 nC I6.free (Nat.ne_of_gt (Nat.lt_of_lt_of_le I2.lt hC)) (Nat.le_trans I2.sz hC) (fun x c e z => ?_) (fun p hp z => ?_) qn
   ·obtain⟨v,q⟩:=I2.cell x c e
    exact absurd (Nat.lt_of_lt_of_le q.lt (by rw[z];exact hC)) (Nat.lt_irrefl _)
   ·exact absurd (Nat.lt_of_lt_of_le (Heap.lt_size (I2.pin p hp).1) (by rw[z];exact hC)) (Nat.lt_irrefl _)
  ·refine cz (T.item (blk X scope cl (s2.heap.objs.size + 1) (tn++cn) s2 H2 fp) rfl rfl rfl hc i [] s5 _ H5 _ I5 (stat (pl:=[]) Qi) E9 go) fun r s6 ⟨u,hr,h6⟩ => ?_
   subst hr;refine cz h6 fun _ s7 ⟨x,H7,I7,r7,y7,Mx,Sx⟩ => ?_
   have Sy:=I7.pinned (stat (pl:=[]) Sx) (T.obj _ _ Mx);refine cz (hg _ s7 _ H7 x u _ Sy r7 (CS _ _ _ _ (step x H7 y7))) fun _ s8 ⟨JY,H8,I8,q8,l8,k8⟩ => ?_
   refine cz (ht _ s8 JY H8 _ I8 q8) fun ok s9 ⟨H9,I9,q9⟩ => ?_
   have again:∀ {sA:Shared} {HA:Hp},Inv (blk X scope cl (s2.heap.objs.size + 1) (tn++cn) s2 H2 fp) ([]++kn fp s7.heap) JY HA sA->Inv (blk X scope cl (s2.heap.objs.size + 1) (tn++cn) s2 H2 fp) [] (fY tn.length cap σ) HA sA/\Mw (i + 1) sA.heap/\∀ b∈fp,HA b=none:=fun {sA HA} IA=>by
    refine⟨(IA.iF (pins:=[])).weak l8.symm fun j v hj => ?_,T.keep _ _ _ Mx fun b hb o e=>(IA.pin (b,o) (List.mem_append_right _ (List.mem_append_right _ (fM hb e)))).1,fun b hb => ?_⟩
    ·have hjt:tn.length<=j:=by
      refine Nat.le_of_not_lt fun hlt => ?_
      have:(fY tn.length cap σ)[j]?=some none:=by
       unfold fY;rw[List.getElem?_append_left (by simpa using hlt),List.getElem?_replicate,if_pos hlt]
      rw[this]at hj;cases hj
     rw[k8 j hjt];exact hj
    ·obtain⟨o,e,_⟩:=T.obj _ _ Mx b hb
     exact(IA.pin (b,o) (List.mem_append_right _ (List.mem_append_right _ (fM hb e)))).2.1
   cases ok with
   | false=>
    rw[if_neg Bool.false_ne_true]at q9 ⊢;obtain⟨m',hm,w'⟩:=q9;obtain⟨a1,a2,a3⟩:=again I9;exact⟨m',hm,i + 1,ys,H9,a1,a2,a3,w'⟩
   | true=>
    rw[if_pos rfl]at q9 ⊢;refine cz (he _ s9 JY H9 _ I9 q9) fun y sB ⟨v,HB,IB,rB,Sz,m',hm,w'⟩ => ?_
    have hx:=mx (X:=blk X scope cl (s2.heap.objs.size + 1) (tn++cn) s2 H2 fp) _ sB JY HB (.ref s2.heap.objs.size) [v] (.ref s2.heap.objs.size) [y] (fun _ H'=>H'=upd HB s2.heap.objs.size (.lst (ys++[v]))) IB rfl (.cons rB .nil)
     ⟨s2.heap.objs.size,ys,v,rfl,rfl,Sz,hlen,rfl⟩
    refine cz hx fun _ sC ⟨_,HC,IC,_,eC⟩ => ?_
    subst eC;obtain⟨a1,a2,a3⟩:=again IC;exact⟨m',hm,i + 1,ys++[v],_,a1,a2,a3,w'⟩
 exact codeAny_compStart_list loop (T.self X.A 0 _ _ _ Qh loop)
theorem zq{tg iter elt:Expr}{ifs:List Expr}{pos:Pos}{wi:TI}{g:TG}{tc:TT}{te:TE}(hc:X.calm=true)(B:jz X scope tn cn cap)(hi:PI X tg iter wi)(hs:∀ x,foldedSetIterable iter X.env x=pure x)
  (CS:∀ v σ H Q,g v σ H Q->g v σ H fun σ' H'=>Q σ' H'/\σ'.length=σ.length/\∀ j,tn.length<=j->σ'[j]?=σ[j]?)
  (hb:∀ cl C s₀ H₀ fp,PG (blk X scope cl C (tn++cn) s₀ H₀ fp) tg g/\zm (blk X scope cl C (tn++cn) s₀ H₀ fp) ifs tc/\PE (blk X scope cl C (tn++cn) s₀ H₀ fp) elt te) :
  PE X (.ListComp elt [⟨tg,iter,ifs,0⟩] scope pos) (mz wi tn.length cap g tc te):=by
 intro pins s σ H Q I h;rw[eval_ListComp];refine mB (use:=none) hc B hi hs CS hb (fun s' H' C D m I' ns h1 h2 h3 h4 h5 q=>⟨m,ns,fun h' sb => ?_⟩) I h
 exact⟨.ref D,H',I'.turned (it:=C) (t':=s'.toks) (fun b o nb e=>sb.extBut b o nb e) h1 h2 (.inr h3) h4 h5,rfl,q⟩
theorem qW{tg iter elt:Expr}{ifs:List Expr}{pos pos' spos:Pos}{wi:TI}{g:TG}{tc:TT}{te:TE}{i:Nat}{x:Str}(hN:X.N.Nodup)(hi':X.N[i]?=some x)(hx:X.env.scope.names.lookup x=some .local)
  (hsw:swapsWith (.ListComp elt [⟨tg,iter,ifs,0⟩] scope pos) (some (.Name x pos')) spos.line X.env=pure true) (hc:X.calm=true) (B:jz X scope tn cn cap) (hi:PI X tg iter wi) (hs:∀ x,foldedSetIterable iter X.env x=pure x)
  (CS:∀ v σ H Q,g v σ H Q->g v σ H fun σ' H'=>Q σ' H'/\σ'.length=σ.length/\∀ j,tn.length<=j->σ'[j]?=σ[j]?)
  (hb:∀ cl C s₀ H₀ fp,PG (blk X scope cl C (tn++cn) s₀ H₀ fp) tg g/\zm (blk X scope cl C (tn++cn) s₀ H₀ fp) ifs tc/\PE (blk X scope cl C (tn++cn) s₀ H₀ fp) elt te) :
  PS X (.Assign [.Name x pos'] (.ListComp elt [⟨tg,iter,ifs,0⟩] scope pos) spos) (Cn (mz wi tn.length cap g tc te) (ic i)):=by
 intro pins s σ H D I h;rw[exec_Assign_Name_used _ _ _ _ hsw];refine wpAny_bind (wpAny_standAt (wpAny_bind ?_));refine wpAny_bind (m:=comprehension (.ListComp elt [⟨tg,iter,ifs,0⟩] scope pos) scope X.env _ (newList []) false (eval iter X.env) (some (assign (.Name x pos') X.env))) ?_;refine mB (use:=some (assign (.Name x pos') X.env)) (Q':=fun _ s'=>wpAny (model X.prog X.w) X.A (pure ()) (fun _ s''=>wpAny (model X.prog X.w) X.A (pure Flow.next) (SP X pins D) X.xe s'') X.xe s') hc B hi hs CS hb (fun s' H' C Dl m I' ns h1 h2 h3 h4 h5 q => ?_) I h
 show wpAny (model X.prog X.w) X.A (assign (.Name x pos') X.env (.ref Dl)) _ _ s'
 refine wpAny_assign_Name (l_ I' hN hi' (.inl hx) (v:=.ref Dl) rfl (fun s2 I2 ch => ?_) (.inr hx))
 obtain⟨a,sb,ha⟩:=ch
 have E7:C≠a:=by
  rcases ha with rfl | ha
  ·exact h2
  ·exact fun z=>h4 _ _ ha z.symm
 refine⟨m,ns.sameBut sb E7,fun h' SA=>wpAny_pure (wpAny_pure ?_)⟩
 exact⟨_,H',I2.turned (it:=C) (t':=s2.toks) (fun b o nb e=>SA.extBut b o nb e) h1 h2 (.inr h3) h4 h5,q⟩
end
theorem PI.imp{X:Cx}{tg e:Expr}{t t':TI}(h:PI X tg e t)(i:∀ σ H R,t' σ H R->t σ H R):PI X tg e t':=fun pins s σ H R I q=>h pins s σ H R I (i σ H R q)
section
variable{Z:Addr->Prop}{H:Hp}
theorem kJ:∀ (n:Nat) (lo:Int),(intsFrom lo n).length=n
 | 0,_=>rfl
 | n + 1,lo=>by rw[intsFrom,List.length_cons,kJ n]
theorem ints_get:∀ (n:Nat) (lo:Int) (i:Nat) (d:D),(intsFrom lo n)[i]?=some d->d=.int (lo + i)
 | 0,_,_,_,h=>by simp[intsFrom]at h
 | n + 1,lo,0,d,h=>by simp[intsFrom]at h;subst h;simp
 | n + 1,lo,i + 1,d,h=>by
  simp only[intsFrom,List.getElem?_cons_succ]at h;rw[ints_get n (lo + 1) i d h]
  congr 1
  omega
noncomputable def Qj(x:Str):It:=⟨fun i _=>i < x.cps.size,fun i H v H'=>H'=H/\∃ c,x.cps[i]?=some c/\v=.str ⟨#[c]⟩,fun i _=>x.cps.size<=i⟩
end
theorem wz{P:Program}{w:World}{K:PySem.W.Frag}{tg:Expr}(it:Addr)(x:Str)(t:Tok)(ty:String)(hty:ty="str_ascii_iterator"\/ty="str_iterator"):Turn P w K tg (Qj x) [it] it (fun i h=>h.IsStrIter it ty x t i) where
 mem:=by simp
 obj:=fun i h st b hb=>by
  obtain rfl:b=it:=by simpa using hb
  obtain⟨o,e,c,d⟩:=st;exact⟨o,e,fun v z=>by rw[d]at z;cases z⟩
 keep:=fun i h h' st k=>let ⟨o,e,r⟩:=st;⟨o,k it (by simp) o e,r⟩
 item:=by
  intro X hP hw hK hc i pins s σ H E I hf st hg;subst hP hw hK;obtain⟨f0,f1,f2,f3,f4,f5⟩:=hf it (by simp)
  have W:Walks X.prog X.w X.A it [it] [it] x.cps.size (SignAt x) (fun i h=>h.IsStrIter it ty x t i):=by
   rcases hty with rfl | rfl
   ·exact Walks.strAscii (I.ok.hd hc) it x t
   ·exact Walks.strWide (I.ok.hd hc) it x t
  refine W.item i s _ _ hg st fun v h' tk hv st' kk => ?_
  obtain⟨c,u,hx,rfl⟩:=hv;have I1:Inv X pins σ H { s with heap:=h',toks:=tk }:=I.turned (fun b o hb e=>kk b o (by simpa using hb) e) f0 f1 f3 f4 f5
  obtain⟨o,e,q,d⟩:=id st';refine⟨_,rfl,rZ (s:={ s with heap:=h',toks:=tk }) (n:=ty) e q d (by rcases hty with rfl | rfl<;>decide) ⟨.str ⟨#[c]⟩,H,I1,⟨u,rfl⟩,⟨rfl,c,hx,rfl⟩,st',fun b hb=>(hf b hb).1⟩⟩
 done:=by
  intro X hP hw hK hc i pins s σ H E I hf st hg;subst hP hw hK;obtain⟨f0,f1,f2,f3,f4,f5⟩:=hf it (by simp)
  have hi:x.cps.size<=i:=hg;rcases hty with rfl | rfl
  ·exact wpAny_pyNext_ascii_end (I.ok.hd hc) st (by simp[hi]) fun h' eb=>⟨rfl,I.turned (t':=s.toks) (fun b o hb e=>eb b o hb e) f0 f1 f3 f4 f5⟩
  ·exact wpAny_pyNext_wide_end (I.ok.hd hc) st (by simp[hi]) fun h' eb=>⟨rfl,I.turned (t':=s.toks) (fun b o hb e=>eb b o hb e) f0 f1 f3 f4 f5⟩
 self:=fun A i s Q E st h=>by
  rcases hty with rfl | rfl
  ·exact wpAny_pyIter_striter_ascii st h
  ·exact wpAny_pyIter_striter_wide st h
section
variable{X:Cx}{Γ:lV}{bw:Bool}{tg e:Expr}{c cs:Ex}{pos p:Pos}
def My(K:PySem.W.Frag)(tl:TE):TI:=fun σ H R=>tl σ H fun x H1=>(∃ a xs,x=.ref a/\Rd H1 a (.lst xs)/\R (Mb K a) H1)\/(∃ a xs,x=.ref a/\Rd H1 a (.tup xs)/\R (Mc K a) H1)\/∃ y,x=.str y/\R (Qj y) H1
theorem CT{tl:TE}(hl:PE X e tl):PI X tg e (My X.K tl):=by
 intro pins s σ H R I h;refine cz (hl pins s σ H _ I h) fun v s1 ⟨x,H1,I1,r1,q1⟩ => ?_
 have fp:∀ b∈[s1.heap.objs.size],lO X pins H1 b:=fun b hb=>by
  obtain rfl:b=s1.heap.objs.size:=by simpa using hb
  exact I1.vo (Nat.le_refl _) (I1.hok.fresh (Nat.le_refl _))
 rcases q1 with ⟨a,xs,rfl,hq,q⟩ | ⟨a,xs,rfl,hq,q⟩ | ⟨y,rfl,q⟩
 ·cases r1
  obtain⟨its,rv,pl,hz⟩:=I1.list (jc (K:=X.K) hq);refine wpAny_pyIter_list pl.isList ?_;exact⟨s1.heap.objs.size,[s1.heap.objs.size],_,_,H1,rfl,I1.kept (t':=s1.toks) fun b o e=>Heap.get?_push_of_some _ e,t_ a _,⟨_,Heap.get?_push_size _ rfl,rfl,rfl⟩,fp,q⟩
 ·cases r1
  obtain⟨its,rv,pl,hz⟩:=I1.tuple (uq (K:=X.K) hq);refine wpAny_pyIter_tuple (show s1.heap.IsTuple a its.toArray from pl) ?_
  exact⟨s1.heap.objs.size,[s1.heap.objs.size],_,_,H1,rfl,I1.kept (t':=s1.toks) fun b o e=>Heap.get?_push_of_some _ e,qD a _,⟨_,Heap.get?_push_size _ rfl,rfl,rfl⟩,fp,q⟩
 ·obtain⟨t,rfl⟩:=r1
  refine wpAny_pyIter_strU ?_;exact⟨s1.heap.objs.size,[s1.heap.objs.size],_,_,H1,rfl,I1.kept (t':=s1.toks) fun b o e=>Heap.get?_push_of_some _ e,wz _ y t (strIterType y) (by unfold strIterType;split<;>simp),⟨_,Heap.get?_push_size _ rfl,rfl,rfl⟩,fp,q⟩
end
section
variable{X:Cx}{Γ:lV}{bw:Bool}{tg iter elt:Expr}{ifs:List Expr}{scope:Scope}{tn cn:List Str}{cap:List Nat}{SD cc Vv:Ex}{pos:Pos}{n:Nat}
theorem jA(n:Nat)(hn:0 < n):∀ v σ H Q,ic 0 v σ H Q->ic 0 v σ H fun σ' H'=>Q σ' H'/\σ'.length=σ.length/\∀ j,n<=j->σ'[j]?=σ[j]?:=fun v σ H Q h=>⟨h,by simp,fun j hj=>by
 rw[List.getElem?_set_ne];omega⟩
end
theorem PS.imp{X:Cx}{st:Stmt}{t t':TS}(h:PS X st t)(i:∀ D σ H,t' D σ H->t D σ H):PS X st t':=fun pins s σ H D I q=>h pins s σ H D I (i D σ H q)
theorem iE.imp{X:Cx}{st:List Stmt}{t t':TS}(h:iE X st t)(i:∀ D σ H,t' D σ H->t D σ H):iE X st t':=fun pins s σ H D I q=>h pins s σ H D I (i D σ H q)
section
variable{X:Cx}{Γ:lV}{e:Expr}{c:Ex}{st:Stmt}{rest:List Stmt}{a b:Qk}{pos pos':Pos}
end
section
variable{Z0 Z1 Z:Addr->Prop}{H0 H1 H:Hp}{ρ:zg}{σ:L2.St}
end
section
variable{X:Cx}{Γ:lV}{tg e:Expr}{c:Ex}{b:Qk}{tb:List Stmt}{pos pos':Pos}
def je:List Nat->Bs
 | []=>FD
 | i::is=>Bt (ic i) (je is)
theorem mD{nms:List (Str×Pos)}(hN:X.N.Nodup):∀ (is:List Nat) (nms:List (Str×Pos)),is.length=nms.length->(∀ (j i:Nat) (x:Str×Pos),is[j]?=some i->nms[j]?=some x->X.N[i]?=some x.1/\Loc X.env.scope x.1/\(X.fn x.1=true\/X.env.scope.names.lookup x.1=some .local)) ->
  FC X (nms.map fun x=>Expr.Name x.1 x.2) (je is)
 | [],[],_,_=>yN
 | [],_::_,h,_=>by cases h
 | _::_,[],h,_=>by cases h
 | i::is,(x,px)::nms,hl,h=>by
  obtain⟨h1,h2,h3⟩:=h 0 i (x,px) rfl rfl;exact vm (jS hN h1 h2 h3) (mD (nms:=nms) hN is nms (by simpa using hl) fun j i x e1 e2=>h (j + 1) i x (by simpa using e1) (by simpa using e2))
end
section
variable{X:Cx}{Γ:lV}{e o:Expr}{c:Ex}{i j:Nat}{x y:Str}{p0 p1 p2 p3 p4 p5 pos:Pos}
end
theorem gw{X:Cx}{pins:List (Addr×Obj)}{σ:L2.St}{H:Hp}{s:Shared}{h':Heap}{t':Nat}{fp:List Addr}{a:Addr}{o:HO}(I:Inv X pins σ H s)(hf:∀ b∈fp,lO X pins H b)
  (k:∀ b o,b∉fp->s.heap.get? b=some o->h'.get? b=some o) (ha:s.heap.objs.size<=a) (new:cL X.prog X.w (upd H a o) h' a o):Inv X pins σ (upd H a o) { s with heap:=h',toks:=t' }:=by
 have hn:=I.hok.fresh ha;have Ql:∀ b u,H b=some u->b∉fp:=fun b u e z=>by rw[(hf b z).1]at e;cases e
 have up:∀ b u,H b=some u->upd H a o b=some u:=fun b u e=>by rw[aI (br e hn)];exact e
 refine I.step (g':=s.gens) (d':=s.drawn) (ch:=fp) (fun b hb => ?_) (fun b o _ _ hc e _=>k b o hc e) (fun b o _ _ hc e _=>⟨o.slots,k b o hc e⟩) (fun b u _ e n => ?_)
  (fun b o hc e=>⟨o,k b o hc e⟩) (fun b xs e=>up b _ e) (fun b u v e=>up b _ e) (fun b ps e=>⟨#[],by rw[up b _ e];simp⟩) (fun m hm => ?_) (fun b u e => ?_) I.bare
 ·obtain⟨f0,f1,f2,f3,f4,f5⟩:=hf b hb
  exact⟨f3,f1,f4,f5⟩
 ·have:b≠a:=fun z=>absurd (Heap.lt_size e) (by rw[z];exact Nat.not_lt.mpr ha)
  rw[aI this];exact n
 ·obtain⟨o,es,ep,ho,r⟩:=hm
  exact⟨o,es,ep,k _ o (fun z=>(hf _ z).2.1 rfl) ho,r⟩
 ·by_cases hb:b=a
  ·subst hb
   rw[bE]at e;cases e
   exact new
  ·rw[aI hb]at e
   refine(I.hok b u e).stay (fun c v hc q=>k c v ?_ q) (fun c q=>up c _ q) fun c _ q=>up c _ q
   rcases hc with z | z
   ·rw[z];exact Ql b u e
   ·exact Ql c _ z
def Qm(K:PySem.W.Frag)(a:Addr):It:=
 ⟨fun i H=>∃ xs x,ju K H a xs/\xs[i]?=some x,fun i H x H'=>∃ p,x=.ref p/\H p=none/\∀ xs,ju K H a xs->∃ v,xs[i]?=some v/\H'=upd H p (.tup [.int i,v]),fun i H=>∃ xs,ju K H a xs/\xs.length<=i⟩
theorem uw{P:Program}{w:World}{K:PySem.W.Frag}{elts:List Expr}{x1:Nat}{tpos:Pos}(a e it:Addr)(hne:e≠it) :
  Turn P w K (.Tuple elts x1 tpos) (Qm K a) [e,it] e (fun i h=>(∃ old,IsEnum h e it i old)/\h.IsListIter it a i) where
 mem:=by simp
 obj:=fun i h st b hb=>by
  obtain⟨⟨old,st1⟩,o,e2,c,d⟩:=st;rcases List.mem_cons.mp hb with z | z
  ·subst z
   exact⟨_,st1,fun v z=>by
    have z':Data.fields _=Data.cell v:=z;cases z'⟩
  ·have z:b=it:=by simpa using z
   subst z;exact⟨o,e2,fun v z=>by rw[d]at z;cases z⟩
 keep:=fun i h h' st k=>by
  obtain⟨⟨old,st1⟩,st2⟩:=st;exact⟨⟨old,k e (by simp) _ st1⟩,st2.at fun o q=>k it (by simp) o q⟩
 item:=by
  intro X hP hw hK hc i pins s σ H E I hf st hg;subst hP hw hK;obtain⟨xs,x,hq,hx⟩:=hg;obtain⟨⟨old,st1⟩,st2⟩:=st;obtain⟨its,rv,p,hz⟩:=I.list hq;obtain⟨u,hu,ru⟩:=rv.get hx;refine wpAny_pyNext_enum_item st1 st2 p.isList (x:=u) (by simpa using hu) hne fun h' so si tu sz kp => ?_
  refine⟨_,rfl,wpAny_letOwnedTupleGo_enum (s:={ s with heap:=h',toks:=s.toks + 1 }) so fun h2 se sb => ?_⟩
  have CQ:∀ b o,b∉[e,it]->s.heap.get? b=some o->h2.get? b=some o:=fun b o hb q=>by
   have h1:b≠e:=fun z=>hb (by simp[z])
   have h3:b≠it:=fun z=>hb (by simp[z])
   exact sb.extBut b o h1 (kp b o h1 h3 q)
  have hel:e < s.heap.objs.size:=Heap.lt_size st1;have Mz:h2.get? s.heap.objs.size=some { cls:=.type "tuple",data:=.seq #[.int i s.toks,u] }:=sb.extBut _ _ (Nat.ne_of_gt hel) tu;have se':∃ old,IsEnum h2 e it ((i + 1:Nat):Int) old:=⟨u,by rw[show((i + 1:Nat):Int)=(i:Int) + 1 by omega];exact se⟩
  refine⟨.ref s.heap.objs.size,upd H s.heap.objs.size (.tup [.int i,x]),?_,rfl,⟨_,rfl,I.hok.fresh (Nat.le_refl _),fun ys hy=>⟨x,by rw[I.oR hy hq];exact hx,rfl⟩⟩,⟨se',?_⟩,fun b hb => ?_⟩
  ·have tup:IsTup h2 s.heap.objs.size [Value.int i s.toks,u].toArray:=⟨_,Mz,rfl,_,rfl⟩
   have new:cL X.prog X.w (upd H s.heap.objs.size (.tup [.int i,x])) h2 s.heap.objs.size (.tup [.int i,x]):=⟨by rw[sizeLine_eq];simp,[.int i s.toks,u],.cons ⟨_,rfl⟩ (.cons ru .nil),tup⟩
   have:=gw (s:=s) (h':=h2) (t':=s.toks + 1) I hf CQ (Nat.le_refl _) new;exact this
  ·exact si.extBut sb.extBut (Ne.symm hne)
  ·have hlt:b < s.heap.objs.size:=by
    rcases List.mem_cons.mp hb with z | z
    ·subst z;exact hel
    ·have z:b=it:=by simpa using z
     subst z;obtain⟨o,q,_⟩:=st2;exact Heap.lt_size q
   rw[aI (Nat.ne_of_lt hlt)];exact(hf b hb).1
 done:=by
  intro X hP hw hK hc i pins s σ H E I hf st hg;subst hP hw hK;obtain⟨xs,hq,hx⟩:=hg;obtain⟨⟨old,st1⟩,st2⟩:=st;obtain⟨its,rv,p,hz⟩:=I.list hq;obtain⟨f0,f1,f2,f3,f4,f5⟩:=hf it (by simp)
  have hl:=rv.length;exact wpAny_pyNext_enum_end (I.ok.hd hc) st1 st2 p.isList (by simp;omega) fun h' eb=>⟨rfl,I.turned (t':=s.toks) (fun b o hb e=>eb b o hb e) f0 f1 f3 f4 f5⟩
 self:=fun _ _ _ _ _ st h=>by
  obtain⟨⟨old,st1⟩,_⟩:=st;exact wpAny_pyIter_enum st1 h
theorem iN:∀ (ds:List D) (k:Nat),(du k ds).length=ds.length
 | [],_=>rfl
 | d::ds,k=>by rw[du,List.length_cons,List.length_cons,iN ds]
theorem jV:∀ (ds:List D) (k i:Nat) (d:D),(du k ds)[i]?=some d->∃ x,ds[i]?=some x/\d=.tup [.int (k + i:Nat),x]
 | [],_,_,_,h=>by simp[du]at h
 | d::ds,k,0,d',h=>by simp[du]at h;exact⟨d,rfl,h.symm⟩
 | d::ds,k,i + 1,d',h=>by
  simp only[du,List.getElem?_cons_succ]at h;obtain⟨x,h1,h2⟩:=jV ds (k + 1) i d' h;exact⟨x,by simpa using h1,by rw[h2,show k + 1 + i=k + (i + 1) by omega]⟩
theorem nH:∀ {ds:List D} {xs:List Str} {Z:Addr->Prop} {H:Hp} {vs:List V} {us:List Value},dv ds=some xs->aT Z H ds vs->Vals vs us->StrsAre us xs
 | [],xs,Z,H,vs,us,h,r,q=>by
  cases h;rw[r.nil_inv]at q;cases q;exact .nil
 | d::ds,xs,Z,H,vs,us,h,r,q=>by
  obtain⟨v,rs,rfl,r1,r2⟩:=r.cons_inv;cases d with
  | str x=>
   simp only[dv]at h;obtain⟨ys,h1,rfl⟩:=Option.map_eq_some_iff.mp h;simp only[Rep]at r1;subst r1;cases q with
   | cons qa qb=>
    obtain⟨t,rfl⟩:=qa;exact .cons x t (nH h1 r2 qb)
  | _=>cases h
def rJoin:V->List V->Hp->VK->Prop:=fun x vs H Q=>∃ z Z ds xs y,x=.str z/\vs=[y]/\Now Z H (.lst ds) y/\dv ds=some xs/\z.length<=16/\(xs.map (·.length)).sum + xs.length<=1048576/\Q (.str (Txt.join z xs)) H
theorem zt{X:Cx}:JQ X "str.join" rJoin:=by
 intro pins s σ H x vs v us Q I rx rv h;obtain⟨z,Z,ds,xs,y,rfl,rfl,n,hs,h1,h2,q⟩:=h;obtain⟨t,rfl⟩:=rx;obtain⟨l,ws,rfl,q1,q2⟩:=cM n;obtain⟨u,rfl,ru⟩:=rv.one;cases ru;obtain⟨its,rv',pl,hz⟩:=I.list (jc (K:=X.K) q1);exact join_listW pl.isList (by simpa using nH hs q2 rv') h1 h2 fun t' k=>⟨.str _,H,I.tok _,⟨t',rfl⟩,q⟩
theorem zu{v v':V}{u:Value}(h:L2.RelV v u)(h':L2.RelV v' u):v=v':=by
 cases v<;>cases v'<;>simp only[L2.RelV]at h h'<;>first
  | (obtain⟨t,rfl⟩:=h;obtain⟨t',e⟩:=h';cases e;done)
  | (obtain⟨t,rfl⟩:=h;obtain⟨t',e⟩:=h';cases e;rfl)
  | (obtain⟨t,rfl⟩:=h;cases h';done)
  | (subst h;obtain⟨t',e⟩:=h';cases e;done)
  | (subst h;cases h';done)
  | (subst h;cases h';rfl)
  | rfl
theorem sP{H:Hp}{a:Addr}{u:HO}{vs:List V}(h:Rd H a (.lst vs))(h':Rd H a u)(hu:∀ o w,u≠.jG o w):u=.lst vs:=by
 rcases h with h | ⟨o,h⟩<;>rcases h' with h' | ⟨o',h'⟩<;>rw[h]at h'<;>cases h'<;>first | rfl | exact absurd rfl (hu _ _)
theorem sQ{H:Hp}{a:Addr}{u:HO}{vs:List V}(h:Rd H a (.tup vs))(h':Rd H a u)(hu:∀ o w,u≠.jG o w):u=.tup vs:=by
 rcases h with h | ⟨o,h⟩<;>rcases h' with h' | ⟨o',h'⟩<;>rw[h]at h'<;>cases h'<;>first | rfl | exact absurd rfl (hu _ _)
mutual
theorem sR{Z:Addr->Prop}{H:Hp}:∀ {n:Nat} {d d':D} {v:V},aK n d=true->aK n d'=true->Rep Z H d v->Rep Z H d' v->d=d'
 | n,.non,d',v,_,o',h,h'=>by
  simp only[Rep]at h;subst h
  cases d'<;>simp only[Rep]at h'<;>first | rfl | (cases h';done) | (obtain⟨_,_,e,_⟩:=h';cases e)
 | n,.bl b,d',v,_,o',h,h'=>by
  simp only[Rep]at h;subst h
  cases d'<;>simp only[Rep]at h'<;>first | (cases h';rfl) | (cases h';done) | (obtain⟨_,_,e,_⟩:=h';cases e)
 | n,.int b,d',v,_,o',h,h'=>by
  simp only[Rep]at h;subst h
  cases d'<;>simp only[Rep]at h'<;>first | (cases h';rfl) | (cases h';done) | (obtain⟨_,_,e,_⟩:=h';cases e)
 | n,.str b,d',v,_,o',h,h'=>by
  simp only[Rep]at h;subst h
  cases d'<;>simp only[Rep]at h'<;>first | (cases h';rfl) | (cases h';done) | (obtain⟨_,_,e,_⟩:=h';cases e)
 | 0,.lst ds,_,_,o,_,_,_=>by simp[aK]at o
 | 0,.tup ds,_,_,o,_,_,_=>by simp[aK]at o
 | n + 1,.lst ds,d',v,o,o',h,h'=>by
  simp only[Rep]at h;obtain⟨a,vs,rfl,_,h1,h2⟩:=h;cases d' with
  | lst ds'=>
   simp only[Rep]at h';obtain⟨a',vs',e,_,h1',h2'⟩:=h';cases e;have:=sP h1 h1' (fun _ _ z=>by cases z)
   cases this;simp only[aK]at o o';rw[kK o o' h2 h2']
  | tup ds'=>
   simp only[Rep]at h';obtain⟨a',vs',e,_,h1',h2'⟩:=h';cases e;have:=sP h1 h1' (fun _ _ z=>by cases z)
   cases this
  | dct _ _=>simp[aK]at o'
  | ref _=>simp[aK]at o'
  | _=>simp only[Rep]at h';cases h'
 | n + 1,.tup ds,d',v,o,o',h,h'=>by
  simp only[Rep]at h;obtain⟨a,vs,rfl,_,h1,h2⟩:=h;cases d' with
  | lst ds'=>
   simp only[Rep]at h';obtain⟨a',vs',e,_,h1',h2'⟩:=h';cases e;have:=sQ h1 h1' (fun _ _ z=>by cases z)
   cases this
  | tup ds'=>
   simp only[Rep]at h';obtain⟨a',vs',e,_,h1',h2'⟩:=h';cases e;have:=sQ h1 h1' (fun _ _ z=>by cases z)
   cases this;simp only[aK]at o o';rw[kK o o' h2 h2']
  | dct _ _=>simp[aK]at o'
  | ref _=>simp[aK]at o'
  | _=>simp only[Rep]at h';cases h'
 | n,.dct _ _,_,_,o,_,_,_=>by cases n<;>simp[aK]at o
 | n,.ref _,_,_,o,_,_,_=>by cases n<;>simp[aK]at o
theorem kK{Z:Addr->Prop}{H:Hp}:∀ {n:Nat} {ds ds':List D} {vs:List V},ds.all (aK n)=true->ds'.all (aK n)=true->aT Z H ds vs->aT Z H ds' vs->ds=ds'
 | n,[],ds',vs,_,_,h,h'=>by
  rw[h.nil_inv]at h';cases ds' with
  | nil=>rfl
  | cons d r=>obtain⟨_,_,e,_⟩:=h'.cons_inv;cases e
 | n,d::ds,ds',vs,o,o',h,h'=>by
  obtain⟨v,r,rfl,h1,h2⟩:=h.cons_inv;cases ds' with
  | nil=>exact absurd h'.nil_inv (by simp)
  | cons d' ds'=>
   obtain⟨v',r',e,h1',h2'⟩:=h'.cons_inv;cases e;simp only[List.all_cons,Bool.and_eq_true]at o o';rw[sR o.1 o'.1 h1 h1',kK o.2 o'.2 h2 h2']
end
def wD:V->List V->Hp->VK->Prop:=fun x vs H Q=>∃ Z ds d y j,vs=[y]/\Now Z H (.lst ds) x/\Now Z H d y/\aK 8 d=true/\ds.all (aK 8)=true/\ds.findIdx? (fun e=>ej e d)=some j/\Q (.int j) H
theorem jf{Z:Addr->Prop}{H:Hp}{ds:List D}{vs:List V}{its:List Value}{m:Nat}(r:aT Z H ds vs)(q:Vals vs its)(hm:m < its.length)(hd:m < ds.length):∃ v,Rep Z H ds[m] v/\L2.RelV v its[m]:=by
 obtain⟨v,h1,h2⟩:=r.get (i:=m) (d:=ds[m]) (by simp[hd])
 obtain⟨u,h3,h4⟩:=q.get h1;rw[List.getElem?_eq_getElem hm]at h3;cases h3;exact⟨v,h2,h4⟩
theorem wF{X:Cx}(hu:X.A.units + 64 < cLine):JQ X "list.index" wD:=by
 intro pins s σ H x vs v us Q I rx rv h;obtain⟨Z,ds,d,y,j,rfl,nx,ny,o1,o2,hj,q⟩:=h;obtain⟨l,ws,rfl,q1,q2⟩:=cM nx;cases rx;obtain⟨u,rfl,ru⟩:=rv.one;obtain⟨its,rv',pl,hz⟩:=I.list (jc (K:=X.K) q1);obtain⟨hjl,he,hno⟩:=List.findIdx?_eq_some_iff_getElem.mp hj;have hl:=rv'.length;have hl2:=q2.length;obtain⟨o,n,ho,hc,hd,hdt⟩:=pl;have hdm:∀ m (hm:m < ds.length),aK 8 ds[m]=true:=fun m hm=>List.all_eq_true.mp o2 _ (List.getElem_mem hm)
 have hj2:j < its.length:=by omega
 classical
 let e:Value->Bool:=fun w=>decide (∃ m,∃ (hm:m < its.length) (hd:m < ds.length),its[m]=w/\ej ds[m] d=true)
 have he':∀ m (hm:m < its.length) (hd:m < ds.length),e its[m]=ej ds[m] d:=fun m hm hd=>by
  cases hq:ej ds[m] d with
  | true=>exact decide_eq_true ⟨m,hm,hd,rfl,hq⟩
  | false=>
   refine decide_eq_false ?_;rintro⟨m',hm',hd',e1,e2⟩;obtain⟨v1,r1,p1⟩:=jf q2 rv' hm hd;obtain⟨v2,r2,p2⟩:=jf q2 rv' hm' hd';rw[e1]at p2;have:=zu p1 p2;subst this;rw[sR (hdm m hd) (hdm m' hd') r1 r2]at hq;rw[hq]at e2;cases e2
 refine call_meets F.slot_list_index ⟨_,ho,hc⟩ F.entry_list_index (F.args_list_index_2 _ _)
  (SeqAt.list_indexAt l its.toArray n none o.slots u e j (by rw[List.size_toArray];exact hj2) (by rw[sizeLine_eq]at hz;omega) ?_ ?_) ⟨?_,fun w hw => ?_,?_⟩
 ·show e its[j]=true
  rw[he' j hj2 hjl];exact he
 ·intro m hm SE
  have hm':m < its.length:=by simpa using hm
  show e its[m]=false
  rw[he' m hm' (by omega)]
  simpa using hno m SE
 ·rw[ho]
  obtain⟨c',d',dt,sl⟩:=o;cases hc;cases hd;cases hdt;rfl
 ·obtain⟨m,hm,rfl⟩:=List.mem_iff_getElem.mp (show w∈its by simpa using hw)
  have hd':m < ds.length:=by omega
  rw[he' m hm hd'];obtain⟨v1,r1,p1⟩:=jf q2 rv' hm hd';exact fC I 8 _ _ _ _ _ (by simp[Around.in1];omega) (hdm m hd') o1 (fX I r1.now p1 (hdm m hd')) (fX I ny ru o1)
 ·exact⟨.int j,H,I.tok _,⟨_,rfl⟩,q⟩
end Mir
namespace Mir
open PySem PySem.Spec PyProof.Rows L2
theorem cY:PySem.Slot "list_reverseiterator" "__next__" "list_reverseiterator.__next__":=
 .of (owner:="list_reverseiterator") (n:="__next__") (by rw[typeLookup_type,builtinLookup_eq_fast];kernel_rfl) (by decide +kernel) (by decide +kernel) (by decide +kernel)
  (by first | exact .inl (by decide +kernel) | exact .inr (by decide +kernel)) (by rw[isSubtype_type];kernel_rfl)
theorem ig:PySem.Slot "list_reverseiterator" "__iter__" "list_reverseiterator.__iter__":=
 .of (owner:="list_reverseiterator") (n:="__iter__") (by rw[typeLookup_type,builtinLookup_eq_fast];kernel_rfl) (by decide +kernel) (by decide +kernel) (by decide +kernel)
  (by first | exact .inl (by decide +kernel) | exact .inr (by decide +kernel)) (by rw[isSubtype_type];kernel_rfl)
theorem gx:entryFor table "list_reverseiterator.__next__"=some Builtin.«list_reverseiterator.__next__» := entryFor_of_tree (by kernel_rfl)
theorem ij(a:Value):argsOk "list_reverseiterator.__next__" ⟨[a],[]⟩:=by unfold argsOk;kernel_rfl
theorem kL:entryFor table "list_reverseiterator.__iter__"=some Builtin.«dict_keyiterator.__iter__» :=
 entryFor_alias (id':="dict_keyiterator.__iter__") (by kernel_rfl) rfl (by decide +kernel) (by kernel_rfl)
theorem lW(a:Value):argsOk "list_reverseiterator.__iter__" ⟨[a],[]⟩:=by unfold argsOk;kernel_rfl
theorem qX:typeLookup (.type "list_reverseiterator") "__len__"=pure none:=by rw[typeLookup_type,builtinLookup_eq_fast];kernel_rfl
theorem lX:PySem.Slot "list_reverseiterator" "__length_hint__" "list_reverseiterator.__length_hint__":=
 .of (owner:="list_reverseiterator") (n:="__length_hint__") (by rw[typeLookup_type,builtinLookup_eq_fast];kernel_rfl) (by decide +kernel) (by decide +kernel) (by decide +kernel)
  (by first | exact .inl (by decide +kernel) | exact .inr (by decide +kernel)) (by rw[isSubtype_type];kernel_rfl)
abbrev ik(h:Heap)(it l:Addr)(i:Int):Prop:=h.get? it=some { cls:=.type "list_reverseiterator",data:=.fields #[.ref l,rawInt i] }
section
variable{prog:Program}{w:World}{A:Around}{E:Value->Shared->Prop}{s:Shared}
theorem kM{it l:Addr}{i:Int}{Q:Value->Shared->Prop}(hit:ik s.heap it l i)(h:Q (.ref it) s):wpAny (model prog w) A (pyIter (.ref it)) Q E s:=by
 have hT:s.TypeIs (.ref it) "list_reverseiterator":=⟨_,hit,rfl⟩;refine wpAny_pyIter_slot hT ig (wpAny_call_entry ig hT kL ?_ (lW _))
 show wpAny _ _ (ret (.ref it)) _ _ s
 exact wpAny_pure ⟨_,rfl,"list_reverseiterator",_,hT,cY.lookup,h⟩
theorem jN{it l:Addr}{i:Nat}{items:Array Value}{x:Value}{Q:Option Value->Shared->Prop}(hit:ik s.heap it l i)(hl:s.heap.IsList l items)(hx:items[i]?=some x)
  (hQ:∀ h',ik h' it l ((i:Int) - 1)->Heap.SameBut it s.heap h'->Q (some x) { s with heap:=h' }):wpAny (model prog w) A (pyNext (.ref it)) Q E s:=by
 have hT:s.TypeIs (.ref it) "list_reverseiterator":=⟨_,hit,rfl⟩;obtain⟨ol,hol,_,nl,hdl⟩:=hl;unfold pyNext;refine wpAny_bind (wpAny_attempt (wpAny_callSpecial?_slot (name:=Str.ofString "__next__") hT cY (wpAny_call_entry cY hT gx ?_ (ij _))))
 show wpAny _ _ (field (.ref it) 1 >>= _) _ _ s
 refine wpAny_bind (wpAny_field hit rfl (x:=rawInt i) rfl ?_)
 show wpAny _ _ (if (i:Int) < 0 then _ else _) _ _ s
 rw[if_neg (by omega)]
 show wpAny _ _ (field (.ref it) 0 >>= _) _ _ s
 refine wpAny_bind (wpAny_field hit rfl (x:=.ref l) rfl ?_)
 show wpAny _ _ (seqItems? (.ref l) >>= _) _ _ s
 refine wpAny_bind (wpAny_seqItems hol hdl ?_);simp only[Int.toNat_natCast,hx];refine wpAny_bind (wpAny_setField_rec hit (by simp) fun h' h1 h2 => ?_)
 exact wpAny_pure ⟨x,rfl,wpAny_pure (hQ h' h1 h2)⟩
theorem kN{it l:Addr}{Q:Option Value->Shared->Prop}(hh:A.handled=none)(hit:ik s.heap it l (-1))(hQ:∀ h',(∀ b o,s.heap.get? b=some o->h'.get? b=some o)->Q none { s with heap:=h' }):wpAny (model prog w) A (pyNext (.ref it)) Q E s:=by
 have hT:s.TypeIs (.ref it) "list_reverseiterator":=⟨_,hit,rfl⟩;unfold pyNext;refine wpAny_bind (wpAny_attempt (wpAny_callSpecial?_slot (name:=Str.ofString "__next__") hT cY (wpAny_call_entry cY hT gx ?_ (ij _))))
 show wpAny _ _ (field (.ref it) 1 >>= _) _ _ s
 refine wpAny_bind (wpAny_field hit rfl (x:=rawInt (-1)) rfl ?_)
 show wpAny _ _ (if (-1:Int) < 0 then _ else _) _ _ s
 rw[if_pos (by omega)]
 refine wpAny_bind (wpAny_rule ?_);refine wpAny_bind ?_;unfold Builtin.SmallTypes.stopIteration;refine wpAny_bind ?_;simp only[newExc,newTuple];refine wpAny_bind (wpAny_newObj_type ?_ (by size_fits))
 refine wpAny_bind (m:=firstArgMember _ _) (wpAny_of_eq (a:=Value.none) (by first | rfl | (simp only[firstArgMember];rfl)) ?_)
 refine wpAny_newObj_type ?_ (by size_fits)
 simp only[raiseNew];refine wpAny_bind (wpAny_handled ?_);rw[show A.in1.handled=none from hh]
 refine wpAny_bind (wpAny_pure (wpAny_throw ?_));refine wpAny_bind (wpAny_isInstance (T:="StopIteration") (b:=true) ⟨_,Heap.get?_push_size _ rfl,rfl⟩ isSubtype_stop ?_);exact wpAny_pure (hQ _ fun b o e=>Heap.get?_push_of_some _ (Heap.get?_push_of_some _ e))
theorem ux(hh:A.handled=none)(it l:Addr)(hne:it≠l)(items:Array Value):Walks prog w A it [it,l] [it] items.size (fun i v=>items[items.size - 1 - i]?=some v) (fun i h=>ik h it l ((items.size:Int) - 1 - (i:Nat))/\h.IsList l items) where
 sub:=fun b hb=>by simp at hb ⊢;exact .inl hb
 frame:=fun i h h' st hk=>⟨hk it (by simp) _ st.1,let ⟨o,ho,r⟩:=st.2;⟨o,hk l (by simp) o ho,r⟩⟩
 item:=fun i s Q E hi st hQ=>by
  obtain⟨st1,st2⟩:=st;have hx:items[items.size - 1 - i]?=some items[items.size - 1 - i]:=by rw[Array.getElem?_eq_getElem]
  have zv:ik s.heap it l ((items.size - 1 - i:Nat):Int):=by rw[show((items.size - 1 - i:Nat):Int)=(items.size:Int) - 1 - (i:Nat) by omega];exact st1
  refine jN zv st2 hx fun h' h1 h2=>hQ _ h' s.toks hx ⟨?_,?_⟩ fun b o hb e=>h2.extBut b o (fun z=>hb (by simp[z])) e
  ·rw[show(items.size:Int) - 1 - ((i + 1:Nat):Int)=((items.size - 1 - i:Nat):Int) - 1 by omega];exact h1
  ·obtain⟨o,ho,r⟩:=st2
   exact⟨o,h2.extBut l o (Ne.symm hne) ho,r⟩
 done:=fun s Q E st hQ=>by
  obtain⟨st1,st2⟩:=st;rw[show(items.size:Int) - 1 - ((items.size:Nat):Int) = -1 by omega]at st1
  exact kN hh st1 fun h' hk=>hQ h' s.toks fun b o _ e=>hk b o e
 self:=fun i s Q E st hQ=>kM st.1 hQ
theorem wG{it l:Addr}{i:Int}{Q:Bool->Shared->Prop}(hit:ik s.heap it l i)(h:Q false s):wpAny (model prog w) A (Builtin.List.listLengthHint (.ref it)) Q E s:=by
 have hT:s.TypeIs (.ref it) "list_reverseiterator":=⟨_,hit,rfl⟩;unfold Builtin.List.listLengthHint;refine wpAny_bind (wpAny_specialOf hT qX ?_)
 show wpAny _ A (specialOf (Value.ref it) (Str.ofString "__length_hint__") >>= _) _ _ _
 refine wpAny_bind (wpAny_specialOf hT lX.lookup ?_);generalize hid:("list_reverseiterator.__length_hint__":String)=id0
 wp_delta
 rw[show splitId id0=some ("list_reverseiterator","__length_hint__") from by subst hid;decide +kernel]
 subst hid;refine wpAny_bind (wpAny_isInstance (T:="list_reverseiterator") (b:=true) hT (by rw[isSubtype_type];kernel_rfl) ?_)
 refine wpAny_ite_split (fun hab=>absurd hab (by decide)) (fun _ => ?_)
 refine wpAny_ite_split (fun _ => ?_) (fun hab=>absurd (by decide +kernel) hab)
 refine wpAny_ite_split (fun hab=>absurd hab (by decide)) (fun _=>wpAny_pure h)
theorem qY{R:Result->Shared->Prop}{it l:Addr}{items:Array Value}(hh:A.handled=none)(hne:it≠l)(hit:ik s.heap it l ((items.size:Int) - 1))(hl:s.heap.IsList l items)(hn:items.size<=sizeLine)(S:Addr)(res:Value)(c₀:Nat)(hS:s.heap.get? S=some { cls:=.type "list",data:=.seq #[] c₀ })(hSl:S≠l)
  (hR:∀ h' tk acc' c',(∀ b o,b≠S->b≠it->s.heap.get? b=some o->h'.get? b=some o)->h'.get? S=some { cls:=.type "list",dict:=none,data:=.seq acc' c',slots := #[] }->ItemsOf (fun i v=>items[items.size - 1 - i]?=some v) acc' items.size->R (.ok (.ret res)) { s with heap:=h',toks:=tk }) :
  wpAny (model prog w) A.in1 (Builtin.List.listExtendWith (.ref S) (.ref it) res)
   (fun fin s'=>match fin with | .done f=>R (.ok f) s' | .again c'=>c'.quiet=true/\codeAny (model prog w) A c' R s') (fun e s'=>R (.error e) s') s:=by
 have hT:s.TypeIs (.ref it) "list_reverseiterator":=⟨_,hit,rfl⟩
 have hSI:S≠it:=fun e=>by
  rw[e]at hS;have:=hit.symm.trans hS;simp at this
 have W:=(ux (prog:=prog) (w:=w) (A:=A.in1) hh it l hne items).toS
 have hSf:S∉[it,l]:=fun hm=>by
  rcases List.mem_cons.mp hm with e | e
  ·exact hSI e
  ·exact hSl (by simpa using e)
 unfold Builtin.List.listExtendWith;refine wpAny_bind (wpAny_typeOf hT ?_);have h1:Builtin.List.listSameRef (.ref S) (.ref it)=false:=by simp[Builtin.List.listSameRef,hSI]
 have h2:(Value.type "list_reverseiterator" == Value.type "list")=false:=by decide
 have h3:(Value.type "list_reverseiterator" == Value.type "tuple")=false:=by decide
 simp only[h1,h2,h3,Bool.or_false,Bool.false_eq_true,if_false];refine wpAny_bind (kM hit ?_);refine wpAny_bind (wpAny_holding (wG hit ?_));refine wpAny_ite_split (fun hab=>absurd hab (by decide)) (fun _=>wpAny_pure ⟨plainId_quiet F.plain_extend_loop _,?_⟩)
 refine codeAny_extend_loopS W hn S hSf res items.size 0 _ #[] c₀ rfl (Nat.zero_le _) ⟨by simpa using hit,hl⟩ hS (ItemsOf.nil _) fun s' acc' c' hm hS' hacc => ?_
 rw[Moved.eq_with hm];refine hR s'.heap s'.toks acc' c' (fun b o hb hb' e=>hm.heap b o (fun hmem => ?_) e) hS' hacc
 rcases List.mem_cons.mp hmem with e' | hmem
 ·exact hb e'
 ·exact hb' (by simpa using hmem)
theorem wH{R:Result->Shared->Prop}{it l:Addr}{items:Array Value}(hh:A.handled=none)(hne:it≠l)(hit:ik s.heap it l ((items.size:Int) - 1))(hl:s.heap.IsList l items)(hn:items.size<=sizeLine)(S:Addr)(hS:s.heap.get? S=some { cls:=.type "list",data:=.seq #[] })(hSl:S≠l)(hSI:S≠it)
  (hR:∀ h' tk acc' c',(∀ b o,b≠S->b≠it->s.heap.get? b=some o->h'.get? b=some o)->h'.get? S=some { cls:=.type "list",dict:=none,data:=.seq acc' c',slots := #[] }->ItemsOf (fun i v=>items[items.size - 1 - i]?=some v) acc' items.size->R (.ok (.ret .none)) { s with heap:=h',toks:=tk }) :
  wpAny (model prog w) A.in1 (Builtin.«list.__init__» ⟨[.ref S,.ref it],[]⟩)
   (fun fin s'=>match fin with | .done f=>R (.ok f) s' | .again c'=>c'.quiet=true/\codeAny (model prog w) A c' R s') (fun e s'=>R (.error e) s') s:=by
 show wpAny _ _ (do let old ← Builtin.List.listItems (.ref S);Builtin.List.listUpdate (.ref S) (fun _ => #[]);letGo old.toList.reverse;Builtin.List.listExtendWith (.ref S) (.ref it) .none) _ _ s
 refine wpAny_bind ?_;unfold Builtin.List.listItems;refine wpAny_bind (wpAny_seqItems hS rfl (wpAny_pure ?_))
 show wpAny _ _ (updateSeq S (fun _ => #[]) >>= fun _=>letGo (#[]:Array Value).toList.reverse >>= fun _=>Builtin.List.listExtendWith (.ref S) (.ref it) .none) _ _ s
 refine wpAny_bind (wpAny_updateSeq hS rfl ?_);have hS₂:=Heap.get?_update_self (Obj.mapSeq (fun _=>(#[]:Array Value))) hS rfl
 have oth:∀ b o,b≠S->s.heap.get? b=some o->(s.heap.update S (Obj.mapSeq (fun _=>(#[]:Array Value)))).get? b=some o:=
  fun b o hb e=>(Heap.get?_update_other _ _ (Ne.symm hb)).trans e
 refine wpAny_bind (wpAny_letGo ?_)
 have hl':(s.heap.update S (Obj.mapSeq (fun _=>(#[]:Array Value)))).IsList l items:=by
  obtain⟨o,ho,r⟩:=hl;exact⟨o,oth l o (Ne.symm hSl) ho,r⟩
 refine qY hh hne (oth it _ (Ne.symm hSI) hit) hl' hn S .none _ hS₂ hSl fun h' tk acc' c' hk hS' hacc => ?_
 exact hR h' tk acc' c' (fun b o hb hb' e=>hk b o hb hb' (oth b o hb e)) hS' hacc
theorem lY{Q:Value->Shared->Prop}{it l:Addr}{items:Array Value}(hh:A.handled=none)(hne:it≠l)(hit:ik s.heap it l ((items.size:Int) - 1))(hl:s.heap.IsList l items)(hn:items.size<=sizeLine)
  (hQ:∀ h' tk acc' c',(∀ b o,b≠it->s.heap.get? b=some o->h'.get? b=some o)->h'.get? s.heap.objs.size=some { cls:=.type "list",dict:=none,data:=.seq acc' c',slots := #[] }->ItemsOf (fun i v=>items[items.size - 1 - i]?=some v) acc' items.size->Q (.ref s.heap.objs.size) { s with heap:=h',toks:=tk }) :
  wpAny (model prog w) A (call (.type "list") [.ref it]) Q E s:=by
 have SG:s.heap.objs.size≠it:=fun e=>Nat.lt_irrefl _ (e▸Heap.lt_size hit)
 have hLt:s.heap.objs.size≠l:=fun e=>by obtain⟨o,ho,_⟩:=hl;exact Nat.lt_irrefl _ (e▸Heap.lt_size ho)
 refine callType_codes (Q₁:=fun obj s₁=>obj=.ref s.heap.objs.size/\s₁={ s with heap:=s.heap.push { cls:=.type "list",data:=.seq #[] } }) F.called_list (F.typeCall_list_1 _) F.entry_list_init
  (code_list_new _ ⟨rfl,rfl⟩) fun obj s₁ h₁ => ?_
 obtain⟨rfl,rfl⟩:=h₁;have hS:(s.heap.push { cls:=.type "list",data:=.seq #[] }).get? s.heap.objs.size=some { cls:=.type "list",data:=.seq #[] }:=Heap.get?_push_size _ rfl;refine⟨⟨_,hS,rfl⟩,F.args_list_init_2 _ _,wH (A:=A.in1) (s:={ s with heap:=s.heap.push { cls:=.type "list",data:=.seq #[] } }) (show A.in1.handled=none from hh) hne (Heap.get?_push_of_some _ hit) (hl.push _) hn _ hS hLt SG fun h' tk acc' c' hk hS' hacc => ?_⟩
 exact⟨rfl,hQ h' tk acc' c' (fun b o hb e=>hk b o (fun z=>absurd (Heap.lt_size e) (by rw[z];exact Nat.lt_irrefl _)) hb (Heap.get?_push_of_some _ e)) hS' hacc⟩
end
end Mir
namespace Mir
open PySem PySem.Spec PyProof.Rows L2
open AutoSeq1 (wpAny_loadPart')
theorem nI:isSubtype (.type "reversed") (.type "reversed")=pure true:=by rw[isSubtype_type];kernel_rfl
theorem pf:isSubtype (.type "list_reverseiterator") (.type "reversed")=pure false:=by rw[isSubtype_type];kernel_rfl
theorem mro_reversed:mroOf (.type "reversed")=pure [.type "reversed",.type "object"]:=by rw[mroOf_type];kernel_rfl
theorem lookup_reversed_new:typeLookup (.type "reversed") "__new__"=pure (some (.builtin "reversed.__new__")):=by rw[typeLookup_type,builtinLookup_eq_fast];kernel_rfl
theorem made_reversed:Bind.madeBy (.type "reversed")=pure (some "reversed.__new__"):=madeBy_type mro_reversed lookup_reversed_new (by decide +kernel)
theorem iO(a:Value):checkTypeCall "reversed" ⟨[a],[]⟩=pure ():=by kernel_rfl
theorem jg(a:Value):checkBuiltinCall "reversed.__new__" ⟨[.type "reversed",a],[]⟩=pure ():=by kernel_rfl
theorem entry_reversed_new:entryFor table "reversed.__new__"=some Builtin.«reversed.__new__» := entryFor_of_tree (by kernel_rfl)
theorem plain_reversed_new:plainId "reversed.__new__"=true:=by decide +kernel
section
variable{prog:Program}{w:World}{A:Around}{E:Value->Shared->Prop}{s:Shared}
theorem code_reversed_new{l:Addr}{items:Array Value}{n:Nat}{Q₁:Value->Shared->Prop}(hl:s.heap.get? l=some { cls:=.type "list",dict:=none,data:=.seq items n,slots := #[] })
  (h:Q₁ (.ref s.heap.objs.size) { s with heap:=s.heap.push { cls:=.type "list_reverseiterator",data:=.fields #[.ref l,rawInt ((items.size:Int) - 1)] } }) :
  codeAny (model prog w) A (.call (.builtin "reversed.__new__") ⟨[.type "reversed",.ref l],[]⟩) (wants Q₁ E) s:=by
 refine codeAny_of_tree ?_
 show wpAny _ A.in1 (do checkBuiltinCall "reversed.__new__" ⟨[.type "reversed",.ref l],[]⟩;again (.builtin "reversed.__new__" ⟨[.type "reversed",.ref l],[]⟩)) _ _ s
 refine wpAny_bind (wpAny_of_eq (jg _) (wpAny_pure ⟨plainId_quiet plain_reversed_new _,codeAny_builtin entry_reversed_new ?_⟩));rw[Around.under_plainId plain_reversed_new _];have hsub:=nI;have hT:s.TypeIs (.ref l) "list":=⟨_,hl,rfl⟩;have hlk:=PySem.F.slot_list_reversed.lookup;have hbd:=PySem.F.slot_list_reversed.bind (.ref l);obtain⟨hp,g,d,tk,os⟩:=s
 wp_walk
 refine codeAny_mono (codeAny_call_builtin (R:=wants (fun v s'=>Q₁ v s') E) PySem.F.slot_list_reversed.plain PySem.F.entry_list_reversed (PySem.F.slot_list_reversed.check _ _ _ _ _ _ _ _ hT (PySem.F.args_list_reversed_1 _) (AutoListH.list___reversed___list_0 l items n prog w _ (wants (fun v s'=>Q₁ v s') E) _ ⟨hl,h⟩))) fun r s' hr => ?_
 cases r with
 | error e=>exact hr
 | ok fl=>
  cases fl with
  | ret v=>exact wpAny_pure hr
  | _=>exact hr.elim
theorem lZ{l:Addr}{items:Array Value}{n:Nat}{Q:Value->Shared->Prop}(hl:s.heap.get? l=some { cls:=.type "list",dict:=none,data:=.seq items n,slots := #[] })
  (h:Q (.ref s.heap.objs.size) { s with heap:=s.heap.push { cls:=.type "list_reverseiterator",data:=.fields #[.ref l,rawInt ((items.size:Int) - 1)] } }) :
  wpAny (model prog w) A (call (.type "reversed") [.ref l]) Q E s:=by
 have hmro:=mro_reversed;have hmade:=made_reversed;have hct:=iO (.ref l);refine wpAny_call (codeAny_of_tree ?_)
 show wpAny _ _ (callAny (.type "reversed") _) _ _ _
 refine wpAny_pure ⟨Code.quiet_builtin _ (by decide +kernel),codeAny_builtin F.entry_type_call ?_⟩
 rw[Around.under_plain (weight_type_call_type "reversed" [.ref l] []) rfl];have h1:(Value.type "reversed" == Value.type "type")=false:=by decide +kernel
 have h2:((Manifest.find? "reversed").bind (·.mro.findSome? fun t=>(Manifest.find? t).bind fun b=>if b.noNew then some true else if b.attrs.any (·.1 == "__new__") then some false else none)).getD false=false:=by decide +kernel
 repeat (any_goals (first | assumption | wp_step))
 refine codeAny_mono (code_reversed_new (E:=E) (Q₁:=fun v s'=>v=.ref s.heap.objs.size/\s'={ s with heap:=s.heap.push { cls:=.type "list_reverseiterator",data:=.fields #[.ref l,rawInt ((items.size:Int) - 1)] } }) hl ⟨rfl,rfl⟩) fun r s' hr => ?_
 cases r with
 | error e=>exact hr
 | ok fl=>
  cases fl with
  | ret v=>
   obtain⟨rfl,rfl⟩:=hr;refine wpAny_bind (wpAny_isInstance (T:="list_reverseiterator") (b:=false) ⟨_,Heap.get?_push_size _ rfl,rfl⟩ pf ?_);refine wpAny_ite_split (fun _=>wpAny_bind (wpAny_rule (wpAny_pure h))) (fun hab=>absurd rfl hab)
  | _=>exact hr.elim
end
end Mir
namespace Mir
open PySem PySem.Spec PyProof.Rows L2
def SH(te:TE)(K:PySem.W.Frag):TE:=fun σ H Q=>te σ H fun x H1=>∃ l xs,x=.ref l/\Rd H1 l (.lst xs)/\∀ p,H1 p=none->Q (.ref p) (upd H1 p (.lst xs.reverse))
theorem qZ{X:Cx}{e:Expr}{te:TE}{p p' pos pos':Pos}(hc:X.calm=true)(hg:Gl X "list")(hm:X.mg "list"=none)(hg':Gl X "reversed")(hm':X.mg "reversed"=none)(hs:starEach [e] X.env=[(false,eval e X.env)])(he:PE X e te) :
  PE X (.Call (.Name "list" p) [.Call (.Name "reversed" p') [e] [] pos'] [] pos) (SH te X.K):=by
 intro pins s σ H Q I h;refine wpAny_Call_Name_kw (fL I hg hm boot_list ?_ (by decide) (by decide))
 refine PyProof.Rows.callWith_type1 ?_ rfl rfl
 show wpAny _ _ (spliced ((false,eval (.Call (.Name "reversed" p') [e] [] pos') X.env)::backTo pos (starEach [] X.env))) _ _ s
 refine Calls.spliced_cons ?_;refine wpAny_Call_Name_kw (fL I hg' hm' boot_reversed ?_ (by decide) (by decide))
 refine PyProof.Rows.callWith_type1 (cz (c9 he iu hs pos' pins s σ H (fun vs H1=>match vs with | [x]=>(∃ l xs,x=V.ref l/\Rd H1 l (.lst xs)/\∀ p,H1 p=none->Q (.ref p) (upd H1 p (.lst xs.reverse))) | _=>False) I h) fun us s1 ⟨vs,H1,I1,r1,q1⟩ => ?_) hs rfl
 match vs,q1,r1 with
 | [x],q1,r1=>
  obtain⟨l,xs,rfl,hR,q⟩:=q1;obtain⟨u,rfl,ru⟩:=r1.one;cases ru;obtain⟨its,rv,pl,hz⟩:=I1.list (jc (K:=X.K) hR);obtain⟨z,its',n,r',eo⟩:xs.length<=sizeLine/\∃ (its:List Value) (n:Nat),Vals xs its/\s1.heap.get? l=some { cls:=.type "list",data:=.seq its.toArray n }:=Rd.ok hR I1.hok;have hl':=r'.length;refine lZ eo ?_;refine Calls.spliced_nil ?_;have hll:l < s1.heap.objs.size:=Heap.lt_size eo;have SI:=Heap.get?_push_of_some { cls:=.type "list_reverseiterator",data:=.fields #[.ref l,rawInt ((its'.toArray.size:Int) - 1)] } eo;refine lY (I1.ok.hd hc) (Nat.ne_of_gt hll) (Heap.get?_push_size _ rfl) ⟨_,SI,rfl,n,rfl⟩ (by rw[List.size_toArray];omega) fun h' tk acc' c' kp new io => ?_
  obtain⟨i1,i2⟩:=io;have Vx:acc'.size=its'.length:=i1.trans List.size_toArray
  have hacc:acc'=its'.reverse.toArray:=by
   apply Array.ext';apply List.ext_getElem?;intro j
   by_cases hj:j < acc'.size
   ·have e1:=i2 j acc'[j] (by rw[Array.getElem?_eq_getElem hj])
    rw[List.size_toArray]at e1;rw[Array.getElem?_toList,Array.getElem?_eq_getElem hj,← e1,List.getElem?_toArray];simp;rw[List.getElem?_reverse (by omega)]
   ·rw[List.getElem?_eq_none (by simp;omega),List.getElem?_eq_none (by simp;omega)]
  have I2:L2.Inv X pins σ H1 { s1 with heap:=s1.heap.push { cls:=.type "list_reverseiterator",data:=.fields #[.ref l,rawInt ((its'.toArray.size:Int) - 1)] } }:=I1.kept (t':=s1.toks) fun b o e=>Heap.get?_push_of_some _ e
  subst hacc;have hfr:H1 (s1.heap.push { cls:=.type "list_reverseiterator",data:=.fields #[.ref l,rawInt ((its'.toArray.size:Int) - 1)] }).objs.size=none:=I2.hok.fresh (Nat.le_refl _);refine⟨.ref _,upd H1 _ (.lst xs.reverse),?_,rfl,q _ hfr⟩
  have Gr:cL X.prog X.w (upd H1 (s1.heap.push { cls:=.type "list_reverseiterator",data:=.fields #[.ref l,rawInt ((its'.toArray.size:Int) - 1)] }).objs.size (.lst xs.reverse)) h' (s1.heap.push { cls:=.type "list_reverseiterator",data:=.fields #[.ref l,rawInt ((its'.toArray.size:Int) - 1)] }).objs.size (.lst xs.reverse):=
   ⟨by rw[List.length_reverse];exact z,its'.reverse,c',r'.reverse,new⟩
  exact gw (s:={ s1 with heap:=s1.heap.push { cls:=.type "list_reverseiterator",data:=.fields #[.ref l,rawInt ((its'.toArray.size:Int) - 1)] } }) (fp:=[s1.heap.objs.size]) (t':=tk) I2 (fun b hb=>by
   have e:b=s1.heap.objs.size:=by simpa using hb
   subst e;exact I1.vo (Nat.le_refl _) (I1.hok.fresh (Nat.le_refl _))) (fun b o hb e=>kp b o (fun z=>hb (by simp[z])) e) (Nat.le_refl _) Gr
def eg(val:Nat->Str)(i:Nat):List Str:=((List.range i).map val).foldl ie []
theorem jh(val:Nat->Str)(i:Nat):eg val (i + 1)=ie (eg val i) (val i):=by
 unfold eg;rw[List.range_succ,List.map_append,List.foldl_append];rfl
theorem mE(σ:List Str)(x:Str):(ie σ x).length=if decide (x∈σ)=true then σ.length else σ.length + 1:=by
 unfold ie
 by_cases h:x∈σ<;>simp[h]
theorem uy(σ:List Str)(x y:Str):y∈ie σ x↔y∈σ\/y=x:=by
 unfold ie;split
 ·rename_i h
  exact⟨.inl,fun q=>q.elim id fun e=>e▸h⟩
 ·simp
theorem sS(val:Nat->Str):∀ i,(eg val i).length<=i
 | 0=>by simp[eg]
 | i + 1=>by
  have:=sS val i;rw[jh,mE];split<;>omega
noncomputable def uA(σ:List Str):Key->Bool
 | .inr x=>decide (x∈σ)
 | .inl _=>false
section
variable{prog:Program}{w:World}{A:Around}{R:Result->Shared->Prop}{I:Addr}{fp wr:List Addr}{G:Array GenState->Array GenState->Prop}{n:Nat}{P:Nat->Value->Prop}{St:Nat->Shared->Prop}
theorem pj{h h':Heap}{a:Addr}{σ:Key->Bool}{m:Nat}(hS:h.SetOf (cK prog w) a σ m)(k:∀ o,h.get? a=some o->h'.get? a=some o):h'.SetOf (cK prog w) a σ m:=by
 obtain⟨o,es,ep,t,ho,rest⟩:=hS;exact⟨o,es,ep,t,k _ ho,rest⟩
theorem wJ(W:WalksS prog w A.in1 I fp wr G n P St)(S:Addr)(hSf:S∉fp)(val:Nat->Str)(hval:∀ i v,P i v->∃ t,v=.str (val i) t)(hb:n + 1 < scanBound) :
  ∀ (k i:Nat) (s:Shared),n - i=k->i<=n->St i s->s.heap.SetOf (cK prog w) S (uA (eg val i)) (eg val i).length ->
   (∀ s',Moved (S::wr) G s s'->s'.heap.SetOf (cK prog w) S (uA (eg val n)) (eg val n).length->R (.ok (.ret .none)) s') ->
   codeAny (model prog w) A (.builtin "set.update.loop" ⟨[.ref S,.ref I],[]⟩) R s:=by
 have hSw:S∉wr:=fun h=>hSf (W.sub _ h)
 have hsub:∀ b∈wr,b∈S::wr:=fun b hb=>List.mem_cons_of_mem _ hb
 intro k
 induction k with
 | zero=>
  intro i s hk hi hst hS hR;obtain rfl:i=n:=by omega
  refine codeAny_builtin PyProof.Rows.F.entry_set_update_loop ?_;rw[Around.under_plainId PyProof.Rows.F.plain_set_update_loop _]
  show wpAny _ A.in1 (pyNext (.ref I) >>= _) _ _ s
  refine wpAny_bind (W.done s _ _ hst fun s' hm => ?_)
  exact wpAny_pure (hR s' (hm.mono hsub) (pj hS fun o ho=>hm.heap S _ hSw ho))
 | succ k ih=>
  intro i s hk hi hst hS hR;have hlt:i < n:=by omega
  refine codeAny_builtin PyProof.Rows.F.entry_set_update_loop ?_;rw[Around.under_plainId PyProof.Rows.F.plain_set_update_loop _]
  show wpAny _ A.in1 (pyNext (.ref I) >>= _) _ _ s
  refine wpAny_bind (W.item i s _ _ hlt hst fun v s' hP hst' hm => ?_)
  obtain⟨t,rfl⟩:=hval i v hP;have hS':=pj hS fun o ho=>hm.heap S _ hSw ho
  show wpAny _ A.in1 (holding [Value.str (val i) t] (setAdd S (.str (val i) t)) >>= _) _ _ s'
  refine wpAny_bind (wpAny_holding ?_);unfold setAdd;refine wpAny_holding ?_;refine wpAny_bind ((cK prog w).pyHash (k:=.inr (val i)) (jr _ _ _ _) ?_);have hroom:(eg val i).length + 1 < scanBound:=by have:=sS val i;omega
  refine wpAny_setAddHashed_of (knd:=cK prog w) (s:={ s' with toks:=s'.toks + 1 }) (jr _ _ _ _) rfl hS' hroom fun h' hsb hS2 => ?_
  have hSi:h'.SetOf (cK prog w) S (uA (eg val (i + 1))) (eg val (i + 1)).length:=by
   have e1:uA (eg val (i + 1))=fun k'=>uA (eg val i) k' || decide (k'=Sum.inr (val i)):=by
    funext k'
    rw[jh];cases k' with
    | inl z=>simp[uA]
    | inr y=>
     simp only[uA]
     by_cases h1:y∈eg val i<;>by_cases h2:y=val i<;>simp[uy,h1,h2]
   have e2:(eg val (i + 1)).length=if uA (eg val i) (Sum.inr (val i))=true then (eg val i).length else (eg val i).length + 1:=by rw[jh,mE];rfl
   rw[e1,e2];exact hS2
  refine wpAny_pure ⟨plainId_quiet PyProof.Rows.F.plain_set_update_loop _,ih (i + 1) _ (by omega) hlt (W.frame _ s' _ _ hst' (Nat.le_succ _) fun b hb o e => ?_) hSi fun s'' hm'' hS'' => ?_⟩
  ·exact(hsb.2 b fun h=>hSf (h▸hb)).trans e
  ·refine hR s'' (Moved.trans W.gtrans ((hm.mono hsub).then_heap (Nat.le_succ _) fun b o hb e => ?_) hm'') hS''
   exact(hsb.2 b fun h=>hb (h▸List.mem_cons_self)).trans e
end
noncomputable def uB(led:Bool):Obj:={ cls:=.type "set",dict:=none,data:=.set #[] 0 (.fresh 0 0 led) }
section
variable{prog:Program}{w:World}{A:Around}{E:Value->Shared->Prop}{s:Shared}
theorem sT:∀ {vs:List Value} {xs:List Str},StrsAre vs xs->∀ (i:Nat) (v:Value),vs[i]?=some v->∃ t,v=.str (xs.getD i "") t
 | _,_,.nil,i,v,h=>by simp at h
 | _,_,.cons y t r,0,v,h=>by simp at h;exact⟨t,h.symm⟩
 | _,_,.cons y t r,i + 1,v,h=>by
  simp at h;obtain⟨t',e⟩:=sT r i v h;exact⟨t',by simpa using e⟩
theorem zw{h:Heap}{S:Addr}{led:Bool}(hS:h.get? S=some { cls:=.type "set",dict:=none,data:=.set #[] 0 (.fresh 0 0 led) }):h.SetOf (cK prog w) S (uA []) 0:=by
 have e:uA []=fun _=>false:=by funext k;cases k<;>simp[uA]
 rw[e];exact⟨_,#[],0,_,hS,⟨rfl,rfl,rfl⟩,rfl,fun e he=>by simp at he,fun k=>by simp,by simp[scanBound],by rfl,rfl⟩
theorem wK{l:Addr}{items:Array Value}{xs:List Str}{led:Bool}{S:Addr}{R:Result->Shared->Prop}(hh:A.handled=none)(hl:s.heap.IsList l items)(hi:StrsAre items.toList xs)(hb:items.size + 1 < scanBound)(hS:s.heap.get? S=some (uB led))(hSl:S≠l)
  (hR:∀ (h':Heap) (tk:Nat),h'.SetOf (cK prog w) S (uA (eg (fun i=>xs.getD i "") items.size)) (eg (fun i=>xs.getD i "") items.size).length->(∀ b o,b≠S->s.heap.get? b=some o->h'.get? b=some o)->R (.ok (.ret .none)) { s with heap:=h',toks:=tk }) :
  wpAny (model prog w) A.in1 (Builtin.«set.__init__» ⟨[.ref S,.ref l],[]⟩)
   (fun fin s'=>match fin with | .done f=>R (.ok f) s' | .again c'=>c'.quiet=true/\codeAny (model prog w) A c' R s') (fun e s'=>R (.error e) s') s:=by
 obtain⟨ol,hol,hcl,nl,hdl⟩:=id hl;obtain⟨ocls,odict,odata,oslots⟩:=ol;simp only at hcl hdl;subst hcl;subst hdl
 have hT:s.TypeIs (.ref S) "set":=⟨_,hS,rfl⟩;have hS':s.heap.get? S=some { cls:=.type "set",dict:=none,data:=.set #[] 0 (.fresh 0 0 led) }:=hS;have hsls:=PySem.F.sub_list_set;have hslf:=PySem.F.sub_list_frozenset;have hne:(Value.type "list" == Value.type "dict")=false:=by decide
 unfold Builtin.«set.__init__» noKeywords Builtin.Frozenset.updateFrom;generalize hPI:pyIter=PI
 wp_walk
 subst hPI;refine wpAny_pyIter_list hl ?_;refine wpAny_bind (wpAny_runValue ?_);have hlt:l < s.heap.objs.size:=Heap.lt_size hol;have hSlt:S < s.heap.objs.size:=Heap.lt_size hS
 have hSf:S∉[s.heap.objs.size,l]:=fun hm=>by
  rcases List.mem_cons.mp hm with e | e
  ·exact Nat.ne_of_lt hSlt e
  ·exact hSl (by simpa using e)
 have hval:∀ (i:Nat) (v:Value),items[i]?=some v->∃ t,v=.str ((fun i=>xs.getD i "") i) t:=fun i v hv=>sT hi i v (by rw[Array.getElem?_toList];exact hv)
 refine wJ ((Walks.list (A:=A.in1.in1) hh _ l (Nat.ne_of_lt hlt) items).toS) S hSf (fun i=>xs.getD i "") hval hb (items.size - 0) 0 _ (by omega) (Nat.zero_le _)
  ⟨⟨_,Heap.get?_push_size _ rfl,rfl,rfl⟩,hl.push _⟩ ?hS0 ?hR
 case hS0=>exact zw (Heap.get?_push_of_some _ hS')
 case hR=>
  intro s' hm uC;rw[Moved.eq_with hm];refine wpAny_pure ?_
  show wpAny _ _ (ret Value.none) _ _ _
  refine wpAny_pure (hR s'.heap s'.toks uC fun b o hb e => ?_)
  refine hm.heap b o (fun hmem => ?_) (Heap.get?_push_of_some _ e)
  rcases List.mem_cons.mp hmem with e' | hmem
  ·exact hb e'
  ·exact absurd (Heap.lt_size e) (by rw[show b=s.heap.objs.size by simpa using hmem];exact Nat.lt_irrefl _)
theorem l0{l:Addr}{items:Array Value}{xs:List Str}{Q:Value->Shared->Prop}(hh:A.handled=none)(hl:s.heap.IsList l items)(hi:StrsAre items.toList xs)(hb:items.size + 1 < scanBound)
  (h:∀ (h':Heap) (tk:Nat),h'.SetOf (cK prog w) s.heap.objs.size (uA (eg (fun i=>xs.getD i "") items.size)) (eg (fun i=>xs.getD i "") items.size).length->(∀ b o,s.heap.get? b=some o->h'.get? b=some o)->Q (.ref s.heap.objs.size) { s with heap:=h',toks:=tk }) :
  wpAny (model prog w) A (call (.type "set") [.ref l]) Q E s:=by
 obtain⟨c,tl,hmro⟩:=PySem.F.called_set.mro;have hmade:=PySem.F.called_set.made;have hsub:=PySem.F.called_set.sub;refine wpAny_call (codeAny_of_tree ?_)
 show wpAny _ _ (callAny (.type "set") _) _ _ _
 refine wpAny_pure ⟨Code.quiet_builtin _ (by decide +kernel),codeAny_builtin PySem.F.entry_type_call ?_⟩
 rw[Around.under_plain (weight_type_call_type "set" [.ref l] []) rfl];have h1:=PySem.F.called_set.notType;have h2:=PySem.F.called_set.canCreate;have hct:=PySem.F.typeCall_set_1 (.ref l)
 repeat (any_goals (first | assumption | wp_step))
 refine codeAny_mono (code_set_new_1 (.ref l) (E:=E) (Q₁:=fun obj s₁=>∃ led:Bool,obj=.ref s.heap.objs.size/\s₁={ s with heap:=s.heap.push (uB led) }) fun led=>⟨led,rfl,rfl⟩) fun r s₁ hr => ?_
 cases r with
 | error e=>exact hr
 | ok fl=>
  cases fl with
  | ret obj=>
   obtain⟨led,rfl,rfl⟩:=hr;have hS:(s.heap.push (uB led)).get? s.heap.objs.size=some (uB led):=Heap.get?_push_size _ rfl;have hT:Shared.TypeIs { s with heap:=s.heap.push (uB led) } (.ref s.heap.objs.size) "set":=⟨_,hS,rfl⟩;have hli:=PySem.F.called_set.init.lookup;have hbi:=PySem.F.called_set.init.bind (.ref s.heap.objs.size)
   repeat (any_goals (first | assumption | wp_step))
   have hlS:s.heap.objs.size≠l:=fun e=>by obtain⟨o,ho,_⟩:=hl;exact Nat.lt_irrefl _ (e▸Heap.lt_size ho)
   refine codeAny_mono (codeAny_call_builtin (R:=wants (fun r s₂=>r=.none/\Q (.ref s.heap.objs.size) s₂) E) PySem.F.called_set.init.plain PySem.F.entry_set_init (check_set_init_1 hT ?_)) fun r₂ s₂ hr₂ => ?_
   ·refine wK (led:=led) (A:=A.in1) (s:={ s with heap:=s.heap.push (uB led) }) (show A.in1.handled=none from hh) (hl.push _) hi hb hS hlS fun h' tk uC kp=>⟨rfl,h h' tk uC fun b o e=>kp b o (fun z=>absurd (Heap.lt_size e) (by rw[z];exact Nat.lt_irrefl _)) (Heap.get?_push_of_some _ e)⟩
   ·cases r₂ with
    | error e=>exact hr₂
    | ok fl₂=>
     cases fl₂ with
     | ret r=>
      obtain⟨rfl,hq⟩:=hr₂
      repeat (any_goals (first | assumption | wp_step))
     | _=>exact hr₂.elim
  | _=>exact hr.elim
end
def SJ(te:TE):TE:=fun σ H Q=>te σ H fun x H1=>∃ Z ds xs,Now Z H1 (.lst ds) x/\dv ds=some xs/\xs.length<=1000/\Q (.int (unlike xs)) H1
theorem pk:∀ {vs:List Value} {xs:List Str},StrsAre vs xs->vs.length=xs.length
 | _,_,.nil=>rfl
 | _,_,.cons _ _ r=>by rw[List.length_cons,List.length_cons,pk r]
theorem zx(xs:List Str):eg (fun i=>xs.getD i "") xs.length=xs.foldl ie []:=by
 unfold eg
 congr 1
 apply List.ext_getElem?;intro i
 by_cases h:i < xs.length
 ·simp[h]
 ·rw[List.getElem?_eq_none (by simpa using h),List.getElem?_eq_none (by omega)]
theorem uD{X:Cx}{e:Expr}{te:TE}{p p' pos pos':Pos}(hc:X.calm=true)(hg:Gl X "len")(hm:X.mg "len"=none)(hg':Gl X "set")(hm':X.mg "set"=none)(hs:starEach [e] X.env=[(false,eval e X.env)])(he:PE X e te) :
  PE X (.Call (.Name "len" p) [.Call (.Name "set" p') [e] [] pos'] [] pos) (SJ te):=by
 intro pins s σ H Q I h;refine wpAny_Call_Name_kw (fL I hg hm boot_len ?_ (by decide) (by decide))
 refine Calls.callWith_builtin rfl (Calls.evalArgs_plain ?_)
 show wpAny _ _ (spliced ((false,eval (.Call (.Name "set" p') [e] [] pos') X.env)::backTo pos (starEach [] X.env))) _ _ s
 refine Calls.spliced_cons ?_;refine wpAny_Call_Name_kw (fL I hg' hm' boot_set ?_ (by decide) (by decide))
 refine PyProof.Rows.callWith_type1 (cz (c9 he iu hs pos' pins s σ H (fun vs H1=>match vs with | [x]=>(∃ Z ds xs,Now Z H1 (.lst ds) x/\dv ds=some xs/\xs.length<=1000/\Q (.int (unlike xs)) H1) | _=>False) I h) fun us s1 ⟨vs,H1,I1,r1,q1⟩ => ?_) hs rfl
 match vs,q1,r1 with
 | [x],q1,r1=>
  obtain⟨Z,ds,xs,n1,hst,hle,q⟩:=q1;obtain⟨l,ws,rfl,hR,hrep⟩:=cM n1;obtain⟨u,rfl,ru⟩:=r1.one;cases ru;obtain⟨its,rv,pl,hz⟩:=I1.list (jc (K:=X.K) hR);have Qn:StrsAre its xs:=nH hst hrep rv;have hl:=pk Qn;have hsz:its.toArray.size=xs.length:=by rw[List.size_toArray];exact hl
  refine l0 (I1.ok.hd hc) pl.isList (by simpa using Qn) (by rw[hsz];unfold scanBound;omega) fun h' tk uC kp => ?_
  refine Calls.spliced_nil ?_;rw[hsz,zx]at uC;obtain⟨o,es,ep,t,ho,hex,hd,hel,hmem,hb,hf,hn⟩:=uC;have hu:es.size=unlike xs:=hn;have I2:L2.Inv X pins σ H1 { s1 with heap:=h',toks:=tk }:=I1.kept (t':=tk) kp;refine call_len_set (s:={ s1 with heap:=h',toks:=tk }) ho hex hd hf ?_ ⟨.int (unlike xs),H1,I2.tok _,⟨_,by rw[hu]⟩,q⟩
  have:es.size < 4096:=hb;omega
section
variable{prog:Program}{w:World}{A:Around}{E:Value->Shared->Prop}{s:Shared}
theorem q_{it t:Addr}{i:Nat}{items:Array Value}{x:Value}{Q:Value->Shared->Prop}(hit:s.heap.IsTupleIter it t i)(ht:s.heap.IsTuple t items)(hx:items[i]?=some x)
  (hQ:∀ h',h'.IsTupleIter it t (i + 1)->Heap.SameBut it s.heap h'->Q x { s with heap:=h' }):wpAny (model prog w) A (Builtin.SmallTypes.nextOf (.ref it)) Q E s:=by
 obtain⟨o,ho,hc,hd⟩:=id hit;obtain⟨ol,hol,_,nl,hdl⟩:=ht;unfold Builtin.SmallTypes.nextOf
 refine wpAny_bind (wpAny_callSpecial?_slot (name:=Str.ofString "__next__") hit.typeIs F.slot_tuple_iterator_next
  (wpAny_call_entry F.slot_tuple_iterator_next hit.typeIs F.entry_tuple_iterator_next ?_ (F.args_tuple_iterator_next_1 _)))
 show wpAny _ _ (field (.ref it) 0 >>= _) _ _ s
 refine wpAny_bind (wpAny_field ho hd (x:=.ref t) rfl ?_)
 show wpAny _ _ (if (Value.ref t == Value.none)=true then _ else _) _ _ s
 rw[if_neg (show ¬ ((Value.ref t == Value.none)=true) from Bool.false_ne_true)]
 show wpAny _ _ (field (.ref it) 1 >>= _) _ _ s
 refine wpAny_bind (wpAny_field ho hd (x:=.int i 0) rfl ?_)
 show wpAny _ _ (seqItems? (.ref t) >>= _) _ _ s
 refine wpAny_bind (wpAny_seqItems hol hdl ?_);simp only[Int.toNat_natCast,hx];refine wpAny_bind (wpAny_setField ho hd (by simp) (wpAny_pure ⟨x,rfl,wpAny_pure (hQ _ ?_ (Heap.SameBut.update ..))⟩))
 exact⟨_,Heap.get?_update_self _ ho (Obj.isFreed_of_fields (Obj.data_mapFields hd _)),(Obj.cls_mapFields ..).trans hc,by
  rw[Obj.data_mapFields hd];simp[rawInt]⟩
theorem mF{it t:Addr}{i:Nat}{items:Array Value}{Q:Value->Shared->Prop}(hh:A.handled=none)(hit:s.heap.IsTupleIter it t i)(ht:s.heap.IsTuple t items)(hx:items[i]?=none)
  (hE:∀ h' e,Heap.ExtBut it s.heap h'->(∃ o,h'.get? e=some o/\o.cls=.type "StopIteration")->E (.ref e) { s with heap:=h' }):wpAny (model prog w) A (Builtin.SmallTypes.nextOf (.ref it)) Q E s:=by
 obtain⟨o,ho,hc,hd⟩:=id hit;obtain⟨ol,hol,_,nl,hdl⟩:=ht;unfold Builtin.SmallTypes.nextOf
 refine wpAny_bind (wpAny_callSpecial?_slot (name:=Str.ofString "__next__") hit.typeIs F.slot_tuple_iterator_next
  (wpAny_call_entry F.slot_tuple_iterator_next hit.typeIs F.entry_tuple_iterator_next ?_ (F.args_tuple_iterator_next_1 _)))
 show wpAny _ _ (field (.ref it) 0 >>= _) _ _ s
 refine wpAny_bind (wpAny_field ho hd (x:=.ref t) rfl ?_)
 show wpAny _ _ (if (Value.ref t == Value.none)=true then _ else _) _ _ s
 rw[if_neg (show ¬ ((Value.ref t == Value.none)=true) from Bool.false_ne_true)]
 show wpAny _ _ (field (.ref it) 1 >>= _) _ _ s
 refine wpAny_bind (wpAny_field ho hd (x:=.int i 0) rfl ?_)
 show wpAny _ _ (seqItems? (.ref t) >>= _) _ _ s
 refine wpAny_bind (wpAny_seqItems hol hdl ?_);simp only[Int.toNat_natCast,hx];refine wpAny_bind (wpAny_rule (wpAny_bind (wpAny_setField ho hd (by simp) ?_)))
 show wpAny _ _ (newExc (.type "StopIteration") [] >>= _) _ _ _
 refine wpAny_bind ?_;simp only[newExc,newTuple];refine wpAny_bind (wpAny_newObj_type ?_ (by size_fits))
 refine wpAny_bind (m:=firstArgMember _ _) (wpAny_of_eq (a:=Value.none) (by first | rfl | (simp only[firstArgMember];rfl)) ?_)
 refine wpAny_newObj_type ?_ (by size_fits)
 simp only[raiseNew];refine wpAny_bind (wpAny_handled ?_)
 first | rw[show A.in1.handled=none from hh] | rw[hh]
 refine wpAny_bind (wpAny_pure (wpAny_throw ?_));exact hE _ _ (((Heap.SameBut.update ..).extBut.push _).push _) ⟨_,Heap.get?_push_size _ rfl,rfl⟩
end
theorem CU{prog:Program}{w:World}{A:Around}(hh:A.handled=none)(it l:Addr)(hne:l≠it)(items:Array Value) :
  Draws prog w A it [it,l] items.size (fun i v=>items[i]?=some v) (fun i h=>h.IsTupleIter it l i/\h.IsTuple l items) where
 live:=fun _ _ st=>let ⟨o,ho,_⟩:=st.1;⟨o,ho⟩
 frame:=fun _ _ _ st hk=>⟨let ⟨o,ho,r⟩:=st.1;⟨o,hk it (by simp) o ho,r⟩,let ⟨o,ho,r⟩:=st.2;⟨o,hk l (by simp) o ho,r⟩⟩
 item:=fun i s Q E hi st hQ=>by
  refine q_ st.1 st.2 (x:=items[i]) (by simp[hi]) fun h' hit' hs' => ?_
  exact hQ _ h' s.toks (by simp[hi]) ⟨hit',st.2.extBut hs'.extBut hne⟩ hs'
 done:=fun s Q E st hE=>mF hh st.1 st.2 (by simp) hE
open AutoSeq1 (wpAny_loadPart') in
theorem pq(l:Addr)(items:Array Value)(n:Nat)(dct:Option Addr)(sl:Array (Option Value)) :
  Meets (Builtin.«enumerate.__new__» ⟨[.type "enumerate",.ref l],[]⟩) (fun _ R s=>s.heap.get? l=some { cls:=.type "tuple",dict:=dct,data:=.seq items n,slots:=sl } /\
   R (.ok (.ret (.ref (s.heap.push { cls:=.type "tuple_iterator",data:=.fields #[.ref l,.int 0 0] }).objs.size)))
    { s with heap:=(s.heap.push { cls:=.type "tuple_iterator",data:=.fields #[.ref l,.int 0 0] }).push { cls:=.type "enumerate",data:=.fields #[.none,.bool false,.ref s.heap.objs.size,rawInt 0,.none,.none] } }):=
 .of_wp fun prog w A R s h=>by
  obtain⟨hp,g,d,tk,os⟩:=s;obtain⟨hl,h⟩:=h
  have hsub:=sub_enumerate;have hL:Heap.IsTuple (Shared.heap ⟨hp,g,d,tk,os⟩) l items:=⟨_,hl,rfl,n,rfl⟩
  wp_walk using wpAny_loadPart' hl
  refine wpAny_stack_any fun st=>wpAny_pure ?_
  split
  ·rename_i c _ _ _ _ _
   cases (c == Value.type "enumerate")
   ·wp_walk using wpAny_loadPart' hl,wpAny_pyIter_tuple hL
    exact⟨_,rfl,h⟩
   ·wp_walk using wpAny_loadPart' hl,wpAny_pyIter_tuple hL
    exact⟨_,rfl,h⟩
  ·wp_walk using wpAny_loadPart' hl,wpAny_pyIter_tuple hL
   exact⟨_,rfl,h⟩
theorem rb{prog:Program}{w:World}{A:Around}{E:Value->Shared->Prop}{s:Shared}{l:Addr}{items:Array Value}{Q:Value->Shared->Prop}(hL:s.heap.IsTuple l items)
  (h:∀ h',IsEnum h' (s.heap.objs.size + 1) s.heap.objs.size 0 .none->h'.IsTupleIter s.heap.objs.size l 0->h'.objs.size=s.heap.objs.size + 2 ->
   (∀ b o,s.heap.get? b=some o->h'.get? b=some o)->Q (.ref (s.heap.objs.size + 1)) { s with heap:=h' }) :
  wpAny (model prog w) A (call (.type "enumerate") [.ref l]) Q E s:=by
 obtain⟨⟨c,dct,dt,sl⟩,hl,hc,n,hd⟩:=hL;replace hc:c=.type "tuple":=hc;replace hd:dt=.seq items n:=hd;subst hc hd
 refine callType_new F.called_enumerate (by decide) (F.typeCall_enumerate_1 _) (F.newCall_enumerate_1 _) (fun obj=>F.args_object_init_2 obj _) F.entry_enumerate_new
  (pq l items n dct sl) ⟨hl,?_⟩
 have hz:(s.heap.push { cls:=.type "tuple_iterator",data:=.fields #[.ref l,.int 0 0] }).objs.size=s.heap.objs.size + 1:=Heap.size_push ..
 show _/\_
 rw[hz]
 have he:IsEnum ((s.heap.push { cls:=.type "tuple_iterator",data:=.fields #[.ref l,.int 0 0] }).push
   { cls:=.type "enumerate",data:=.fields #[.none,.bool false,.ref s.heap.objs.size,rawInt 0,.none,.none] }) (s.heap.objs.size + 1) s.heap.objs.size 0 .none:=by
  have:=Heap.get?_push_size (s.heap.push { cls:=.type "tuple_iterator",data:=.fields #[.ref l,.int 0 0] })
   (o:={ cls:=.type "enumerate",data:=.fields #[.none,.bool false,.ref s.heap.objs.size,rawInt 0,.none,.none] }) rfl
  rw[hz]at this;exact this
 refine⟨⟨_,he,rfl⟩,h _ he ⟨_,Heap.get?_push_of_some _ (Heap.get?_push_size _ rfl),rfl,rfl⟩ (by rw[Heap.size_push,hz]) fun b o x=>Heap.get?_push_of_some _ (Heap.get?_push_of_some _ x)⟩
theorem uE{prog:Program}{w:World}{A:Around}{E:Value->Shared->Prop}{s:Shared}{e it l:Addr}{i:Nat}{items:Array Value}{old:Value}{Q:Option Value->Shared->Prop}(hh:A.handled=none)
  (he:IsEnum s.heap e it i old) (hit:s.heap.IsTupleIter it l i) (hl:s.heap.IsTuple l items) (hx:items[i]?=none)
  (hQ:∀ h',Heap.ExtBut it s.heap h'->Q none { s with heap:=h' }):wpAny (model prog w) A (pyNext (.ref e)) Q E s:=by
 have hT:s.TypeIs (.ref e) "enumerate":=⟨_,he,rfl⟩;unfold pyNext
 refine wpAny_bind (wpAny_attempt (wpAny_callSpecial?_slot (name:=Str.ofString "__next__") hT F.slot_enumerate_next
  (wpAny_call_entry F.slot_enumerate_next hT F.entry_enumerate_next ?_ (F.args_enumerate_next_1 _))))
 show wpAny _ _ (field (.ref e) 2 >>= _) _ _ _
 refine wpAny_bind (wpAny_field he rfl (x:=.ref it) rfl ?_);refine wpAny_bind (mF hh hit hl hx fun h' x he' hx' => ?_)
 obtain⟨o,ho,hc⟩:=hx';refine wpAny_bind (wpAny_isInstance (T:="StopIteration") (b:=true) ⟨o,ho,hc⟩ isSubtype_stop ?_);exact wpAny_pure (hQ _ he')
def Gs(K:PySem.W.Frag)(a:Addr):It:=
 ⟨fun i H=>∃ xs x,f7 K H a xs/\xs[i]?=some x,fun i H x H'=>∃ p,x=.ref p/\H p=none/\∀ xs,f7 K H a xs->∃ v,xs[i]?=some v/\H'=upd H p (.tup [.int i,v]),fun i H=>∃ xs,f7 K H a xs/\xs.length<=i⟩
theorem rf{P:Program}{w:World}{K:PySem.W.Frag}{elts:List Expr}{x1:Nat}{tpos:Pos}(a e it:Addr)(hne:e≠it) :
  Turn P w K (.Tuple elts x1 tpos) (Gs K a) [e,it] e (fun i h=>(∃ old,IsEnum h e it i old)/\h.IsTupleIter it a i) where
 mem:=by simp
 obj:=fun i h st b hb=>by
  obtain⟨⟨old,st1⟩,o,e2,c,d⟩:=st;rcases List.mem_cons.mp hb with z | z
  ·subst z
   exact⟨_,st1,fun v z=>by
    have z':Data.fields _=Data.cell v:=z;cases z'⟩
  ·have z:b=it:=by simpa using z
   subst z;exact⟨o,e2,fun v z=>by rw[d]at z;cases z⟩
 keep:=fun i h h' st k=>by
  obtain⟨⟨old,st1⟩,o,e2,r⟩:=st;exact⟨⟨old,k e (by simp) _ st1⟩,o,k it (by simp) o e2,r⟩
 item:=by
  intro X hP hw hK hc i pins s σ H E I hf st hg;subst hP hw hK;obtain⟨xs,x,hq,hx⟩:=hg;obtain⟨⟨old,st1⟩,st2⟩:=st;obtain⟨its,rv,p,hz⟩:=I.tuple hq;obtain⟨u,hu,ru⟩:=rv.get hx
  have hit':a≠it:=fun z=>by
   obtain⟨o,h1,h2,_⟩:=p;obtain⟨o',h3,h4,_⟩:=st2;rw[z,h3]at h1;cases h1
   rw[h2]at h4;exact absurd h4 (by decide)
  have SK:e≠a:=fun z=>by
   obtain⟨o,h1,h2,_⟩:=p;have zv:s.heap.get? e=some _:=st1;rw[z,h1]at zv;have h2':=congrArg (fun x:Option Obj=>x.map (·.cls)) zv
   simp only[Option.map_some,h2,Option.some.injEq]at h2';exact absurd h2' (by decide)
  have hlt:i < its.toArray.size:=by
   have:=(List.getElem?_eq_some_iff.mp hu).1;simpa using this
  refine wpAny_pyNext_enum_itemD (CU (A:=X.A.in1) (I.ok.hd hc) it a hit' its.toArray) st1 ⟨st2,p⟩ hlt hne (by simp[hne,SK]) fun u' h' tk SN so si tu sz kp => ?_
  have MA:u'=u:=by
   have e1:its.toArray[i]?=some u':=SN;have e2:its[i]?=some u':=by simpa using e1
   rw[hu]at e2;cases e2;rfl
  subst MA;refine⟨_,rfl,wpAny_letOwnedTupleGo_enum (s:={ s with heap:=h',toks:=tk + 1 }) so fun h2 se sb => ?_⟩
  have CQ:∀ b o,b∉[e,it]->s.heap.get? b=some o->h2.get? b=some o:=fun b o hb q=>by
   have h1:b≠e:=fun z=>hb (by simp[z])
   have h3:b≠it:=fun z=>hb (by simp[z])
   exact sb.extBut b o h1 (kp b o h1 h3 q)
  have hel:e < s.heap.objs.size:=Heap.lt_size st1;have Mz:h2.get? s.heap.objs.size=some { cls:=.type "tuple",data:=.seq #[.int i tk,u'] }:=sb.extBut _ _ (Nat.ne_of_gt hel) tu;have se':∃ old,IsEnum h2 e it ((i + 1:Nat):Int) old:=⟨u',by rw[show((i + 1:Nat):Int)=(i:Int) + 1 by omega];exact se⟩
  refine⟨.ref s.heap.objs.size,upd H s.heap.objs.size (.tup [.int i,x]),?_,rfl,⟨_,rfl,I.hok.fresh (Nat.le_refl _),fun ys hy=>⟨x,by rw[I.mf hy hq];exact hx,rfl⟩⟩,⟨se',?_⟩,fun b hb => ?_⟩
  ·have tup:IsTup h2 s.heap.objs.size [Value.int i tk,u'].toArray:=⟨_,Mz,rfl,_,rfl⟩
   have new:cL X.prog X.w (upd H s.heap.objs.size (.tup [.int i,x])) h2 s.heap.objs.size (.tup [.int i,x]):=⟨by rw[sizeLine_eq];simp,[.int i tk,u'],.cons ⟨_,rfl⟩ (.cons ru .nil),tup⟩
   have:=gw (s:=s) (h':=h2) (t':=tk + 1) I hf CQ (Nat.le_refl _) new;exact this
  ·exact si.1.extBut sb.extBut (Ne.symm hne)
  ·have hlt:b < s.heap.objs.size:=by
    rcases List.mem_cons.mp hb with z | z
    ·subst z;exact hel
    ·have z:b=it:=by simpa using z
     subst z;obtain⟨o,q,_⟩:=st2;exact Heap.lt_size q
   rw[aI (Nat.ne_of_lt hlt)];exact(hf b hb).1
 done:=by
  intro X hP hw hK hc i pins s σ H E I hf st hg;subst hP hw hK;obtain⟨xs,hq,hx⟩:=hg;obtain⟨⟨old,st1⟩,st2⟩:=st;obtain⟨its,rv,p,hz⟩:=I.tuple hq;obtain⟨f0,f1,f2,f3,f4,f5⟩:=hf it (by simp)
  have hl:=rv.length;exact uE (I.ok.hd hc) st1 st2 p (by simp;omega) fun h' eb=>⟨rfl,I.turned (t':=s.toks) (fun b o hb e=>eb b o hb e) f0 f1 f3 f4 f5⟩
 self:=fun _ _ _ _ _ st h=>by
  obtain⟨⟨old,st1⟩,_⟩:=st;exact wpAny_pyIter_enum st1 h
def Gu(K:PySem.W.Frag)(ta:TA):TI:=fun σ H R=>ta σ H fun vs H1=>∃ a,vs=[.ref a]/\(((∃ xs,ju K H1 a xs)/\R (Qm K a) H1)\/((∃ xs,f7 K H1 a xs)/\R (Gs K a) H1))
theorem wL{X:Cx}{es:List Expr}{x1:Nat}{tpos p pos:Pos}{a:Expr}{ta:TA}(hg:Gl X "enumerate")(hm:X.mg "enumerate"=none)(ha:PA X [a] ta)(hs:starEach [a] X.env=[(false,eval a X.env)]) :
  PI X (.Tuple es x1 tpos) (.Call (.Name "enumerate" p) [a] [] pos) (Gu X.K ta):=by
 intro pins s σ H R I h;refine Call_ (fL I hg hm boot_enumerate (PyProof.Rows.callWith_type1 (cz (ha pos pins s σ H _ I h) fun us s1 ⟨vs,H1,I1,r1,q1⟩ => ?_) hs rfl))
 obtain⟨l,rfl,hq⟩:=q1;cases r1 with
 | cons r rr=>
  cases rr;cases r
  have fp:∀ b∈[s1.heap.objs.size + 1,s1.heap.objs.size],s1.heap.objs.size<=b:=fun b hb=>by
   rcases List.mem_cons.mp hb with z | z
   ·rw[z];exact Nat.le_succ _
   ·have z:b=s1.heap.objs.size:=by simpa using z
    rw[z];exact Nat.le_refl _
  rcases hq with ⟨⟨xs,hq⟩,q⟩ | ⟨⟨xs,hq⟩,q⟩
  ·obtain⟨its,rv,pl,hz⟩:=I1.list hq
   refine call_enumerate_list pl.isList fun h' en li sz kp=>wpAny_pyIter_enum (s:={ s1 with heap:=h' }) en ?_
   have I2:L2.Inv X pins σ H1 { s1 with heap:=h' }:=I1.kept (t':=s1.toks) kp;exact⟨s1.heap.objs.size + 1,[s1.heap.objs.size + 1,s1.heap.objs.size],_,_,H1,rfl,I2,uw l _ _ (Nat.succ_ne_self _),⟨⟨_,en⟩,li⟩,fun b hb=>I1.vo (fp b hb) (I1.hok.fresh (fp b hb)),q⟩
  ·obtain⟨its,rv,pl,hz⟩:=I1.tuple hq
   refine rb (items:=its.toArray) pl fun h' en li sz kp=>wpAny_pyIter_enum (s:={ s1 with heap:=h' }) en ?_
   have I2:L2.Inv X pins σ H1 { s1 with heap:=h' }:=I1.kept (t':=s1.toks) kp;exact⟨s1.heap.objs.size + 1,[s1.heap.objs.size + 1,s1.heap.objs.size],_,_,H1,rfl,I2,rf l _ _ (Nat.succ_ne_self _),⟨⟨_,en⟩,li⟩,fun b hb=>I1.vo (fp b hb) (I1.hok.fresh (fp b hb)),q⟩
theorem dI{a b:Str}:bN a b=true↔a.cps.toList<=b.cps.toList:=by
 unfold bN;rw[Bool.not_eq_true',decide_eq_false_iff_not];exact List.not_lt
theorem e_(a b c:Str)(h1:bN a b=true)(h2:bN b c=true):bN a c=true:=dI.mpr (List.le_trans (dI.mp h1) (dI.mp h2))
theorem gy(a b:Str):(bN a b || bN b a)=true:=by
 rw[Bool.or_eq_true,dI,dI];exact List.le_total _ _
theorem kO{a b:Str}(h1:bN a b=true)(h2:bN b a=true):a=b:=by
 have e:=List.le_antisymm (dI.mp h1) (dI.mp h2);cases a;cases b
 simp only[Str.mk.injEq];exact Array.toList_inj.mp e
theorem mG:∀ {ss:List Str} {p:Str},risingS p ss=true->(p::ss).Pairwise fun a b=>bN a b=true
 | [],p,_=>by simp
 | x::r,p,h=>by
  simp only[risingS,Bool.and_eq_true,Bool.not_eq_true',ltCps_eq]at h;have hpx:bN p x=true:=by unfold bN;rw[h.1];rfl
  have ih:=mG h.2;refine List.pairwise_cons.mpr ⟨fun y hy => ?_,ih⟩
  rcases List.mem_cons.mp hy with rfl | hy
  ·exact hpx
  ·exact e_ _ _ _ hpx ((List.pairwise_cons.mp ih).1 y hy)
theorem wM{ss ss':List Str}(hp:ss'.Perm ss)(hs:sortedS ss'=true):ss'=ss.mergeSort bN:=by
 refine List.Perm.eq_of_pairwise (le:=fun a b=>bN a b=true) (fun a b _ _ h1 h2=>kO h1 h2) ?_ (List.pairwise_mergeSort e_ gy ss) (hp.trans (List.mergeSort_perm ss bN).symm)
 cases ss' with
 | nil=>exact List.Pairwise.nil
 | cons x r=>exact mG hs
theorem pw{ns ns':List Int}(hp:ns'.Perm ns)(hs:ns'.Pairwise (· <= ·)):ns'=ns.mergeSort fun a b=>decide (a<=b):=by
 refine List.Perm.eq_of_pairwise (le:=fun a b=>decide (a<=b)=true) (fun a b _ _ h1 h2 => ?_) (hs.imp fun h=>by simpa using h) (List.pairwise_mergeSort (fun a b c h1 h2 => ?_) (fun a b => ?_) ns) (hp.trans (List.mergeSort_perm ns _).symm)
 ·simp at h1 h2;omega
 ·simp at h1 h2 ⊢;omega
 ·simp;omega
theorem kP:∀ {ss:List Str} {us:List Value},Vals (ss.map V.str) us->StrsAre us ss
 | [],_,r=>by cases r;exact .nil
 | x::ss,_,r=>by
  cases r with
  | cons h t=>
   obtain⟨tk,rfl⟩:=h;exact .cons _ _ (kP t)
theorem mH:∀ {us:List Value} {ss:List Str},StrsAre us ss->Vals (ss.map V.str) us
 | _,_,.nil=>.nil
 | _,_,.cons x t h=>.cons ⟨t,rfl⟩ (mH h)
theorem uF{X:Cx}:eF X (.builtin "sorted") (fun xs H Q=>∃ a,xs=[.ref a]/\((∃ ss:List Str,ju X.K H a (ss.map V.str)/\ss.length < 64/\∀ l,H l=none->Q (.ref l) (upd H l (.lst ((ss.mergeSort bN).map V.str)))) \/
  ∃ ns:List Int,ju X.K H a (ns.map V.int)/\ns.length < 64/\∀ l,H l=none->Q (.ref l) (upd H l (.lst ((ns.mergeSort fun a b=>decide (a<=b)).map V.int))))):=by
 intro pins s σ H xs us Q I r h;obtain⟨a,rfl,h⟩:=h;obtain⟨u,rfl,ru⟩:=vals1 r;cases ru;have fresh:H (s.heap.objs.size + 1)=none:=I.hok.fresh (Nat.le_succ _);rcases h with ⟨ss,hq,h64,q⟩ | ⟨ns,hq,h64,q⟩
 ·obtain⟨its,rv,pl,hz⟩:=I.list hq
  have hl:=rv.length;rw[List.length_map]at hl;refine sorted_strs (vs:=its) pl.isList (kP rv) (by omega) fun out ss' h1 h2 h3 => ?_
  obtain⟨e,he⟩:=sortedAll_at s.heap its out;have hs:=wM h2 h3;subst hs;refine⟨.ref (s.heap.objs.size + 1),_,I.laid (t':=s.toks) (o:=.lst ((ss.mergeSort bN).map V.str)) (fun b ob hb=>sortedAll_old hb) (Nat.le_succ _) ?_,rfl,q _ fresh⟩
  exact⟨by rw[List.length_map,List.length_mergeSort,sizeLine_eq];omega,out.toList,e,mH h1,he⟩
 ·obtain⟨its,rv,pl,hz⟩:=I.list hq
  have hl:=rv.length;rw[List.length_map]at hl;refine sorted_ints (vs:=its) pl.isList (intsAre_of rv) (by omega) fun out ns' h1 h2 h3 => ?_
  obtain⟨e,he⟩:=sortedAll_at s.heap its out;have hs:=pw h2 h3;subst hs;refine⟨.ref (s.heap.objs.size + 1),_,I.laid (t':=s.toks) (o:=.lst ((ns.mergeSort fun a b=>decide (a<=b)).map V.int)) (fun b ob hb=>sortedAll_old hb) (Nat.le_succ _) ?_,rfl,q _ fresh⟩
  exact⟨by rw[List.length_map,List.length_mergeSort,sizeLine_eq];omega,out.toList,e,jb h1,he⟩
section
variable{X:Cx}{Γ:lV}{bw:Bool}{a b:Expr}{rest:List Expr}{ca cb:Ex}{pos:Pos}
theorem zy{ta tb:TE}(ha:PE X a ta)(hb:PE X (.BoolOp .And (b::rest) pos) tb):PE X (.BoolOp .And (a::b::rest) pos) (fun σ H Q=>ta σ H fun x H1=>∃ c,oS X.K x H1 c/\if c=true then tb σ H1 Q else Q x H1):=by
 intro pins s σ H Q I h;refine BoolOp_and (cz (ha pins s σ H _ I h) fun v s1 ⟨x,H1,I1,r1,c,t1,q1⟩ => ?_)
 refine cz (m_ pins s1 σ H1 x v (fun d H2=>d=c/\H2=H1) I1 r1 ⟨c,t1,rfl,rfl⟩) fun d s2 ⟨H2,I2,e1,e2⟩ => ?_
 subst e1 e2;cases d with
 | true=>exact hb pins s2 σ H2 Q I2 q1
 | false=>exact⟨x,H2,I2,r1,q1⟩
theorem CV{ta tb:TE}(ha:PE X a ta)(hb:PE X (.BoolOp .Or (b::rest) pos) tb):PE X (.BoolOp .Or (a::b::rest) pos) (fun σ H Q=>ta σ H fun x H1=>∃ c,oS X.K x H1 c/\if c=true then Q x H1 else tb σ H1 Q):=by
 intro pins s σ H Q I h;refine BoolOp_or (cz (ha pins s σ H _ I h) fun v s1 ⟨x,H1,I1,r1,c,t1,q1⟩ => ?_)
 refine cz (m_ pins s1 σ H1 x v (fun d H2=>d=c/\H2=H1) I1 r1 ⟨c,t1,rfl,rfl⟩) fun d s2 ⟨H2,I2,e1,e2⟩ => ?_
 subst e1 e2;cases d with
 | false=>exact hb pins s2 σ H2 Q I2 q1
 | true=>exact⟨x,H2,I2,r1,q1⟩
theorem zz{ta:TE}(ha:PE X a ta):PE X (.UnaryOp .Not a pos) (fun σ H Q=>ta σ H fun x H1=>∃ c,oS X.K x H1 c/\Q (.bl (!c)) H1):=by
 intro pins s σ H Q I h;refine UnaryOp_ (cz (ha pins s σ H _ I h) fun v s1 ⟨x,H1,I1,r1,c,t1,q1⟩ => ?_)
 refine not_of (cz (m_ pins s1 σ H1 x v (fun d H2=>d=c/\H2=H1) I1 r1 ⟨c,t1,rfl,rfl⟩) fun d s2 ⟨H2,I2,e1,e2⟩ => ?_)
 subst e1 e2;exact⟨.bl (!d),H2,I2,rfl,q1⟩
theorem dU.nw{own:Bool}{Z:Addr->Prop}{Hb H:Hp}{d:D}{v:V}(h:dU bw own Z Hb H d v):Now Z H d v:=by
 cases bw with
 | true=>exact h.now
 | false=>exact(h.weak (bw:=true)).now
end
noncomputable def Gv(sc:Scope)(x:Str):Bool:=match sc.names.lookup x with
 | some .local | some .cell | some .free=>true
 | _=>false
noncomputable def wN(sc:Scope)(x:Str):Bool:=match sc.names.lookup x with
 | some .local | some .cell=>true
 | _=>false
noncomputable def qy(sc:Scope)(x:Str):Bool:=sc.names.lookup x == some .globalImplicit
noncomputable def okN(x:Str):Bool := !(x == ("__debug__":Str)) && !(x == ("__classdict__":Str)) && !(x == ("__name__":Str))
noncomputable def zA(N:List Str)(x:Str):Option Nat:=N.findIdx? (· == x)
def mI(sc:Scope)(N:List Str)(x:Str):Option Nat:=if Gv sc x && okN x then zA N x else none
def wO(x:Str):Option Ty:=[Ty.int,.str,.bool,.list,.tuple,.dict].find? (fun t=>t.nm == x)
noncomputable def isStar:Expr->Bool
 | .Starred _ _=>true
 | _=>false
noncomputable def isSlice:Expr->Bool
 | .Slice _ _ _ _=>true
 | _=>false
noncomputable def isSet:Expr->Bool
 | .Set _ _ _=>true
 | _=>false
noncomputable def rh(scope sc:Scope):Scope:={ scope with names:=scope.names.map fun (n,k)=>if (k == .free && sc.kind == .function && sc.names.lookup n == some .cell) then (n,.cell) else (n,k) }
noncomputable def dk(scope:Scope):List Str:=(scope.names.filter fun y=>y.2 == .free).map (·.1)
def ri(sc:Scope)(N:List Str):List Str->Option (List Nat)
 | []=>some []
 | x::xs=>do let i ← mI sc N x;let is ← ri sc N xs;some (i::is)
def wQ(scope:Scope)(sc:Scope)(x:Str):Bool:=
 scope.kind == .function && scope.names.all (fun y => !(y.2 == .cell)) && scope.names.all (fun y => !(y.2 == .local) || scope.names.lookup y.1 == some .local) &&
 scope.names.all (fun y => !(y.2 == .free) || (sc.names.lookup y.1 == some .cell || sc.names.lookup y.1 == some .free) && scope.names.lookup y.1 == some .free) &&
 scope.names.lookup x == some .local && decide ((x::dk scope).Nodup)
noncomputable def kQ:List Comprehension->Option (Str×Pos×Expr×List Expr)
 | [⟨.Name x p,iter,ifs,0⟩]=>some (x,p,iter,ifs)
 | _=>none
theorem mJ{gs:List Comprehension}{x:Str}{p:Pos}{iter:Expr}{ifs:List Expr}(h:kQ gs=some (x,p,iter,ifs)):gs=[⟨.Name x p,iter,ifs,0⟩]:=by
 unfold kQ at h;split at h
 ·cases h;rfl
 ·cases h
theorem wR{N:List Str}{x:Str}{i:Nat}(h:zA N x=some i):N[i]?=some x:=by
 unfold zA at h;obtain⟨hi,he,_⟩:=List.findIdx?_eq_some_iff_getElem.mp h;rw[List.getElem?_eq_getElem hi,eq_of_beq he]
theorem sU{sc:Scope}{N:List Str}{x:Str}{i:Nat}(h:mI sc N x=some i):N[i]?=some x/\yw sc x/\(x == ("__debug__":Str))=false/\(x == ("__classdict__":Str))=false:=by
 unfold mI at h;split at h
 ·rename_i hc
  simp only[Bool.and_eq_true,okN,Bool.not_eq_true']at hc;refine⟨wR h,?_,hc.2.1.1,hc.2.1.2⟩;have hv:=hc.1;unfold Gv at hv;unfold yw;split at hv
  ·rename_i q;exact .inl q
  ·rename_i q;exact .inr (.inl q)
  ·rename_i q;exact .inr (.inr q)
  ·cases hv
 ·cases h
theorem sV{x:Str}(h:okN x=true):(x == ("__debug__":Str))=false/\(x == ("__classdict__":Str))=false/\x≠"__name__":=by
 simp only[okN,Bool.and_eq_true,Bool.not_eq_true']at h;refine⟨h.1.1,h.1.2,fun e => ?_⟩
 rw[e]at h;simp at h
noncomputable def dw:List Str:=["len","all","any","list","tuple","int","min","max","bool","isinstance","str","dict","range","sorted","enumerate","reversed","set"]
theorem bZ{e:Expr}{es:List Expr}{env:Env}(h:isStar e=false):starEach (e::es) env=(false,eval e env)::starEach es env:=by
 cases e<;>first | rfl | (cases h)
theorem dg{env:Env}{pos:Pos}:∀ {es:List Expr},(∀ e∈es,isStar e=false)->(backTo pos (starEach es env)).any (·.1)=false
 | [],_=>rfl
 | e::es,h=>by
  rw[bZ (h e (by simp))]
  show(false || (backTo pos (starEach es env)).any (·.1))=false
  rw[dg fun z hz=>h z (by simp[hz])]
  rfl
section
variable{X:Cx}{Γ:lV}{T:Tab}{k:Nat}{sc:Scope}{N:List Str}
theorem Gw{x:Str}{t:Ty}(h:wO x=some t):x=t.nm/\t.nm∈dw:=by
 unfold wO at h;have h1:=List.find?_some h;exact⟨(eq_of_beq h1).symm,by cases t<;>decide⟩
end
section
variable{X:Cx}{Γ:lV}{T:Tab}{k:Nat}{sc:Scope}{N:List Str}
theorem wU{sc:Scope}{N:List Str}:∀ {xs:List Str} {is:List Nat},ri sc N xs=some is->xs.length=is.length/\∀ (j i:Nat) (x:Str),xs[j]?=some x->is[j]?=some i->N[i]?=some x
 | [],is,h=>by cases h;exact⟨rfl,fun j i x e=>by simp at e⟩
 | x::xs,is,h=>by
  simp only[ri,Option.bind_eq_bind]at h;obtain⟨i,h1,h⟩:=Option.bind_eq_some_iff.mp h;obtain⟨is',h2,h⟩:=Option.bind_eq_some_iff.mp h;cases h;obtain⟨q1,q2⟩:=wU h2;refine⟨by rw[List.length_cons,List.length_cons,q1],fun j i' y e1 e2 => ?_⟩
  cases j with
  | zero=>simp at e1 e2;subst e1 e2;exact(sU h1).1
  | succ j=>exact q2 j i' y (by simpa using e1) (by simpa using e2)
theorem iP{iter:Expr}{env:Env}(h:isSet iter=false):∀ x,foldedSetIterable iter env x=pure x:=by
 intro x;cases iter<;>first | rfl | (simp[isSet]at h)
theorem pz{op:CmpOp}{b:Expr}(h:isSet b=false):behindInMarks op b=false:=by
 cases b<;>first | rfl | (simp[isSet]at h)
end
def pA(sc:Scope)(N:List Str)(x:Str):Option Nat:=if wN sc x && okN x then zA N x else none
noncomputable def rj:Expr->Bool
 | .ListComp .. | .SetComp .. | .DictComp ..=>true
 | _=>false
noncomputable def pB(sc:Scope)(x:Str)(px:Pos)(e:Expr):Bool:=match e with
 | .ListComp _ _ s _=>sc.names.lookup x == some .local && px.line == e.pos.line && !(s.names.any fun (n,k)=>n == x && (k == .local || k == .cell))
 | _=>false
noncomputable def eM:List Expr->Option (List (Str×Pos))
 | []=>some []
 | .Name x p::r=>(eM r).map ((x,p) :: ·)
 | _=>none
def kR(sc:Scope)(N:List Str):List (Str×Pos)->Option (List Nat)
 | []=>some []
 | x::xs=>do let i ← pA sc N x.1;let is ← kR sc N xs;some (i::is)
noncomputable def wV:Expr->Bool
 | .Call .. | .Name .. | .Subscript ..=>true
 | _=>false
section
variable{X:Cx}{Γ:lV}{T:Tab}{k:Nat}{sc:Scope}{N:List Str}
theorem jB:∀ {es:List Expr} {nms:List (Str×Pos)},eM es=some nms->es=nms.map fun x=>Expr.Name x.1 x.2
 | [],_,h=>by cases h;rfl
 | e::es,nms,h=>by
  unfold eM at h;split at h
  ·rename_i e;cases e
  ·rename_i x p r q
   cases q;obtain⟨ns,h1,h⟩:=Option.map_eq_some_iff.mp h;subst h;rw[jB h1];rfl
  ·cases h
theorem mK(env:Env):∀ (nms:List (Str×Pos)),(assignEach (nms.map fun x=>Expr.Name x.1 x.2) env).length=nms.length/\(assignEach (nms.map fun x=>Expr.Name x.1 x.2) env).findIdx? (·.1)=none
 | []=>⟨rfl,rfl⟩
 | x::r=>by
  obtain⟨h1,h2⟩:=mK env r;refine⟨?_,?_⟩
  ·show(assignEach (r.map fun x=>Expr.Name x.1 x.2) env).length + 1=_
   rw[h1];rfl
  ·show List.findIdx? (·.1) ((false,_)::assignEach (r.map fun x=>Expr.Name x.1 x.2) env)=none
   rw[List.findIdx?_cons,h2];rfl
end
def bL(N ps:List Str)(sc:Scope):Bool:=
 sc.kind == .function && !sc.isCoroutine && !sc.isGenerator && decide N.Nodup && decide (N.take ps.length=ps) && ps.all (wN sc) && sc.names.all fun y => !(y.2 == .free)
theorem dP{N ps:List Str}{sc:Scope}(h:bL N ps sc=true):fO N ps sc:=by
 simp only[bL,Bool.and_eq_true,Bool.not_eq_true',decide_eq_true_eq,List.all_eq_true,beq_iff_eq]at h;obtain⟨⟨⟨⟨⟨⟨h1,h2⟩,h3⟩,h4⟩,h5⟩,h6⟩,h7⟩:=h;refine⟨h1,h2,h3,h4,h5,fun x hx => ?_,fun y hy e => ?_⟩
 ·have hv:=h6 x hx
  unfold wN at hv;split at hv
  ·rename_i q;exact .inl q
  ·rename_i q;exact .inr q
  ·cases hv
 ·have:=h7 y hy
  rw[e]at this;exact absurd this (by decide)
section
variable{P:Program}{w:World}{K:PySem.W.Frag}{mg:Str->Option Value}{base:Heap}{Γ:lV}{T:Tab}{k:Nat}
end
noncomputable def zB:Value->Bool
 | .type x=>x == "list"
 | _=>false
def pC(K:PySem.W.Frag):Bool:=K.all fun p => !zB p.2.cls
theorem pD:∀ {K:PySem.W.Frag} {a:Addr} {o:Obj},K.lookup a=some o->(a,o)∈K
 | [],_,_,h=>by cases h
 | (b,p)::K,a,o,h=>by
  rw[List.lookup_cons]at h;split at h
  ·rename_i e
   cases h;rw[eq_of_beq e];simp
  ·exact List.mem_cons_of_mem _ (pD h)
theorem Gx{K:PySem.W.Frag}(hK:pC K=true){H:Hp}{a:Addr}{xs:List V}(h:ju K H a xs):Rd H a (.lst xs):=by
 rcases h with h | ⟨o,its,n,h1,h2,_⟩
 ·exact h
 ·have hm:=pD h1
  have:=List.all_eq_true.mp hK _ hm;rw[h2]at this;exact absurd this (by decide)
noncomputable def wW(K:PySem.W.Frag)(x:Str):Bool:=match PySem.W.nsIn K mainGlobals x with
 | some none=>true
 | _=>false
def sW(K:PySem.W.Frag):Bool:=dw.all (wW K)
theorem wX{K:PySem.W.Frag}{h:Heap}{mg:Str->Option Value}(X:K.In h)(G:h.Ns mainGlobals mg)(nb:sW K=true):∀ x∈dw,mg x=none:=fun x hx=>by
 have:=List.all_eq_true.mp nb x hx;unfold wW at this;split at this
 ·rename_i q;exact PySem.W.mg_none_of X G q
 ·cases this
end Mir
namespace Mir
open PySem
@[simp] theorem Gy:jL .non=some false:=rfl
@[simp] theorem zC{b:Bool}:jL (.bl b)=some b:=rfl
@[simp] theorem Gz{i:Int}:jL (.int i)=some (i != 0):=rfl
@[simp] theorem GA{xs:List D}:jL (.lst xs)=some (!xs.isEmpty):=rfl
@[simp] theorem GB{xs:List D}:jL (.tup xs)=some (!xs.isEmpty):=rfl
section
variable{Γ:lV}{ρ:zg}{a b:Qk}{e:Ex}{i j:Nat}{bw:Bool}
end
section
variable{bw:Bool}{i:Nat}{a b c es:Ex}
end
section
variable{Γ:lV}{ρ:zg}{bw:Bool}{i:Nat}{a b c es:Ex}
def zk(o:Bool)(f:List D->D):D->Out Rs
 | .tup ds=>if small ds.length=true then .ok (o,f ds) else .bad
 | _=>.bad
@[simp] theorem GC{o:Bool}{f:List D->D}{ds:List D}:zk o f (.tup ds)=if small ds.length=true then .ok (o,f ds) else .bad:=rfl
end
@[simp] theorem JZ{i j:Int}:fw .Add (.int i) (.int j)=.ok (false,.int (i + j)):=rfl
@[simp] theorem J0{i j:Int}:fw .Sub (.int i) (.int j)=.ok (false,.int (i - j)):=rfl
@[simp] theorem J7{i j:Int}:fw .Mult (.int i) (.int j)=if (lU i || lU j)=true then .ok (false,.int (i * j)) else .bad:=rfl
@[simp] theorem J8{i j:Int}:fw .FloorDiv (.int i) (.int j)=if (decide (0 < j) && decide (j < 1073741824))=true then .ok (false,.int (i / j)) else .bad:=rfl
@[simp] theorem J9{i j:Int}:fw .Mod (.int i) (.int j)=if decide (0 < j)=true then .ok (false,.int (i % j)) else .bad:=rfl
@[simp] theorem J_{i j:Int}:fw .Pow (.int i) (.int j)=if (decide (0<=j) && decide (j<=1000) && decide (i.natAbs < 2 ^ 64))=true then .ok (false,.int (i ^ j.toNat)) else .bad:=rfl
@[simp] theorem GD{i j:Str}:fw .Add (.str i) (.str j)=if small (i.length + j.length)=true then .ok (false,.str (i++j)) else .bad:=rfl
@[simp] theorem GF{i j:List D}:fw .Add (.lst i) (.lst j)=if small (i.length + j.length)=true then .ok (true,.lst (i++j)) else .bad:=rfl
@[simp] theorem wY{x y:D}:ek .Eq x y=if (aK 8 x && aK 8 y)=true then .ok (ej x y) else .bad:=rfl
@[simp] theorem wZ{x y:D}:ek .NotEq x y=if (aK 8 x && aK 8 y)=true then .ok (!ej x y) else .bad:=rfl
@[simp] theorem MB{i j:Int}:ek .Lt (.int i) (.int j)=.ok (decide (i < j)):=rfl
@[simp] theorem MC{i j:Int}:ek .LtE (.int i) (.int j)=.ok (decide (i<=j)):=rfl
@[simp] theorem cmp_gt{i j:Int}:ek .Gt (.int i) (.int j)=.ok (decide (j < i)):=rfl
@[simp] theorem MD{i j:Int}:ek .GtE (.int i) (.int j)=.ok (decide (j<=i)):=rfl
@[simp] theorem ME{x y:D}:ek .In x y=inD x y:=rfl
@[simp] theorem Ka{x y:D}:ek .NotIn x y=inD x y >>= fun b=>.ok (!b):=rfl
@[simp] theorem MF{x y:D}:ek .Is x y=isD x y:=rfl
@[simp] theorem Kb{x y:D}:ek .IsNot x y=isD x y >>= fun b=>.ok (!b):=rfl
@[simp] theorem MH{n:Nat}:aK n .non=true:=by cases n<;>rfl
@[simp] theorem Qo{n:Nat}{b:Bool}:aK n (.bl b)=true:=by cases n<;>rfl
@[simp] theorem MI{n:Nat}{i:Int}:aK n (.int i)=true:=by cases n<;>rfl
@[simp] theorem MJ{n:Nat}{x:Str}:aK n (.str x)=true:=by cases n<;>rfl
@[simp] theorem MK{n:Nat}{xs:List D}:aK (n + 1) (.lst xs)=xs.all (aK n):=rfl
@[simp] theorem ML{n:Nat}{xs:List D}:aK (n + 1) (.tup xs)=xs.all (aK n):=rfl
@[simp] theorem eq_int{i j:Int}:ej (.int i) (.int j)=(i == j):=rfl
@[simp] theorem Qp{i j:Bool}:ej (.bl i) (.bl j)=(i == j):=rfl
@[simp] theorem eq_str{i j:Str}:ej (.str i) (.str j)=(i == j):=rfl
@[simp] theorem MM{i j:List D}:ej (.lst i) (.lst j)=d_ i j:=rfl
@[simp] theorem MN{i j:List D}:ej (.tup i) (.tup j)=d_ i j:=rfl
@[simp] theorem Kc:d_ [] []=true:=rfl
@[simp] theorem kS{x y:D}{xs ys:List D}:d_ (x::xs) (y::ys)=(ej x y && d_ xs ys):=rfl
@[simp] theorem MO{y:D}{ys:List D}:d_ [] (y::ys)=false:=rfl
@[simp] theorem MP{y:D}{ys:List D}:d_ (y::ys) []=false:=rfl
theorem zD{z:Str}{i:Int}{c:Nat}(h:small z.length=true)(e:L2.i9 z.cps.toList i=some c):qQ (.str z) (.int i)=.ok (false,.str (gu c)):=by
 simp only[qQ,h,if_pos,e]
@[simp] theorem Kd{xs:List D}{l h:Option Int}:v9 (.lst xs) l h=.ok (true,.lst (dq xs l h)):=rfl
@[simp] theorem Ke{z:Str}{l h:Option Int}:v9 (.str z) l h=if small z.length=true then .ok (false,.str ⟨(dq z.cps.toList l h).toArray⟩) else .bad:=rfl
@[simp] theorem Kf{xs:List D}:iw .len (.tup [.lst xs])=.ok (false,.int xs.length):=rfl
@[simp] theorem Kg{xs:List D}:iw .len (.tup [.tup xs])=.ok (false,.int xs.length):=rfl
@[simp] theorem len_str{z:Str}:iw .len (.tup [.str z])=if small z.length=true then .ok (false,.int z.length) else .bad:=rfl
noncomputable def w6(f:List Bool->Bool):Option (List Bool)->Out Rs
 | some bs=>.ok (false,.bl (f bs))
 | none=>.bad
@[simp] theorem Fd{f:List Bool->Bool}{bs:List Bool}:w6 f (some bs)=.ok (false,.bl (f bs)):=rfl
@[simp] theorem Kh{xs:List D}:iw .all (.tup [.lst xs])=w6 (fun bs=>bs.all id) (fx xs):=rfl
@[simp] theorem Ki{xs:List D}:iw .any (.tup [.lst xs])=w6 (fun bs=>bs.any id) (fx xs):=rfl
@[simp] theorem GG{xs:List D}:iw .list (.tup [.lst xs])=.ok (true,.lst xs):=rfl
@[simp] theorem GH{xs:List D}:iw .list (.tup [.tup xs])=.ok (true,.lst xs):=rfl
@[simp] theorem Fe{xs:List D}:iw .tuple (.tup [.lst xs])=.ok (false,.tup xs):=rfl
@[simp] theorem Ff{xs:List D}:iw .tuple (.tup [.tup xs])=.ok (false,.tup xs):=rfl
@[simp] theorem int_int{i:Int}:iw .int (.tup [.int i])=.ok (false,.int i):=rfl
@[simp] theorem MQ{k:Bool}:iw .int (.tup [.bl k])=.ok (false,.int (if k then 1 else 0)):=rfl
@[simp] theorem Kj{i j:Int}:iw .min (.tup [.int i,.int j])=.ok (false,.int (if j < i then j else i)):=rfl
@[simp] theorem Kk{i j:Int}:iw .max (.tup [.int i,.int j])=.ok (false,.int (if j > i then j else i)):=rfl
@[simp] theorem MR{t:Ty}:v_ .non t=some false:=rfl
@[simp] theorem Qq{t:Ty}{b:Bool}:v_ (.bl b) t=some (t == .bool || t == .int):=rfl
@[simp] theorem ty_int{t:Ty}{i:Int}:v_ (.int i) t=some (t == .int):=rfl
@[simp] theorem ty_str{t:Ty}{x:Str}:v_ (.str x) t=some (t == .str):=rfl
@[simp] theorem MS{t:Ty}{xs:List D}:v_ (.lst xs) t=some (t == .list):=rfl
@[simp] theorem MT{t:Ty}{xs:List D}:v_ (.tup xs) t=some (t == .tuple):=rfl
@[simp] theorem MU{t:Ty}{ks:List L2.Key}{xs:List D}:v_ (.dct ks xs) t=some (t == .dict):=rfl
theorem aW{n:Nat}(h:n<=100000):small n=true:=by
 unfold small;rw[decide_eq_true_eq,sizeLine_eq];omega
theorem jW{i:Int}(h1 : -(2 ^ 64) < i)(h2:i < 2 ^ 64):lU i=true:=decide_eq_true (by omega)
theorem dQ{i:Int}(h1 : -(2 ^ 62) < i)(h2:i < 2 ^ 62):hU i=true:=decide_eq_true (by omega)
theorem CW{α:Type}{xs:List α}{i:Int}(h0:0<=i)(h1:i < xs.length):∃ x,x∈xs/\L2.i9 xs i=some x:=by
 have hl:i.toNat < xs.length:=by omega
 refine⟨xs[i.toNat],List.getElem_mem hl,?_⟩;have h:=L2.a_ (List.getElem?_eq_getElem hl);rw[show(i.toNat:Int)=i by omega]at h
 exact h
theorem nJ{α:Type}{p:α->Bool}:∀ {xs:List α},fx (xs.map fun x=>.bl (p x))=some (xs.map p)
 | []=>rfl
 | x::xs=>by simp only[List.map_cons,fx,zC,nJ]
@[simp] theorem in_str{x y:Str}:inD (.str x) (.str y)=.ok (By x y):=rfl
theorem b7(n:Nat):∀ lo:Int,(intsFrom lo n).length=n:=by
 induction n with
 | zero=>intro lo;rfl
 | succ n ih=>intro lo;simp[intsFrom,ih]
theorem dR{n:Nat}:∀ {lo:Int} {i:Nat} {d:D},(intsFrom lo n)[i]?=some d->d=.int (lo + i)/\i < n:=by
 induction n with
 | zero=>intro lo i d h;simp[intsFrom]at h
 | succ n ih=>
  intro lo i d h;cases i with
  | zero=>simp[intsFrom]at h;subst h;exact⟨by simp,by omega⟩
  | succ i=>
   simp[intsFrom]at h;obtain⟨h1,h2⟩:=ih h;exact⟨by rw[h1];congr 1;omega,by omega⟩
theorem str_len{z:Str}:z.length=z.cps.toList.length:=by unfold Str.length;simp
theorem kT{c:Nat}:(gu c).length=1:=rfl
noncomputable def L1(xs:List Str):D:=.lst (xs.map .str)
def LL(rs:List (List Str)):D:=.lst (rs.map L1)
theorem nK{α:Type}(xs:List α)(k:Nat):dq xs (some (k:Int)) none=xs.drop k:=by
 unfold dq;rw[HT.oW,HT.sj];rcases Nat.le_total k xs.length with h | h
 ·rw[Nat.min_eq_left h]
  exact List.take_of_length_le (by simp)
 ·rw[Nat.min_eq_right h,List.drop_eq_nil_of_le (Nat.le_refl _),List.drop_eq_nil_of_le h];simp
theorem w8{α:Type}(xs:List α)(k:Nat):dq xs none (some (k:Int))=xs.take k:=by
 unfold dq;rw[HT.oW,HT.sj,List.drop_zero,Nat.sub_zero];rcases Nat.le_total k xs.length with h | h
 ·rw[Nat.min_eq_left h]
 ·rw[Nat.min_eq_right h,List.take_of_length_le (Nat.le_refl _),List.take_of_length_le h]
@[simp] theorem Qr{α:Type}(xs:List α):dq xs (some 1) none=xs.tail:=by rw[show(1:Int)=((1:Nat):Int) from rfl,nK];simp
theorem nL(n:Nat)(xs:List Str):(xs.map D.str).all (aK n)=true:=by
 rw[List.all_eq_true];intro d hd;obtain⟨x,_,rfl⟩:=List.mem_map.mp hd;simp
theorem zE(xs:List Str)(n:Str):((xs.map D.str).any fun y=>ej y (.str n))=decide (n∈xs):=by
 induction xs with
 | nil=>rfl
 | cons x xs ih=>
  simp only[List.map_cons,List.any_cons,ih,eq_str,List.mem_cons]
  by_cases h:n=x
  ·subst h;simp
  ·have:(x == n)=false:=by simp;exact fun e=>h e.symm
   simp[this,h]
theorem zF(xs:List Str)(n:Str):inD (.str n) (.lst (xs.map .str))=.ok (decide (n∈xs)):=by
 have:inD (.str n) (.lst (xs.map .str))=if aK 8 (.str n) && (xs.map D.str).all (aK 8) then .ok ((xs.map D.str).any fun y=>ej y (.str n)) else .bad:=rfl
 rw[this,nL,zE];simp
theorem nM(xs ys:List Str):d_ (xs.map .str) (ys.map .str)=decide (xs=ys):=by
 induction xs generalizing ys with
 | nil=>cases ys<;>simp
 | cons x xs ih=>
  cases ys with
  | nil=>simp
  | cons y ys=>
   simp only[List.map_cons,kS,eq_str,ih,List.cons.injEq]
   by_cases h:x=y
   ·subst h;simp
   ·simp[h]
theorem GI(xs ys:List Str):ej (L1 xs) (L1 ys)=decide (xs=ys):=nM xs ys
theorem pE(n:Nat)(xs:List Str):aK (n + 1) (L1 xs)=true:=nL n xs
theorem BC(n:Nat)(rs:List (List Str)):aK (n + 2) (LL rs)=true:=by
 show(rs.map L1).all (aK (n + 1))=true
 rw[List.all_eq_true];intro d hd;obtain⟨x,_,rfl⟩:=List.mem_map.mp hd;exact pE n x
theorem BD(rs ts:List (List Str)):ej (LL rs) (LL ts)=decide (rs=ts):=by
 show d_ (rs.map L1) (ts.map L1)=_
 induction rs generalizing ts with
 | nil=>cases ts<;>simp
 | cons x xs ih=>
  cases ts with
  | nil=>simp
  | cons y ys=>
   simp only[List.map_cons,kS,GI,ih,List.cons.injEq]
   by_cases h:x=y
   ·subst h;simp
   ·simp[h]
noncomputable def freeOf(rs:List (List Str)):List Str->Option Str
 | []=>none
 | n::_=>if ∃ t∈rs,n∈t.tail then none else some n
theorem kU{rs:List (List Str)}{n:Str}{r:List Str}(h:∃ t∈rs,n∈t.tail):freeOf rs (n::r)=none:=if_pos h
theorem iy{rs:List (List Str)}{n:Str}{r:List Str}(h:¬ ∃ t∈rs,n∈t.tail):freeOf rs (n::r)=some n:=if_neg h
def free(rs:List (List Str)):Option Str:=rs.findSome? (freeOf rs)
noncomputable def w9:Option Str->D
 | none=>.non
 | some n=>.str n
@[simp] theorem MW{x:Str}:isD (.str x) .non=.ok false:=rfl
@[simp] theorem Kl:isD .non .non=.ok true:=rfl
@[simp] theorem MX{x:Int}:isD (.int x) .non=.ok false:=rfl
@[simp] theorem MY{x:List D}:isD (.lst x) .non=.ok false:=rfl
noncomputable def cZ(n:Str)(r:List Str):List Str:=if r.take 1=[n] then r.tail else r
inductive Mg:List (List Str)->List Str->Prop
 | done {rs}:(∀ r∈rs,r=[])->Mg rs []
 | step {rs n o}:(∃ r∈rs,r≠[])->free rs=some n->Mg (rs.map (cZ n)) o->Mg rs (n::o)
theorem any_rows(rs:List (List Str)):fx (rs.map L1)=some (rs.map fun r => !r.isEmpty):=by
 induction rs with
 | nil=>rfl
 | cons r rs ih=>
  simp only[List.map_cons,fx,ih];simp[L1]
theorem any_true{rs:List (List Str)}(h:∃ r∈rs,r≠[]):(rs.map fun r => !r.isEmpty).any id=true:=by
 obtain⟨r,hr,hn⟩:=h;rw[List.any_eq_true];exact⟨_,List.mem_map.mpr ⟨r,hr,rfl⟩,by cases r<;>simp at hn ⊢⟩
theorem any_false{rs:List (List Str)}(h:∀ r∈rs,r=[]):(rs.map fun r => !r.isEmpty).any id=false:=by
 rw[List.any_eq_false];intro b hb;obtain⟨r,hr,rfl⟩:=List.mem_map.mp hb;rw[h r hr];simp
abbrev Fn:=List D->Out Rs
def fZ(μ:Int->Int->Int->Int)(F:Fn):Prop:=∀ c t m,0<=t->t < 100000->0 < m->0<=μ c t m/\μ c t m < m/\F [.int c,.int t,.int m]=.ok (false,.int (μ c t m))
noncomputable def SC(ns:List Int):D:=.lst (ns.map .int)
def kW(κ:List Int->Nat->Int)(F:Fn):Prop:=∀ ns (k:Nat),F [SC ns,.int k]=.ok (false,.int (κ ns k))
theorem ints_map(lo:Int)(n:Nat):intsFrom lo n=(List.range n).map fun (i:Nat)=>D.int (lo + i):=by
 apply List.ext_getElem?;intro i
 by_cases h:i < n
 ·have hl:i < (intsFrom lo n).length:=by rw[b7];exact h
  have e:=(dR (List.getElem?_eq_getElem hl)).1;rw[List.getElem?_eq_getElem hl,e];simp[h]
 ·rw[List.getElem?_eq_none (by rw[b7];omega),List.getElem?_eq_none (by simp;omega)]
theorem mL(n:Nat):intsFrom 0 n=(List.range n).map fun (i:Nat)=>D.int i:=by
 rw[ints_map];congr 1;funext i;simp
theorem mM{α β:Type}(f:α->β):∀ (xs:List α) (i:Nat),(xs.map f).eraseIdx i=(xs.eraseIdx i).map f
 | [],_=>by simp
 | x::xs,0=>by simp
 | x::xs,i + 1=>by simp[mM f xs i]
theorem kX{α:Type}:∀ (xs:List α) (i:Nat) (h:i < xs.length),(xs[i]::xs.eraseIdx i).Perm xs
 | x::xs,0,_=>by simp
 | x::xs,i + 1,h=>by
  have ih:=kX xs i (by simpa using h)
  simp only[List.getElem_cons_succ,List.eraseIdx_cons_succ];exact(List.Perm.swap _ _ _).trans (List.Perm.cons x ih)
theorem uG{α:Type}(xs:List α)(d:α):∀ (p:Nat->Bool),(((List.range xs.length).filter p).map fun i=>xs.getD i d).Sublist xs:=by
 intro p
 have h1:((List.range xs.length).map fun i=>xs.getD i d)=xs:=by
  apply List.ext_getElem?;intro i
  by_cases h:i < xs.length
  ·simp[h]
  ·rw[List.getElem?_eq_none (by simpa using h),List.getElem?_eq_none (by omega)]
 have h2:(((List.range xs.length).filter p).map fun i=>xs.getD i d).Sublist ((List.range xs.length).map fun i=>xs.getD i d):=List.Sublist.map _ List.filter_sublist
 rw[h1]at h2;exact h2
noncomputable def abc:Str:="abcdefghijklmnopqrstuvwxyz"
theorem CY:∀ q:Nat,q < 26->abc.cps.toList[q]?=some (97 + q):=by decide
theorem sX{q:Int}(h0:0<=q)(h1:q < 26):qQ (.str abc) (.int q)=.ok (false,.str (gu (97 + q.toNat))):=by
 refine zD (aW (by decide)) ?_
 have:=L2.a_ (CY q.toNat (by omega))
 rwa[show((q.toNat:Nat):Int)=q by omega]at this
noncomputable def bs(μ:Int->Int->Int->Int)(c:Int):List D:=(List.range 8).map fun (i:Nat)=>.int (μ c i 26)
section
variable{Γ:lV}{M:Fn}{μ:Int->Int->Int->Int}{c:Int}{m:Nat}
def Nm(μ:Int->Int->Int->Int)(c:Int)(m at' k:Nat)(z:Str):Prop:=
 z.length<=8/\if μ c 10 4=1/\m < 9 then z.length=k + 1 else z.cps.toList[at']?=some (97 + ((μ c at' 26 + k) % 26).toNat)
theorem GJ{at' k k':Nat}{z z':Str}(hk:k < m)(hk':k' < m)(hm:m<=24)(h:Nm μ c m at' k z)(h':Nm μ c m at' k' z')(e:z=z'):k=k':=by
 subst e;obtain⟨_,h⟩:=h;obtain⟨_,h'⟩:=h'
 by_cases hj:μ c 10 4=1/\m < 9
 ·rw[if_pos hj]at h h';omega
 ·rw[if_neg hj]at h h'
  rw[h]at h';have:=Option.some.inj h';omega
end
theorem zG{rs:List (List Str)}{r:List Str}{n:Str}(hr:r∈rs)(h:freeOf rs r=some n):∃ k,free rs=some k:=by
 unfold free;cases q:rs.findSome? (freeOf rs) with
 | some k=>exact⟨k,rfl⟩
 | none=>
  rw[List.findSome?_eq_none_iff]at q;rw[q r hr]at h;cases h
theorem jX{rs:List (List Str)}{n:Str}(h:free rs=some n):(∃ r∈rs,∃ t,r=n::t)/\∀ t∈rs,n∉t.tail:=by
 unfold free at h;obtain⟨r,hr,e⟩:=List.exists_of_findSome?_eq_some h;cases r with
 | nil=>cases e
 | cons x t=>
  by_cases hb:∃ t∈rs,x∈t.tail
  ·rw[kU hb]at e;cases e
  ·rw[iy hb]at e
   cases e;exact⟨⟨_,hr,t,rfl⟩,fun t ht hn=>hb ⟨t,ht,hn⟩⟩
theorem zH{n:Str}{rs:List (List Str)}(hf:free rs=some n):∀ r∈rs.map (cZ n),n∉r:=by
 intro r hr hn;obtain⟨t,ht,rfl⟩:=List.mem_map.mp hr;have hno:=(jX hf).2 t ht;unfold cZ at hn;split at hn
 ·exact hno hn
 ·rename_i h
  cases t with
  | nil=>simp at hn
  | cons x t=>
   rcases List.mem_cons.mp hn with e | e
   ·subst e;exact h (by simp)
   ·exact hno e
theorem w_{n x:Str}{r:List Str}(h:x∈cZ n r):x∈r:=by
 unfold cZ at h;split at h
 ·exact List.mem_of_mem_tail h
 ·exact h
theorem rk{rs:List (List Str)}{o:List Str}(M:Mg rs o):∀ x∈o,∃ r∈rs,x∈r:=by
 induction M with
 | done h=>intro x hx;simp at hx
 | @step rs n o hne hf _ ih=>
  intro x hx;rcases List.mem_cons.mp hx with e | e
  ·subst e
   obtain⟨⟨r,hr,t,rfl⟩,_⟩:=jX hf;exact⟨_,hr,by simp⟩
  ·obtain⟨r,hr,hx⟩:=ih x e
   obtain⟨t,ht,rfl⟩:=List.mem_map.mp hr;exact⟨t,ht,w_ hx⟩
theorem kY{rs:List (List Str)}{o:List Str}(M:Mg rs o):o.Nodup:=by
 induction M with
 | done h=>exact List.nodup_nil
 | @step rs n o hne hf M' ih=>
  refine List.nodup_cons.mpr ⟨fun h => ?_,ih⟩
  obtain⟨r,hr,hx⟩:=rk M' n h;exact zH hf r hr hx
section
variable{Γ:lV}
noncomputable def behind(rs:List (List Str)):List Str:=rs.flatMap List.tail
end
@[simp] theorem Km{xs:List Str}:iw .list (.tup [L1 xs])=.ok (true,L1 xs):=rfl
@[simp] theorem Kn{xs:List (List Str)}:iw .list (.tup [LL xs])=.ok (true,LL xs):=rfl
@[simp] theorem Qs{xs:List Str}{n:Str}:inD (.str n) (L1 xs)=.ok (decide (n∈xs)):=zF xs n
@[simp] theorem Qt{xs:List Str}{t:Ty}:v_ (L1 xs) t=some (t == .list):=rfl
@[simp] theorem Qu{a b:Bool}:isD (.bl a) (.bl b)=.ok (a == b):=rfl
open L2
structure MZ where
 name:Str
 qual:Str
 params:Arguments
 body:List Stmt
 scope:Scope
 ps:List Str
 cn:List Str
class aL where
 tab:Nat->MZ
 ta:Nat->Addr
inductive Cell where
 | lst (ds:List D)
 | dK (kvs:List (Key×D))
 | dT (kvs:List (List Key×D))
 | ins (C:Str) (fs:List (Str×D))
 | fn (j:Nat) (nN:List D)
 | tb (j:Nat) (p:Pos) (b:Bool)
abbrev aF:=List Cell
inductive ax (α:Type) where
 | ok (a:α) (Ω:aF)
 | exc (x:D) (Ω:aF)
 | bad
noncomputable def ax.bind{α β:Type}:ax α->(α->aF->ax β)->ax β
 | .ok a Ω,f=>f a Ω
 | .exc x Ω,_=>.exc x Ω
 | .bad,_=>.bad
abbrev aU:=List (Option D)
inductive aR {α β:Type} (R:α->β->Prop):List α->List β->Prop where
 | nil:aR R [] []
 | cons {a b as bs}:R a b->aR R as bs->aR R (a::as) (b::bs)
namespace aR
variable{α β:Type}{R S:α->β->Prop}
theorem length:∀ {as:List α} {bs:List β},aR R as bs->bs.length=as.length
 | _,_,.nil=>rfl
 | _,_,.cons _ t=>by rw[List.length_cons,List.length_cons,length t]
theorem imp(h:∀ a b,R a b->S a b):∀ {as:List α} {bs:List β},aR R as bs->aR S as bs
 | _,_,.nil=>.nil
 | _,_,.cons r t=>.cons (h _ _ r) (imp h t)
theorem get:∀ {as:List α} {bs:List β} {i:Nat} {a:α},aR R as bs->as[i]?=some a->∃ b,bs[i]?=some b/\R a b
 | _,_,_,_,.nil,e=>by simp at e
 | _,_,0,_,.cons r _,e=>by simp at e;subst e;exact⟨_,rfl,r⟩
 | _,_,i + 1,a,.cons _ t,e=>by
  obtain⟨u,h1,h2⟩:=get (i:=i) (a:=a) t (by simpa using e)
  exact⟨u,by simpa using h1,h2⟩
theorem CZ:∀ {as:List α} {bs:List β} {i:Nat} {b:β},aR R as bs->bs[i]?=some b->∃ a,as[i]?=some a/\R a b
 | _,_,_,_,.nil,e=>by simp at e
 | _,_,0,_,.cons r _,e=>by simp at e;subst e;exact⟨_,rfl,r⟩
 | _,_,i + 1,a,.cons _ t,e=>by
  obtain⟨u,h1,h2⟩:=CZ (i:=i) (b:=a) t (by simpa using e)
  exact⟨u,by simpa using h1,h2⟩
theorem append:∀ {as cs:List α} {bs ds:List β},aR R as bs->aR R cs ds->aR R (as++cs) (bs++ds)
 | _,_,_,_,.nil,h=>h
 | _,_,_,_,.cons r t,h=>.cons r (append t h)
theorem one{a:α}{b:β}(h:R a b):aR R [a] [b]:=.cons h .nil
theorem take:∀ {as:List α} {bs:List β} (n:Nat),aR R as bs->aR R (as.take n) (bs.take n)
 | _,_,0,_=>by simp;exact .nil
 | _,_,n + 1,.nil=>by simp;exact .nil
 | _,_,n + 1,.cons r t=>.cons r (take n t)
theorem drop:∀ {as:List α} {bs:List β} (n:Nat),aR R as bs->aR R (as.drop n) (bs.drop n)
 | _,_,0,h=>h
 | _,_,n + 1,.nil=>by simp;exact .nil
 | _,_,n + 1,.cons r t=>drop n t
theorem reverse:∀ {as:List α} {bs:List β},aR R as bs->aR R as.reverse bs.reverse
 | _,_,.nil=>.nil
 | _,_,.cons r t=>by rw[List.reverse_cons,List.reverse_cons];exact(reverse t).append (one r)
theorem eraseIdx:∀ {as:List α} {bs:List β} (n:Nat),aR R as bs->aR R (as.eraseIdx n) (bs.eraseIdx n)
 | _,_,n,.nil=>by simp;exact .nil
 | _,_,0,.cons _ t=>t
 | _,_,n + 1,.cons r t=>.cons r (eraseIdx n t)
theorem set{a:α}{b:β}(r:R a b):∀ {as:List α} {bs:List β} (n:Nat),aR R as bs->aR R (as.set n a) (bs.set n b)
 | _,_,_,.nil=>.nil
 | _,_,0,.cons _ t=>.cons r t
 | _,_,n + 1,.cons q t=>.cons q (set r n t)
theorem nil_inv{bs:List β}(h:aR R [] bs):bs=[]:=by cases h;rfl
theorem cons_inv{a:α}{as:List α}{bs:List β}(h:aR R (a::as) bs):∃ b r,bs=b::r/\R a b/\aR R as r:=by
 cases h with
 | cons r t=>exact⟨_,_,rfl,r,t⟩
end aR
mutual
noncomputable def aw(α:List Addr)(Z:Addr->Prop)(H:Hp):D->V->Prop
 | .non,v=>v=.non
 | .bl b,v=>v=.bl b
 | .int i,v=>v=.int i
 | .str x,v=>v=.str x
 | .lst ds,v=>∃ a vs,v=.ref a/\Z a/\Rd H a (.lst vs)/\dW α Z H ds vs
 | .tup ds,v=>∃ a vs,v=.ref a/\Z a/\H a=some (.tup vs)/\dW α Z H ds vs
 | .dct _ _,_=>False
 | .ref n,v=>∃ a,α[n]?=some a/\v=.ref a
noncomputable def dW(α:List Addr)(Z:Addr->Prop)(H:Hp):List D->List V->Prop
 | [],vs=>vs=[]
 | d::ds,vs=>∃ v r,vs=v::r/\aw α Z H d v/\dW α Z H ds r
end
theorem bj{α:List Addr}{Z:Addr->Prop}{H:Hp}:∀ {ds:List D} {vs:List V},dW α Z H ds vs↔aR (aw α Z H) ds vs
 | [],vs=>by
  simp only[dW];exact⟨fun h=>by subst h;exact .nil,fun h=>h.nil_inv⟩
 | d::ds,vs=>by
  simp only[dW];constructor
  ·rintro⟨v,r,rfl,h1,h2⟩
   exact .cons h1 (bj.mp h2)
  ·intro h
   obtain⟨v,r,rfl,h1,h2⟩:=h.cons_inv;exact⟨v,r,rfl,h1,bj.mpr h2⟩
section
variable{α α':List Addr}{Z Z':Addr->Prop}{H H':Hp}
mutual
theorem aw.mono(p:∀ (n:Nat) (a:Addr),α[n]?=some a->α'[n]?=some a)(k:∀ a o,Z a->H a=some o->H' a=some o)(z:∀ a,Z a->Z' a):∀ {d:D} {v:V},aw α Z H d v->aw α' Z' H' d v
 | .non,_,h=>by simpa only [aw] using h
 | .bl _,_,h=>by simpa only [aw] using h
 | .int _,_,h=>by simpa only [aw] using h
 | .str _,_,h=>by simpa only [aw] using h
 | .lst ds,v,h=>by
  simp only[aw]at h ⊢;obtain⟨a,vs,e,hz,hr,hs⟩:=h;exact⟨a,vs,e,z a hz,nz (fun o=>k a o hz) hr,dW.mono p k z hs⟩
 | .tup ds,v,h=>by
  simp only[aw]at h ⊢;obtain⟨a,vs,e,hz,hr,hs⟩:=h;exact⟨a,vs,e,z a hz,k a _ hz hr,dW.mono p k z hs⟩
 | .dct ks ds,v,h=>by simp only[aw]at h
 | .ref n,v,h=>by
  simp only[aw]at h ⊢;obtain⟨a,e,h⟩:=h;exact⟨a,p n a e,h⟩
theorem dW.mono(p:∀ (n:Nat) (a:Addr),α[n]?=some a->α'[n]?=some a)(k:∀ a o,Z a->H a=some o->H' a=some o)(z:∀ a,Z a->Z' a):∀ {ds:List D} {vs:List V},dW α Z H ds vs->dW α' Z' H' ds vs
 | [],_,h=>by simpa only [dW] using h
 | d::ds,vs,h=>by
  simp only[dW]at h ⊢;obtain⟨v,r,e,h1,h2⟩:=h;exact⟨v,r,e,aw.mono p k z h1,dW.mono p k z h2⟩
end
end
def BE{K:Type}(R:D->V->Prop)(kvs:List (K×D))(kvs':List (K×V)):Prop:=aR (fun p q=>p.1=q.1/\R p.2 q.2) kvs kvs'
variable [aL]
def hZ(κ:Str->Addr->Prop)(R:D->V->Prop)(H:Hp)(a:Addr):Cell->Prop
 | .lst ds=>∃ vs,H a=some (.lst vs)/\aR R ds vs
 | .dK kvs=>∃ kvs',H a=some (.dK kvs')/\BE R kvs kvs'
 | .dT kvs=>∃ kvs',H a=some (.dT kvs')/\BE R kvs kvs'
 | .ins C fs=>∃ Ca dx fs',κ C Ca/\H a=some (.ins Ca dx fs')/\BE R fs fs'
 | _=>False
theorem BE.imp{K:Type}{R S:D->V->Prop}(h:∀ d v,R d v->S d v){kvs:List (K×D)}{kvs':List (K×V)}(k:BE R kvs kvs'):BE S kvs kvs':=aR.imp (fun a b q=>⟨q.1,h _ _ q.2⟩) k
theorem hZ.imp{κ:Str->Addr->Prop}{R S:D->V->Prop}{H H':Hp}{a:Addr}{c:Cell}(h:∀ d v,R d v->S d v)(e:∀ o,H a=some o->H' a=some o)(z:∀ b o u,H b=some (.jG o u)->H' b=some (.jG o u))(k:hZ κ R H a c):hZ κ S H' a c:=by
 cases c with
 | lst ds=>obtain⟨vs,h1,h2⟩:=k;exact⟨vs,e _ h1,h2.imp h⟩
 | dK kvs=>obtain⟨vs,h1,h2⟩:=k;exact⟨vs,e _ h1,h2.imp h⟩
 | dT kvs=>obtain⟨vs,h1,h2⟩:=k;exact⟨vs,e _ h1,h2.imp h⟩
 | ins C fs=>obtain⟨Ca,dx,vs,h0,h1,h2⟩:=k;exact⟨Ca,dx,vs,h0,e _ h1,h2.imp h⟩
 | fn j nN=>exact k.elim
 | tb j p b=>exact k.elim
theorem hZ.some{κ:Str->Addr->Prop}{R:D->V->Prop}{H:Hp}{a:Addr}{c:Cell}(k:hZ κ R H a c):H a≠none:=by
 cases c with
 | lst ds=>obtain⟨vs,h1,h2⟩:=k;rw[h1];simp
 | dK kvs=>obtain⟨vs,h1,h2⟩:=k;rw[h1];simp
 | dT kvs=>obtain⟨vs,h1,h2⟩:=k;rw[h1];simp
 | ins C fs=>obtain⟨Ca,dx,vs,h0,h1,h2⟩:=k;rw[h1];simp
 | fn j nN=>exact k.elim
 | tb j p b=>exact k.elim
structure bO(κ:Str->Addr->Prop)(α:List Addr)(Z:Addr->Prop)(Ω:aF)(H:Hp):Prop where
 oJ:α.Nodup
 yz:aR (fun c a=>hZ κ (aw α Z H) H a c) Ω α
 sep:∀ a∈α,¬ Z a
 dom:∀ a,Z a->H a≠none
structure cg(α:List Addr)(Z:Addr->Prop)(H:Hp)(α':List Addr)(Z':Addr->Prop)(H':Hp):Prop where
 pre:∀ (n:Nat) (a:Addr),α[n]?=some a->α'[n]?=some a
 sub:∀ a,Z a->Z' a
 new:∀ a,Z' a->Z a\/H a=none
 C0:∀ a∈α',a∈α\/H a=none
 frm:∀ a o,H a=some o->a∉α->H' a=some o
 has:∀ a∈α,H' a≠none
section
variable{κ:Str->Addr->Prop}{α α' GK:List Addr}{Z Z' Qv:Addr->Prop}{Ω aq:aF}{H H' Ko:Hp}
theorem cg.refl(h:∀ a∈α,H a≠none):cg α Z H α Z H:=⟨fun _ _ e=>e,fun _ h=>h,fun _ h=>.inl h,fun _ h=>.inl h,fun _ _ e _=>e,h⟩
theorem bO.has(S:bO κ α Z Ω H):∀ a∈α,H a≠none:=fun a ha=>by
 obtain⟨n,hn⟩:=List.mem_iff_getElem?.mp ha;obtain⟨c,_,h⟩:=S.yz.CZ hn;exact h.some
theorem cg.none(g:cg α Z H α' Z' H'){a:Addr}(h:H' a=none):H a=none:=by
 cases q:H a with
 | none=>rfl
 | some o=>
  by_cases ha:a∈α
  ·exact absurd h (g.has a ha)
  ·rw[g.frm a o q ha]at h;cases h
theorem cg.trans(g:cg α Z H α' Z' H')(g':cg α' Z' H' GK Qv Ko):cg α Z H GK Qv Ko where
 pre:=fun n a e=>g'.pre n a (g.pre n a e)
 sub:=fun a h=>g'.sub a (g.sub a h)
 new:=fun a h=>by
  rcases g'.new a h with h | h
  ·exact g.new a h
  ·exact .inr (g.none h)
 C0:=fun a h=>by
  rcases g'.C0 a h with h | h
  ·exact g.C0 a h
  ·exact .inr (g.none h)
 frm:=fun a o e ha=>g'.frm a o (g.frm a o e ha) fun h=>by
  rcases g.C0 a h with h | h
  ·exact ha h
  ·rw[e]at h;cases h
 has:=fun a ha=>by
  obtain⟨n,hn⟩:=List.mem_iff_getElem?.mp ha;exact g'.has a (List.mem_of_getElem? (g.pre n a hn))
theorem bO.dX(S:bO κ α Z Ω H)(g:cg α Z H α' Z' H'){d:D}{v:V}(h:aw α Z H d v):aw α' Z' H' d v:=
 h.mono g.pre (fun a o z e=>g.frm a o e fun ha=>S.sep a ha z) g.sub
theorem bO.kZ(S:bO κ α Z Ω H)(g:cg α Z H α' Z' H'){ds:List D}{vs:List V}(h:aR (aw α Z H) ds vs):aR (aw α' Z' H') ds vs:=h.imp fun _ _ q=>S.dX g q
theorem bO.cell(S:bO κ α Z Ω H){n:Nat}{c:Cell}(e:Ω[n]?=some c):∃ a,α[n]?=some a/\hZ κ (aw α Z H) H a c:=S.yz.get e
theorem bO.len(S:bO κ α Z Ω H):α.length=Ω.length:=S.yz.length
theorem bO.xa(S:bO κ α Z Ω H){p:Addr}{o:HO}(h:H p=none)(z:Prop)[Decidable z]:bO κ α (if z then Zp Z p else Z) Ω (upd H p o)/\cg α Z H α (if z then Zp Z p else Z) (upd H p o):=by
 have hne:∀ a∈α,a≠p:=fun a ha e=>S.has a ha (e▸h)
 have C1:∀ a,Z a->a≠p:=fun a hz e=>S.dom a hz (e▸h)
 have sub:∀ a,Z a->(if z then Zp Z p else Z) a:=fun a ha=>by
  split
  ·exact .inl ha
  ·exact ha
 have g:cg α Z H α (if z then Zp Z p else Z) (upd H p o):=⟨fun _ _ e=>e,sub,fun a ha=>by
   split at ha
   ·rcases ha with ha | rfl
    ·exact .inl ha
    ·exact .inr h
   ·exact .inl ha,fun _ ha=>.inl ha,fun a u e _=>by rw[aI (br e h)];exact e,fun a ha=>by rw[aI (hne a ha)];exact S.has a ha⟩
 refine⟨⟨S.oJ,?_,fun a ha hz => ?_,fun a ha => ?_⟩,g⟩
 ·refine S.yz.imp fun c a hc => ?_
  refine hc.imp (fun d v r=>S.dX g r) (fun u e => ?_) fun b o' u' e => ?_
  ·rw[aI (br e h)];exact e
  ·rw[aI (br e h)];exact e
 ·split at hz
  ·rcases hz with hz | rfl
   ·exact S.sep a ha hz
   ·exact hne _ ha rfl
  ·exact S.sep a ha hz
 ·split at ha
  ·rcases ha with ha | rfl
   ·rw[aI (C1 a ha)];exact S.dom a ha
   ·rw[bE];simp
  ·rw[aI (C1 a ha)];exact S.dom a ha
theorem bO.laid(S:bO κ α Z Ω H){p:Addr}{o:HO}{c:Cell}(h:H p=none)(hc:∀ R:D->V->Prop,(∀ d v,aw α Z H d v->R d v)->hZ κ R (upd H p o) p c):bO κ (α++[p]) Z (Ω++[c]) (upd H p o)/\cg α Z H (α++[p]) Z (upd H p o):=by
 have hne:∀ a∈α,a≠p:=fun a ha e=>S.has a ha (e▸h)
 have C1:∀ a,Z a->a≠p:=fun a hz e=>S.dom a hz (e▸h)
 have g:cg α Z H (α++[p]) Z (upd H p o):=⟨fun n a e=>by rw[List.getElem?_append_left (List.getElem?_eq_some_iff.mp e).1];exact e,fun _ h=>h,fun _ h=>.inl h,fun a ha=>by
   rcases List.mem_append.mp ha with ha | ha
   ·exact .inl ha
   ·rw[List.mem_singleton.mp ha];exact .inr h,fun a u e _=>by rw[aI (br e h)];exact e,fun a ha=>by rw[aI (hne a ha)];exact S.has a ha⟩
 refine⟨⟨?_,?_,fun a ha hz => ?_,fun a ha=>by rw[aI (C1 a ha)];exact S.dom a ha⟩,g⟩
 ·refine List.nodup_append.mpr ⟨S.oJ,by simp,fun a ha b hb => ?_⟩
  rw[List.mem_singleton.mp hb];exact hne a ha
 ·refine aR.append (S.yz.imp fun c a hc => ?_) (.one (hc _ fun d v r=>S.dX g r))
  refine hc.imp (fun d v r=>S.dX g r) (fun u e => ?_) fun b o' u' e => ?_
  ·rw[aI (br e h)];exact e
  ·rw[aI (br e h)];exact e
 ·rcases List.mem_append.mp ha with ha | ha
  ·exact S.sep a ha hz
  ·rw[List.mem_singleton.mp ha]at hz;exact C1 _ hz rfl
theorem bO.put(S:bO κ α Z Ω H){n:Nat}{p:Addr}{o:HO}{c:Cell}(hn:α[n]?=some p)(hm:∀ o u,H p≠some (.jG o u))(hc:∀ R:D->V->Prop,(∀ d v,aw α Z H d v->R d v)->hZ κ R (upd H p o) p c):bO κ α Z (Ω.set n c) (upd H p o)/\cg α Z H α Z (upd H p o):=by
 have hpm:p∈α:=List.mem_of_getElem? hn
 have g:cg α Z H α Z (upd H p o):=⟨fun n a e=>e,fun _ h=>h,fun _ h=>.inl h,fun a ha=>.inl ha,fun a u e ha=>by rw[aI (fun (q:a=p)=>ha (by rw[q];exact hpm))];exact e,fun a ha=>by
   by_cases q:a=p
   ·subst q;rw[bE];simp
   ·rw[aI q];exact S.has a ha⟩
 refine⟨⟨S.oJ,?_,S.sep,fun a ha => ?_⟩,g⟩
 ·have key:∀ {cs:List Cell} {as:List Addr} {n:Nat},as.Nodup->aR (fun c a=>hZ κ (aw α Z H) H a c) cs as->as[n]?=some p->aR (fun c a=>hZ κ (aw α Z (upd H p o)) (upd H p o) a c) (cs.set n c) as:=by
   intro cs as n hnd hA
   induction hA generalizing n with
   | nil=>intro e;simp at e
   | @cons c' a' cs as r t ih=>
    intro e;have hnd':=List.nodup_cons.mp hnd;cases n with
    | zero=>
     simp at e;subst e;refine .cons (hc _ fun d v r=>S.dX g r) (aR.imp (fun _ _ q=>q) ?_)
     have:∀ {cs:List Cell} {as:List Addr},a'∉as->aR (fun c a=>hZ κ (aw α Z H) H a c) cs as->aR (fun c a=>hZ κ (aw α Z (upd H a' o)) (upd H a' o) a c) cs as:=by
      intro cs as hna hA
      induction hA with
      | nil=>exact .nil
      | @cons c1 a1 cs as r t ih=>
       refine .cons (r.imp (fun d v q=>S.dX g q) (fun u e => ?_) fun b o' u' e => ?_) (ih fun q=>hna (List.mem_cons_of_mem _ q))
       ·rw[aI (fun q=>hna (by rw[q];simp))];exact e
       ·rw[aI (fun q=>hm o' u' (by rw[← q];exact e))];exact e
     exact this hnd'.1 t
    | succ n=>
     have e':as[n]?=some p:=by simpa using e
     refine .cons (r.imp (fun d v q=>S.dX g q) (fun u eu => ?_) fun b o' u' eb => ?_) (ih hnd'.2 e')
     ·rw[aI (fun q=>hnd'.1 (by rw[q];exact List.mem_of_getElem? e'))];exact eu
     ·rw[aI (fun q=>hm o' u' (by rw[← q];exact eb))];exact eb
  exact key S.oJ S.yz hn
 ·by_cases q:a=p
  ·subst q;rw[bE];simp
  ·rw[aI q];exact S.dom a ha
end
end Mir
namespace Mir
open PySem PySem.Spec PyProof.Rows L2
variable [aL]
abbrev f_:=D->aF->List Addr->(Addr->Prop)->Hp->Prop
def cf(κ:Str->Addr->Prop)(Φ:f_)(α:List Addr)(Z:Addr->Prop)(H:Hp)(r:ax D)(Q:VK):Prop:=match r with
 | .ok d aq=>∀ v H' α' Z',cg α Z H α' Z' H'->bO κ α' Z' aq H'->aw α' Z' H' d v->Q v H'
 | .exc x aq=>∀ H' α' Z',cg α Z H α' Z' H'->bO κ α' Z' aq H'->Φ x aq α' Z' H'
 | .bad=>False
structure cB(κ:Str->Addr->Prop)(aG:List Addr)(Z0:Addr->Prop)(H0:Hp)(α:List Addr)(Z:Addr->Prop)(Ω:aF)(ρ:aU)(σ:L2.St)(H:Hp):Prop where
 st:bO κ α Z Ω H
 gr:cg aG Z0 H0 α Z H
 len:σ.length=ρ.length
 val:∀ (i:Nat) (d:D),ρ[i]?=some (some d)->∃ v,σ[i]?=some (some v)/\aw α Z H d v
abbrev EM:=aU->aF->ax D
noncomputable def tO(κ:Str->Addr->Prop)(Φ:f_)(aG:List Addr)(Z0:Addr->Prop)(H0:Hp)(m:EM)(ρ:aU)(Ω:aF):TE:=fun σ H Q=>
 ∃ α Z,cB κ aG Z0 H0 α Z Ω ρ σ H/\cf κ Φ α Z H (m ρ Ω) Q
def bz(X:Cx)(κ:Str->Addr->Prop)(Φ:f_)(e:Expr)(m:EM):Prop:=∀ aG Z0 H0 ρ Ω,PE X e (tO κ Φ aG Z0 H0 m ρ Ω)
section
variable{κ:Str->Addr->Prop}{Φ:f_}{α α' aG α1:List Addr}{Z Z' Z0 Z1:Addr->Prop}{Ω aq:aF}{H H' H0 H1:Hp}{ρ:aU}{σ:L2.St}{Q Q':VK}{r:ax D}
theorem cf.from(g:cg α Z H α1 Z1 H1)(h:cf κ Φ α Z H r Q):cf κ Φ α1 Z1 H1 r Q:=by
 cases r with
 | ok d aq=>exact fun v H' α' Z' g'=>h v H' α' Z' (g.trans g')
 | exc x aq=>exact fun H' α' Z' g'=>h H' α' Z' (g.trans g')
 | bad=>exact h
theorem cf.use{f:D->aF->ax D}(h:cf κ Φ α Z H (r.bind f) Q)(k:∀ d ak,r=.ok d ak->∀ v H1 α1 Z1,cg α Z H α1 Z1 H1->bO κ α1 Z1 ak H1->aw α1 Z1 H1 d v->cf κ Φ α1 Z1 H1 (f d ak) Q->Q' v H1):cf κ Φ α Z H r Q':=by
 cases r with
 | ok d ak=>exact fun v H1 α1 Z1 g s q=>k d ak rfl v H1 α1 Z1 g s q (cf.from g h)
 | exc x ak=>exact h
 | bad=>exact h
theorem cf.ret{d:D}{v:V}(S:bO κ α Z Ω H)(q:aw α Z H d v)(h:cf κ Φ α Z H (.ok d Ω) Q):Q v H:=h v H α Z (cg.refl S.has) S q
theorem cB.grow(S:cB κ aG Z0 H0 α Z Ω ρ σ H)(g:cg α Z H α' Z' H')(s:bO κ α' Z' aq H'):cB κ aG Z0 H0 α' Z' aq ρ σ H':=
 ⟨s,S.gr.trans g,S.len,fun i d e=>let ⟨v,h1,h2⟩:=S.val i d e;⟨v,h1,S.st.dX g h2⟩⟩
theorem ba{d:D}{v:V}(h:fy d=some v):aw α Z H d v:=by
 cases d<;>simp only[fy]at h<;>first | cases h;simp only[aw] | cases h
theorem sY{d:D}(h:eZ d=true):∃ v,fy d=some v:=by
 cases d<;>first | exact⟨_,rfl⟩ | cases h
theorem dz{d:D}{v w:V}(h:fy d=some w)(r:Rep Z H d v):v=w:=by
 cases d<;>simp only[fy]at h<;>first | (cases h;simpa only [Rep] using r) | cases h
noncomputable def bT{α β:Type}(f:α->Option β):List α->Option (List β)
 | []=>some []
 | x::xs=>match f x,bT f xs with
  | some y,some ys=>some (y::ys)
  | _,_=>none
def fj(Ω:aF):Nat->D->Option D
 | _,.non=>some .non
 | _,.bl b=>some (.bl b)
 | _,.int i=>some (.int i)
 | _,.str x=>some (.str x)
 | 0,_=>none
 | n + 1,.lst ds=>(bT (fj Ω n) ds).map .lst
 | n + 1,.tup ds=>(bT (fj Ω n) ds).map .tup
 | n + 1,.ref k=>match Ω[k]? with
  | some (.lst ds)=>(bT (fj Ω n) ds).map .lst
  | _=>none
 | _ + 1,.dct _ _=>none
def sZ(α:List Addr)(Z:Addr->Prop):Addr->Prop:=fun a=>Z a\/a∈α
theorem eO{f:D->Option D}{R:D->V->Prop}{S:D->V->Prop}(hf:∀ d d' v,f d=some d'->R d v->S d' v):∀ {ds es:List D} {vs:List V},bT f ds=some es->aR R ds vs->aR S es vs
 | [],es,vs,h,r=>by cases h;rw[r.nil_inv];exact .nil
 | d::ds,es,vs,h,r=>by
  simp only[bT]at h;split at h
  ·rename_i y ys h1 h2
   cases h;obtain⟨v,vs',rfl,r1,r2⟩:=r.cons_inv;exact .cons (hf d y v h1 r1) (eO hf h2 r2)
  ·cases h
theorem gz:∀ {ds:List D} {vs:List V},aR (Rep Z H) ds vs->aT Z H ds vs
 | _,_,.nil=>.nil
 | _,_,.cons r t=>.cons r (gz t)
theorem jY(S:bO κ α Z Ω H):∀ (n:Nat) {d d':D} {v:V},fj Ω n d=some d'->aw α Z H d v->Rep (sZ α Z) H d' v:=by
 intro n
 induction n with
 | zero=>
  intro d d' v h r;cases d<;>simp only[fj]at h<;>first | (cases h;simpa only [Rep,aw] using r) | cases h
 | succ n ih=>
  intro d d' v h r;cases d with
  | lst ds=>
   simp only[fj]at h;obtain⟨es,h1,rfl⟩:=Option.map_eq_some_iff.mp h;simp only[aw]at r;obtain⟨a,vs,rfl,hz,hr,hs⟩:=r;simp only[Rep];exact⟨a,vs,rfl,.inl hz,hr,gz (eO (S:=Rep (sZ α Z) H) (fun d d' v q r=>ih q r) h1 (bj.mp hs))⟩
  | tup ds=>
   simp only[fj]at h;obtain⟨es,h1,rfl⟩:=Option.map_eq_some_iff.mp h;simp only[aw]at r;obtain⟨a,vs,rfl,hz,hr,hs⟩:=r;simp only[Rep];exact⟨a,vs,rfl,.inl hz,.inl hr,gz (eO (S:=Rep (sZ α Z) H) (fun d d' v q r=>ih q r) h1 (bj.mp hs))⟩
  | ref k=>
   simp only[fj]at h;split at h
   ·rename_i ds hk
    obtain⟨es,h1,rfl⟩:=Option.map_eq_some_iff.mp h;obtain⟨a,ha,vs,hv,hs⟩:=S.cell hk;simp only[aw]at r;obtain⟨a',ha',rfl⟩:=r;rw[ha]at ha';cases ha';simp only[Rep];exact⟨a,vs,rfl,.inr (List.mem_of_getElem? ha),.inl hv,gz (eO (S:=Rep (sZ α Z) H) (fun d d' v q r=>ih q r) h1 hs)⟩
   ·cases h
  | dct _ _=>cases h
  | _=>simp only[fj]at h;cases h;simpa only [Rep,aw] using r
theorem cN(S:bO κ α Z Ω H):∀ a,sZ α Z a->H a≠none:=fun a h=>h.elim (S.dom a) (S.has a)
theorem bO.same(S:bO κ α Z Ω H)(h:lR H H'):bO κ α Z Ω H'/\cg α Z H α Z H':=by
 have g:cg α Z H α Z H':=⟨fun _ _ e=>e,fun _ z=>z,fun _ z=>.inl z,fun _ z=>.inl z,fun a o e _=>h a o e,fun a ha=>by
  cases q:H a with
  | none=>exact absurd q (S.has a ha)
  | some o=>rw[h a o q];simp⟩
 refine⟨⟨S.oJ,S.yz.imp fun c a hc=>hc.imp (fun d v r=>S.dX g r) (fun o e=>h a o e) fun b o u e=>h b _ e,S.sep,fun a z => ?_⟩,g⟩
 cases q:H a with
 | none=>exact absurd q (S.dom a z)
 | some o=>rw[h a o q];simp
theorem bO.adopt(S:bO κ α Z Ω H)(h:lR H H'){p:Addr}(hp:H p=none){c:Cell}(hc:∀ R:D->V->Prop,(∀ d v,aw α Z H' d v->R d v)->hZ κ R H' p c):bO κ (α++[p]) Z (Ω++[c]) H'/\cg α Z H (α++[p]) Z H':=by
 obtain⟨S1,g1⟩:=S.same h;have hne:∀ a∈α,a≠p:=fun a ha e=>S.has a ha (e▸hp)
 have C1:∀ a,Z a->a≠p:=fun a hz e=>S.dom a hz (e▸hp)
 have pre:∀ (n:Nat) (a:Addr),α[n]?=some a->(α++[p])[n]?=some a:=fun n a e=>by rw[List.getElem?_append_left (List.getElem?_eq_some_iff.mp e).1];exact e
 have mono:∀ d v,aw α Z H' d v->aw (α++[p]) Z H' d v:=fun d v r=>r.mono pre (fun _ _ _ e=>e) fun _ z=>z
 refine⟨⟨?_,?_,fun a ha hz => ?_,S1.dom⟩,⟨pre,fun _ z=>z,fun _ z=>.inl z,fun a ha => ?_,g1.frm,g1.has⟩⟩
 ·refine List.nodup_append.mpr ⟨S.oJ,by simp,fun a ha b hb => ?_⟩
  rw[List.mem_singleton.mp hb];exact hne a ha
 ·exact aR.append (S1.yz.imp fun c a hc=>hc.imp mono (fun _ e=>e) fun _ _ _ e=>e) (.one (hc _ mono))
 ·rcases List.mem_append.mp ha with ha | ha
  ·exact S.sep a ha hz
  ·rw[List.mem_singleton.mp ha]at hz;exact C1 _ hz rfl
 ·rcases List.mem_append.mp ha with ha | ha
  ·exact .inl ha
  ·rw[List.mem_singleton.mp ha];exact .inr hp
noncomputable def l5(Ω:aF)(c:Cell):ax D:=.ok (.ref Ω.length) (Ω++[c])
def fk(Ω:aF):Out Rs->ax D
 | .ok (own,d)=>if eZ d then .ok d Ω else match own,d with
  | true,.lst ds=>if ds.all eZ then l5 Ω (.lst ds) else .bad
  | _,_=>.bad
 | _=>.bad
theorem k6(S:bO κ α Z Ω H)(p:Addr):aw (α++[p]) Z H' (.ref Ω.length) (.ref p):=by
 simp only[aw];exact⟨p,by rw[← S.len];simp,rfl⟩
theorem mO:∀ {ds:List D} {vs:List V},ds.all eZ=true->aT Z1 H1 ds vs->aR (aw α Z H) ds vs
 | [],vs,_,r=>by rw[r.nil_inv];exact .nil
 | d::ds,vs,h,r=>by
  obtain⟨v,vs',rfl,r1,r2⟩:=r.cons_inv;simp only[List.all_cons,Bool.and_eq_true]at h;obtain⟨w,hw⟩:=sY h.1;obtain rfl:=dz hw r1;exact .cons (ba hw) (mO h.2 r2)
theorem iQ{bw:Bool}{r:Out Rs}(S:bO κ α Z Ω H)(h:cf κ Φ α Z H (fk Ω r) Q):∃ own d,r=.ok (own,d)/\∀ v H' Z1 Z',el Z1 H Z' H'->dU bw own Z' H H' d v->Q v H':=by
 cases r with
 | ok q=>
  obtain⟨own,d⟩:=q;refine⟨own,d,rfl,fun v H' Z1 Z' g q => ?_⟩
  simp only[fk]at h;split at h
  ·rename_i hf
   obtain⟨w,hw⟩:=sY hf
   have hv:v=w:=by
    have n:=q.nw;cases d with
    | non=>exact dz (Z:=Z') (H:=H') hw n
    | bl _=>exact dz (Z:=Z') (H:=H') hw n
    | int _=>exact dz (Z:=Z') (H:=H') hw n
    | str _=>exact dz (Z:=Z') (H:=H') hw n
    | _=>cases hf
   subst hv;obtain⟨S1,g1⟩:=S.same g.same;exact h v H' α Z g1 S1 (ba hw)
  ·split at h
   ·rename_i ds hnf
    split at h
    ·rename_i hf2
     unfold dU at q;rw[if_pos rfl]at q;obtain⟨a,vs,ds',e1,rfl,h1,h2,h3,h4⟩:=q;cases e1;obtain⟨S1,g1⟩:=S.adopt (c:=.lst ds) g.same h1 (fun R hR=>⟨vs,h3,(mO hf2 h4).imp hR⟩)
     exact h _ H' _ Z g1 S1 (k6 S a)
    ·exact h.elim
   ·exact h.elim
 | exc c fs=>exact h.elim
 | bad=>exact h.elim
end
def m1(f:D->aF->ax D)(ma:EM):EM:=fun ρ Ω=>(ma ρ Ω).bind f
def m2(f:D->D->aF->ax D)(ma mb:EM):EM:=fun ρ Ω=>(ma ρ Ω).bind fun x ak=>(mb ρ ak).bind fun y av=>f x y av
noncomputable def lM(a b:ax D):ax D:=match a with
 | .bad=>b
 | r=>r
def C3(f g:D->aF->ax D):D->aF->ax D:=fun x Ω=>lM (f x Ω) (g x Ω)
def fD(f g:D->D->aF->ax D):D->D->aF->ax D:=fun x y Ω=>lM (f x y Ω) (g x y Ω)
def nO(f g:EM):EM:=fun ρ Ω=>lM (f ρ Ω) (g ρ Ω)
def ji(f:D->Out Rs):D->aF->ax D:=fun x Ω=>match fj Ω 8 x with
 | some dx=>fk Ω (f dx)
 | none=>.bad
def fT(f:D->D->Out Rs):D->D->aF->ax D:=fun x y Ω=>match fj Ω 8 x,fj Ω 8 y with
 | some dx,some dy=>fk Ω (f dx dy)
 | _,_=>.bad
def fm(Ω:aF):D->Option Bool
 | .ref k=>match Ω[k]? with
  | some (.lst ds)=>some (!ds.isEmpty)
  | some (.dK kvs)=>some (!kvs.isEmpty)
  | _=>none
 | d=>jL d
def dJ:ax D->ax Bool
 | .ok d Ω=>match fm Ω d with
  | some b=>.ok b Ω
  | none=>.bad
 | .exc x Ω=>.exc x Ω
 | .bad=>.bad
def oK(κ:Str->Addr->Prop)(Φ:f_)(α:List Addr)(Z:Addr->Prop)(H:Hp)(r:ax Bool)(Q:Bool->Hp->Prop):Prop:=match r with
 | .ok b aq=>∀ H' α' Z',cg α Z H α' Z' H'->bO κ α' Z' aq H'->Q b H'
 | .exc x aq=>∀ H' α' Z',cg α Z H α' Z' H'->bO κ α' Z' aq H'->Φ x aq α' Z' H'
 | .bad=>False
def M0(κ:Str->Addr->Prop)(Φ:f_)(aG:List Addr)(Z0:Addr->Prop)(H0:Hp)(m:EM)(ρ:aU)(Ω:aF):TT:=fun σ H Q=>∃ α Z,cB κ aG Z0 H0 α Z Ω ρ σ H/\oK κ Φ α Z H (dJ (m ρ Ω)) Q
def gC(X:Cx)(κ:Str->Addr->Prop)(Φ:f_)(e:Expr)(m:EM):Prop:=∀ aG Z0 H0 ρ Ω,PT X e (M0 κ Φ aG Z0 H0 m ρ Ω)
abbrev AM:=aU->aF->ax (List D)
def pF(κ:Str->Addr->Prop)(Φ:f_)(α:List Addr)(Z:Addr->Prop)(H:Hp)(r:ax (List D))(Q:List V->Hp->Prop):Prop:=match r with
 | .ok ds aq=>∀ vs H' α' Z',cg α Z H α' Z' H'->bO κ α' Z' aq H'->aR (aw α' Z' H') ds vs->Q vs H'
 | .exc x aq=>∀ H' α' Z',cg α Z H α' Z' H'->bO κ α' Z' aq H'->Φ x aq α' Z' H'
 | .bad=>False
noncomputable def SO(κ:Str->Addr->Prop)(Φ:f_)(aG:List Addr)(Z0:Addr->Prop)(H0:Hp)(m:AM)(ρ:aU)(Ω:aF):TA:=fun σ H Q=>∃ α Z,cB κ aG Z0 H0 α Z Ω ρ σ H/\pF κ Φ α Z H (m ρ Ω) Q
def qz(X:Cx)(κ:Str->Addr->Prop)(Φ:f_)(es:List Expr)(m:AM):Prop:=∀ aG Z0 H0 ρ Ω,PA X es (SO κ Φ aG Z0 H0 m ρ Ω)
noncomputable def aj:AM:=fun _ Ω=>.ok [] Ω
def aa(a:EM)(as:AM):AM:=fun ρ Ω=>(a ρ Ω).bind fun x ak=>(as ρ ak).bind fun xs av=>.ok (x::xs) av
def mN(f:List D->aF->ax D)(as:AM):EM:=fun ρ Ω=>(as ρ Ω).bind f
section
variable{X:Cx}{κ:Str->Addr->Prop}{Φ:f_}{α α' aG α1:List Addr}{Z Z' Z0 Z1:Addr->Prop}{Ω aq:aF}{H H' H0 H1:Hp}{ρ:aU}{σ:L2.St}{Q Q':VK}{r:ax D}{a b e:Expr}{es:List Expr}{ma mb mc m:EM}{as:AM}{pos:Pos}
theorem pF.from{r:ax (List D)}{Q:List V->Hp->Prop}(g:cg α Z H α1 Z1 H1)(h:pF κ Φ α Z H r Q):pF κ Φ α1 Z1 H1 r Q:=by
 cases r with
 | ok d aq=>exact fun v H' α' Z' g'=>h v H' α' Z' (g.trans g')
 | exc x aq=>exact fun H' α' Z' g'=>h H' α' Z' (g.trans g')
 | bad=>exact h
theorem oK.from{r:ax Bool}{Q:Bool->Hp->Prop}(g:cg α Z H α1 Z1 H1)(h:oK κ Φ α Z H r Q):oK κ Φ α1 Z1 H1 r Q:=by
 cases r with
 | ok d aq=>exact fun H' α' Z' g'=>h H' α' Z' (g.trans g')
 | exc x aq=>exact fun H' α' Z' g'=>h H' α' Z' (g.trans g')
 | bad=>exact h
theorem pF.use{r:ax (List D)}{f:List D->aF->ax D}{Q':List V->Hp->Prop}(h:cf κ Φ α Z H (r.bind f) Q)(k:∀ ds ak,r=.ok ds ak->∀ vs H1 α1 Z1,cg α Z H α1 Z1 H1->bO κ α1 Z1 ak H1->aR (aw α1 Z1 H1) ds vs->cf κ Φ α1 Z1 H1 (f ds ak) Q->Q' vs H1):pF κ Φ α Z H r Q':=by
 cases r with
 | ok d ak=>exact fun v H1 α1 Z1 g s q=>k d ak rfl v H1 α1 Z1 g s q (cf.from g h)
 | exc x ak=>exact h
 | bad=>exact h
theorem PE.or{t u:TE}(h:PE X e t)(h':PE X e u):PE X e (fun σ H Q=>t σ H Q\/u σ H Q):=fun pins s σ H Q I q=>q.elim (h pins s σ H Q I) (h' pins s σ H Q I)
theorem PT.or{t u:TT}(h:PT X e t)(h':PT X e u):PT X e (fun σ H Q=>t σ H Q\/u σ H Q):=fun pins s σ H Q I q=>q.elim (h pins s σ H Q I) (h' pins s σ H Q I)
theorem mP{a b:ax D}:lM a b=a\/(a=.bad/\lM a b=b):=by cases a<;>simp[lM]
theorem bz.alt(h:bz X κ Φ e ma)(h':bz X κ Φ e mb):bz X κ Φ e (nO ma mb):=by
 intro aG Z0 H0 ρ Ω;refine PE.imp (PE.or (h aG Z0 H0 ρ Ω) (h' aG Z0 H0 ρ Ω)) ?_;rintro σ H Q ⟨α,Z,S,g⟩;rcases mP (a:=ma ρ Ω) (b:=mb ρ Ω) with q | ⟨_,q⟩
 ·exact .inl ⟨α,Z,S,by rw[← q];exact g⟩
 ·exact .inr ⟨α,Z,S,by rw[← q];exact g⟩
theorem gC.alt(h:gC X κ Φ e ma)(h':gC X κ Φ e mb):gC X κ Φ e (nO ma mb):=by
 intro aG Z0 H0 ρ Ω;refine PT.imp (PT.or (h aG Z0 H0 ρ Ω) (h' aG Z0 H0 ρ Ω)) ?_;rintro σ H Q ⟨α,Z,S,g⟩;rcases mP (a:=ma ρ Ω) (b:=mb ρ Ω) with q | ⟨_,q⟩
 ·exact .inl ⟨α,Z,S,by rw[← q];exact g⟩
 ·exact .inr ⟨α,Z,S,by rw[← q];exact g⟩
theorem gD{f g:D->D->aF->ax D}:m2 (fD f g) ma mb=nO (m2 f ma mb) (m2 g ma mb):=by
 funext ρ Ω
 simp only[m2,nO];cases ma ρ Ω with
 | ok x ak=>
  simp only[ax.bind];cases mb ρ ak with
  | ok y av=>rfl
  | exc x Ω=>rfl
  | bad=>rfl
 | exc x Ω=>rfl
 | bad=>rfl
theorem C4{f g:D->aF->ax D}:m1 (C3 f g) ma=nO (m1 f ma) (m1 g ma):=by
 funext ρ Ω
 simp only[m1,nO];cases ma ρ Ω with
 | ok x ak=>rfl
 | exc x Ω=>rfl
 | bad=>rfl
theorem iR{f:D->aF->ax D}{r:V->Hp->VK->Prop}(h:∀ ta,PE X a ta->PE X e fun σ H Q=>ta σ H fun x H1=>r x H1 Q)(ha:bz X κ Φ a ma)
  (hr:∀ dx x α Z Ω H Q,bO κ α Z Ω H->aw α Z H dx x->cf κ Φ α Z H (f dx Ω) Q->r x H Q):bz X κ Φ e (m1 f ma):=by
 intro aG Z0 H0 ρ Ω;refine PE.imp (h _ (ha aG Z0 H0 ρ Ω)) ?_;rintro σ H Q ⟨α,Z,S,g⟩;refine⟨α,Z,S,g.use fun d ak _ v H1 α1 Z1 g1 s1 r1 k1 => ?_⟩
 exact hr d v α1 Z1 ak H1 Q s1 r1 k1
theorem dA{f:D->D->aF->ax D}{r:R2}(h:∀ ta tb,PE X a ta->PE X b tb->PE X e (E_ r ta tb))(ha:bz X κ Φ a ma)(hb:bz X κ Φ b mb)
  (hr:∀ dx dy x y α Z Ω H Q,bO κ α Z Ω H->aw α Z H dx x->aw α Z H dy y->cf κ Φ α Z H (f dx dy Ω) Q->r x y H Q):bz X κ Φ e (m2 f ma mb):=by
 intro aG Z0 H0 ρ Ω;rcases q:ma ρ Ω with ⟨d,ak⟩ | ⟨x,ak⟩ | _
 ·refine PE.imp (h _ _ (ha aG Z0 H0 ρ Ω) (hb aG Z0 H0 ρ ak)) ?_
  rintro σ H Q ⟨α,Z,S,g⟩;refine⟨α,Z,S,cf.use g fun d' SQ e1 v H1 α1 Z1 g1 s1 r1 k1 => ?_⟩
  rw[q]at e1;cases e1;refine⟨α1,Z1,S.grow g1 s1,k1.use fun d2 av _ w H2 α2 Z2 g2 s2 r2 k2 => ?_⟩
  exact hr d d2 v w α2 Z2 av H2 Q s2 (s1.dX g2 r1) r2 k2
 ·refine PE.imp (h _ _ (ha aG Z0 H0 ρ Ω) (hb aG Z0 H0 ρ Ω)) ?_
  rintro σ H Q ⟨α,Z,S,g⟩;refine⟨α,Z,S,?_⟩;simp only[m2,q,ax.bind]at g ⊢;exact g
 ·refine PE.imp (h _ _ (ha aG Z0 H0 ρ Ω) (hb aG Z0 H0 ρ Ω)) ?_
  rintro σ H Q ⟨α,Z,S,g⟩;simp only[m2,q,ax.bind]at g;exact g.elim
theorem k7{bw:Bool}{f:D->Out Rs}{dx:D}{x:V}(S:bO κ α Z Ω H)(hx:aw α Z H dx x)(h:cf κ Φ α Z H (ji f dx Ω) Q) :
  ∃ d own d',Now (sZ α Z) H d x/\f d=.ok (own,d')/\∀ v H' Z',el (sZ α Z) H Z' H'->dU bw own Z' H H' d' v->Q v H':=by
 unfold ji at h;split at h
 ·rename_i d hd
  obtain⟨own,d',e,k⟩:=iQ (bw:=bw) S h;exact⟨d,own,d',(jY S 8 hd hx).now,e,fun v H' Z' g q=>k v H' _ Z' g q⟩
 ·exact h.elim
theorem gE{bw:Bool}{f:D->D->Out Rs}{dx dy:D}{x y:V}(S:bO κ α Z Ω H)(hx:aw α Z H dx x)(hy:aw α Z H dy y)(h:cf κ Φ α Z H (fT f dx dy Ω) Q) :
  ∃ d e own d',Now (sZ α Z) H d x/\Now (sZ α Z) H e y/\f d e=.ok (own,d')/\∀ v H' Z',el (sZ α Z) H Z' H'->dU bw own Z' H H' d' v->Q v H':=by
 unfold fT at h;split at h
 ·rename_i d e hd he
  obtain⟨own,d',e1,k⟩:=iQ (bw:=bw) S h;exact⟨d,e,own,d',(jY S 8 hd hx).now,(jY S 8 he hy).now,e1,fun v H' Z' g q=>k v H' _ Z' g q⟩
 ·exact h.elim
theorem zI{i:Nat}{x:Str}(hN:X.N[i]?=some x)(hv:yw X.env.scope x)(hd:(x == ("__debug__":Str))=false)(hcd:(x == ("__classdict__":Str))=false):bz X κ Φ (.Name x pos) (fun ρ Ω=>match ρ[i]? with | some (some d)=>.ok d Ω | _=>.bad):=by
 intro aG Z0 H0 ρ Ω;refine PE.imp (km hN hv hd hcd) ?_;rintro σ H Q ⟨α,Z,S,g⟩;dsimp only at g;split at g
 ·rename_i d hd
  obtain⟨v,h1,h2⟩:=S.val i d hd;exact⟨v,h1,cf.ret S.st h2 g⟩
 ·exact g.elim
theorem iS{d:D}{v:V}(h:PE X e (tC v))(hf:fy d=some v):bz X κ Φ e (fun _ Ω=>.ok d Ω):=by
 intro aG Z0 H0 ρ Ω;refine PE.imp h ?_;rintro σ H Q ⟨α,Z,S,g⟩;exact cf.ret S.st (ba hf) g
noncomputable def dB(Ω:aF):D->Option (List D)
 | .ref k=>match Ω[k]? with
  | some (.lst ds)=>some ds
  | _=>none
 | .lst ds=>some ds
 | _=>none
theorem bF{x:D}{v:V}{ds:List D}(S:bO κ α Z Ω H)(r:aw α Z H x v)(h:dB Ω x=some ds):∃ a vs,v=.ref a/\Rd H a (.lst vs)/\aR (aw α Z H) ds vs:=by
 cases x with
 | ref k=>
  simp only[dB]at h;split at h
  ·rename_i ds' hk
   cases h;simp only[aw]at r;obtain⟨a,ha,rfl⟩:=r;obtain⟨a',ha',vs,h1,h2⟩:=S.cell hk;rw[ha]at ha';cases ha';exact⟨a,vs,rfl,.inl h1,h2⟩
  ·cases h
 | lst es=>
  cases h;simp only[aw]at r;obtain⟨a,vs,rfl,_,h1,h2⟩:=r;exact⟨a,vs,rfl,h1,bj.mp h2⟩
 | _=>cases h
theorem fU{x:V}{ds:List D}(r:aw α Z H (.tup ds) x):∃ a vs,x=.ref a/\Z a/\H a=some (.tup vs)/\aR (aw α Z H) ds vs:=by
 simp only[aw]at r;obtain⟨a,vs,e,h0,h1,h2⟩:=r;exact⟨a,vs,e,h0,h1,bj.mp h2⟩
theorem eQ{ds:List D}{vs:List V}(S:bO κ α Z Ω H)(r:aR (aw α Z H) ds vs)(k:cf κ Φ α Z H (l5 Ω (.lst ds)) Q):∀ p,H p=none->Q (.ref p) (upd H p (.lst vs)):=fun p hp=>by
 obtain⟨S1,g1⟩:=S.laid (p:=p) (o:=.lst vs) (c:=.lst ds) hp fun R hR=>⟨vs,bE,r.imp hR⟩
 exact k _ _ _ Z g1 S1 (k6 S p)
theorem gF{ds:List D}{vs:List V}(S:bO κ α Z Ω H)(r:aR (aw α Z H) ds vs)(k:cf κ Φ α Z H (.ok (.tup ds) Ω) Q):∀ p,H p=none->Q (.ref p) (upd H p (.tup vs)):=fun p hp=>by
 obtain⟨S1,g1⟩:=S.xa (p:=p) (o:=.tup vs) hp True;simp only[if_true]at S1 g1;refine k _ _ _ _ g1 S1 ?_;simp only[aw];exact⟨p,vs,rfl,.inr rfl,bE,bj.mpr (S.kZ g1 r)⟩
theorem nP:qz X κ Φ [] aj:=by
 intro aG Z0 H0 ρ Ω;refine PA.imp iu ?_;rintro σ H Q ⟨α,Z,S,g⟩;exact g [] H α Z (cg.refl S.st.has) S.st .nil
theorem k9(ha:bz X κ Φ e ma)(hr:qz X κ Φ es as)(hs:starEach (e::es) X.env=(false,eval e X.env)::starEach es X.env):qz X κ Φ (e::es) (aa ma as):=by
 intro aG Z0 H0 ρ Ω;rcases q:ma ρ Ω with ⟨d,ak⟩ | ⟨x,ak⟩ | _
 ·refine PA.imp (c9 (ha aG Z0 H0 ρ Ω) (hr aG Z0 H0 ρ ak) hs) ?_
  rintro σ H Q ⟨α,Z,S,g⟩;refine⟨α,Z,S,?_⟩;simp only[aa,q,ax.bind]at g ⊢;intro v H1 α1 Z1 g1 s1 r1;refine⟨α1,Z1,S.grow g1 s1,?_⟩;have g:=pF.from g1 g
  rcases q2:as ρ ak with ⟨ds,av⟩ | ⟨x,av⟩ | _
  ·rw[q2]at g
   intro vs H2 α2 Z2 g2 s2 r2;exact g _ _ _ _ g2 s2 (.cons (s1.dX g2 r1) r2)
  ·rw[q2]at g;exact g
  ·rw[q2]at g;exact g
 ·refine PA.imp (c9 (ha aG Z0 H0 ρ Ω) (hr aG Z0 H0 ρ Ω) hs) ?_
  rintro σ H Q ⟨α,Z,S,g⟩;refine⟨α,Z,S,?_⟩;simp only[aa,q,ax.bind]at g ⊢;exact g
 ·refine PA.imp (c9 (ha aG Z0 H0 ρ Ω) (hr aG Z0 H0 ρ Ω) hs) ?_
  rintro σ H Q ⟨α,Z,S,g⟩;simp only[aa,q,ax.bind]at g;exact g.elim
def bA(ds:List D)(Ω:aF):ax D:=if small ds.length then l5 Ω (.lst ds) else .bad
def pG(ds:List D)(Ω:aF):ax D:=if small ds.length then .ok (.tup ds) Ω else .bad
theorem zJ(h:qz X κ Φ es as):bz X κ Φ (.List es pos) (mN bA as):=by
 intro aG Z0 H0 ρ Ω;refine PE.imp (CC (h aG Z0 H0 ρ Ω)) ?_;rintro σ H Q ⟨α,Z,S,g⟩;refine⟨α,Z,S,pF.use g fun ds ak _ vs H1 α1 Z1 g1 s1 r1 k1 => ?_⟩
 unfold bA at k1;split at k1
 ·rename_i hs
  exact⟨by rw[r1.length];exact bS hs,eQ s1 r1 k1⟩
 ·exact k1.elim
theorem zK{x1}(h:qz X κ Φ es as):bz X κ Φ (.Tuple es x1 pos) (mN pG as):=by
 intro aG Z0 H0 ρ Ω;refine PE.imp (vB (h aG Z0 H0 ρ Ω)) ?_;rintro σ H Q ⟨α,Z,S,g⟩;refine⟨α,Z,S,pF.use g fun ds ak _ vs H1 α1 Z1 g1 s1 r1 k1 => ?_⟩
 unfold pG at k1;split at k1
 ·rename_i hs
  exact⟨by rw[r1.length];exact bS hs,gF s1 r1 k1⟩
 ·exact k1.elim
def rn(x y:D)(Ω:aF):ax D:=match dB Ω x,dB Ω y with
 | some xs,some ys=>if small (xs.length + ys.length) then l5 Ω (.lst (xs++ys)) else .bad
 | _,_=>.bad
def nQ(x y:D)(Ω:aF):ax D:=match x,y with
 | .tup xs,.tup ys=>if small (xs.length + ys.length) then .ok (.tup (xs++ys)) Ω else .bad
 | _,_=>.bad
def aJ(op:Operator):D->D->aF->ax D:=match op with
 | .Add=>fD rn (fD nQ (fT (fw .Add)))
 | op=>fT (fw op)
theorem zL{op:Operator}(ha:bz X κ Φ a ma)(hb:bz X κ Φ b mb):bz X κ Φ (.BinOp a op b pos) (m2 (aJ op) ma mb):=by
 have E:bz X κ Φ (.BinOp a op b pos) (m2 (fT (fw op)) ma mb):=dA (r:=zj op) (fun ta tb pa pb=>vt (wa op) pa pb) ha hb fun dx dy x y α Z Ω H Q S rx ry g=>by
  obtain⟨d,e,own,d',n1,n2,e1,k⟩:=gE (bw:=false) S rx ry g;exact CM (bw:=false) n1 n2 (cN S) e1 k
 have C:op=.Add->bz X κ Φ (.BinOp a op b pos) (m2 rn ma mb):=fun e=>by
  subst e;refine dA (r:=zj .Add) (fun ta tb pa pb=>vt (wa .Add) pa pb) ha hb fun dx dy x y α Z Ω H Q S rx ry g => ?_
  unfold rn at g;split at g
  ·rename_i xs ys h1 h2
   obtain⟨l,vs,rfl,p1,p2⟩:=bF S rx h1;obtain⟨n,ws,rfl,p3,p4⟩:=bF S ry h2;split at g
   ·rename_i hs
    exact .inr (.inr ⟨l,n,vs,ws,rfl,rfl,p1,p3,by rw[p2.length,p4.length];exact bS hs,eQ S (p2.append p4) g⟩)
   ·exact g.elim
  ·exact g.elim
 have C2:op=.Add->bz X κ Φ (.BinOp a op b pos) (m2 nQ ma mb):=fun e=>by
  subst e;refine dA (r:=fun x y H Q=>Bv X.K x y H Q\/Bw X.K x y H Q) (fun ta tb pa pb=>vt (yY.or y8) pa pb) ha hb fun dx dy x y α Z Ω H Q S rx ry g => ?_
  unfold nQ at g;split at g
  ·rename_i xs ys
   simp only[aw]at rx ry;obtain⟨a1,vs,rfl,z1,p1,q1⟩:=rx;obtain⟨b1,ws,rfl,z2,p2,q2⟩:=ry;have q1:=bj.mp q1;have q2:=bj.mp q2;split at g
   ·rename_i hs
    by_cases hx:vs=[]
    ·subst hx
     have e1:xs=[]:=by have:=q1.length;simp at this;exact List.length_eq_zero_iff.mp this.symm
     subst e1;refine .inr ⟨a1,b1,ws,rfl,rfl,f7.of p1,f7.of p2,cf.ret S ?_ g⟩;simp only[aw,List.nil_append];exact⟨b1,ws,rfl,z2,p2,bj.mpr q2⟩
    ·refine .inl ⟨a1,b1,vs,ws,rfl,rfl,f7.of p1,f7.of p2,hx,by rw[q1.length,q2.length];exact bS hs,fun hy => ?_,fun _=>gF S (q1.append q2) g⟩
     subst hy;have e1:ys=[]:=by have:=q2.length;simp at this;exact List.length_eq_zero_iff.mp this.symm
     subst e1;refine cf.ret S ?_ g;simp only[aw,List.append_nil];exact⟨a1,vs,rfl,z1,p1,bj.mpr q1⟩
   ·exact g.elim
  ·exact g.elim
 cases op with
 | Add=>show bz X κ Φ _ (m2 (fD rn (fD nQ (fT (fw .Add)))) ma mb);rw[gD,gD];exact(C rfl).alt ((C2 rfl).alt E)
 | _=>exact E
def ro:D->aF->ax D:=ji fun x=>match x with | .int i=>.ok (false,.int (-i)) | _=>.bad
theorem zM(ha:bz X κ Φ a ma):bz X κ Φ (.UnaryOp .USub a pos) (m1 ro ma):=
 iR (r:=rU fun i=>.int (-i)) (fun ta pa=>FG CA pa) ha fun dx x α Z Ω H Q S rx g=>by
  obtain⟨d,own,d',n1,e1,k⟩:=k7 (bw:=false) S rx g;split at e1
  ·cases bc n1
   cases e1;exact⟨_,rfl,k _ H _ (el.refl (cN S)) (.rep (eH rfl))⟩
  ·cases e1
end
section
variable{κ:Type}[DecidableEq κ]{R:D->V->Prop}
theorem BE.length{kvs:List (κ×D)}{kvs':List (κ×V)}(h:BE R kvs kvs'):kvs'.length=kvs.length:=aR.length h
end
section
variable{X:Cx}{κ:Str->Addr->Prop}{Φ:f_}{α α' aG α1:List Addr}{Z Z' Z0 Z1:Addr->Prop}{Ω aq:aF}{H H' H0 H1:Hp}{ρ:aU}{σ:L2.St}{Q Q':VK}{r:ax D}{a b e:Expr}{es:List Expr}{ma mb mc m:EM}{as:AM}{pos:Pos}
noncomputable def C5(Ω:aF)(x y:D):Option (Option D):=none
def cC(op:CmpOp):D->D->aF->ax D:=fT fun x y=>do let r ← ek op x y;Out.ok (false,D.bl r)
def iz(neg:Bool)(y x:D)(Ω:aF):ax D:=match C5 Ω x y with
 | some o=>.ok (.bl (if neg then !o.isSome else o.isSome)) Ω
 | none=>.bad
noncomputable def ft(neg:Bool)(x y:D)(Ω:aF):ax D:=match x,y with
 | .ref _,.non=>.ok (.bl neg) Ω
 | _,_=>.bad
def au(op:CmpOp):D->D->aF->ax D:=match op with
 | .In=>fD (cC .In) (iz false)
 | .NotIn=>fD (cC .NotIn) (iz true)
 | .Is=>fD (ft false) (cC .Is)
 | .IsNot=>fD (ft true) (cC .IsNot)
 | op=>cC op
theorem iT{f:D->D->aF->ax D}{r:R2}(h:∀ ta tb,PE X a ta->PE X b tb->PT X e (vx (E_ r ta tb)))(ha:bz X κ Φ a ma)(hb:bz X κ Φ b mb)(GL:∀ x y Ω d aq,f x y Ω=.ok d aq->∃ t,d=.bl t)
  (hr:∀ dx dy x y α Z Ω H Q,bO κ α Z Ω H->aw α Z H dx x->aw α Z H dy y->cf κ Φ α Z H (f dx dy Ω) Q->r x y H Q):gC X κ Φ e (m2 f ma mb):=by
 intro aG Z0 H0 ρ Ω;rcases q:ma ρ Ω with ⟨d,ak⟩ | ⟨x,ak⟩ | _
 ·refine PT.imp (h _ _ (ha aG Z0 H0 ρ Ω) (hb aG Z0 H0 ρ ak)) ?_
  rintro σ H Q ⟨α,Z,S,g⟩;refine⟨α,Z,S,?_⟩;simp only[m2,q,ax.bind]at g ⊢;intro v H1 α1 Z1 g1 s1 r1;refine⟨α1,Z1,S.grow g1 s1,?_⟩;have g:=oK.from g1 g
  rcases q2:mb ρ ak with ⟨d2,av⟩ | ⟨x,av⟩ | _
  ·rw[q2]at g
   intro w H2 α2 Z2 g2 s2 r2;refine hr d d2 v w α2 Z2 av H2 _ s2 (s1.dX g2 r1) r2 ?_;have g:=oK.from g2 g
   dsimp only[ax.bind]at g;rcases q3:f d d2 av with ⟨d3,aM⟩ | ⟨x,aM⟩ | _
   ·rw[q3]at g
    obtain⟨t,rfl⟩:=GL _ _ _ _ _ q3;intro u H3 α3 Z3 g3 s3 r3;simp only[aw]at r3;exact⟨t,r3,g H3 α3 Z3 g3 s3⟩
   ·rw[q3]at g;exact g
   ·rw[q3]at g;exact g
  ·rw[q2]at g;exact g
  ·rw[q2]at g;exact g
 ·refine PT.imp (h _ _ (ha aG Z0 H0 ρ Ω) (hb aG Z0 H0 ρ Ω)) ?_
  rintro σ H Q ⟨α,Z,S,g⟩;refine⟨α,Z,S,?_⟩;simp only[m2,q,ax.bind,dJ]at g ⊢;exact g
 ·refine PT.imp (h _ _ (ha aG Z0 H0 ρ Ω) (hb aG Z0 H0 ρ Ω)) ?_
  rintro σ H Q ⟨α,Z,S,g⟩;simp only[m2,q,ax.bind,dJ]at g;exact g.elim
noncomputable def C6(neg:Bool):R2:=fun _ _ _ _=>False
theorem xb(hu:X.A.units + 1 < cLine):f9 X (compareOp .In) (C6 false):=by
 intro pins s σ H x y u v Q I rx ry h;exact(show False from h).elim
theorem mQ(hu:X.A.units + 1 < cLine):f9 X (compareOp .NotIn) (C6 true):=by
 intro pins s σ H x y u v Q I rx ry h;exact(show False from h).elim
theorem nR{op:CmpOp}{dx dy:D}{x y:V}(S:bO κ α Z Ω H)(rx:aw α Z H dx x)(ry:aw α Z H dy y)(g:cf κ Φ α Z H (cC op dx dy Ω) Q):wd op x y H Q:=by
 obtain⟨d,e,own,d',n1,n2,e1,k⟩:=gE (bw:=false) S rx ry g;exact CN (bw:=false) n1 n2 (cN S) e1 k
theorem nS{neg:Bool}{dx dy:D}{x y:V}(S:bO κ α Z Ω H)(rx:aw α Z H dx x)(ry:aw α Z H dy y)(g:cf κ Φ α Z H (iz neg dx dy Ω) Q):C6 neg x y H Q:=(show False from g).elim
theorem nT{neg:Bool}{op:CmpOp}(hop:op=if neg then .IsNot else .Is){dx dy:D}{x y:V}(S:bO κ α Z Ω H)(rx:aw α Z H dx x)(ry:aw α Z H dy y)(g:cf κ Φ α Z H (ft neg dx dy Ω) Q) :
  (if neg then (y=.non/\Q (.bl (!decide (x=.non))) H) else (y=.non/\Q (.bl (decide (x=.non))) H)):=by
 unfold ft at g;split at g
 ·simp only[aw]at rx ry
  obtain⟨a,_,rfl⟩:=rx;have:=cf.ret S (ba (d:=.bl neg) rfl) g;cases neg
  ·exact⟨ry,this⟩
  ·exact⟨ry,this⟩
 ·exact g.elim
theorem nU{op:CmpOp}:∀ x y Ω d aq,cC op x y Ω=.ok d aq->∃ t,d=.bl t:=fun x y Ω d aq h=>by
 unfold cC fT at h;split at h
 ·rename_i dx dy _ _
  dsimp only at h;cases q:ek op dx dy with
  | ok t=>
   have e:(do let r ← ek op dx dy;Out.ok (false,D.bl r))=Out.ok (false,D.bl t):=by rw[q];rfl
   rw[e]at h;simp only[fk,eZ,if_true]at h;cases h;exact⟨_,rfl⟩
  | exc c fs=>
   have e:(do let r ← ek op dx dy;Out.ok (false,D.bl r))=Out.exc c fs:=by rw[q];rfl
   rw[e]at h;cases h
  | bad=>
   have e:(do let r ← ek op dx dy;Out.ok (false,D.bl r))=Out.bad:=by rw[q];rfl
   rw[e]at h;cases h
 ·cases h
theorem s_{neg:Bool}:∀ x y Ω d aq,iz neg x y Ω=.ok d aq->∃ t,d=.bl t:=fun x y Ω d aq h=>by
 unfold iz at h;split at h
 ·cases h;exact⟨_,rfl⟩
 ·cases h
theorem tf{neg:Bool}:∀ x y Ω d aq,ft neg x y Ω=.ok d aq->∃ t,d=.bl t:=fun x y Ω d aq h=>by
 unfold ft at h;split at h
 ·cases h;exact⟨_,rfl⟩
 ·cases h
theorem nV{op:CmpOp}(hu:X.A.units + 64 < cLine)(hm:behindInMarks op b=false)(ha:bz X κ Φ a ma)(hb:bz X κ Φ b mb):bz X κ Φ (.Compare a [op] [b] pos) (m2 (au op) ma mb)/\gC X κ Φ (.Compare a [op] [b] pos) (m2 (au op) ma mb):=by
 have E:bz X κ Φ (.Compare a [op] [b] pos) (m2 (cC op) ma mb):=dA (fun ta tb pa pb=>iG (jd hu op) pa pb hm) ha hb fun dx dy x y α Z Ω H Q S rx ry g=>nR S rx ry g
 have T:gC X κ Φ (.Compare a [op] [b] pos) (m2 (cC op) ma mb):=iT (fun ta tb pa pb=>iH (jd hu op) pa pb hm) ha hb nU fun dx dy x y α Z Ω H Q S rx ry g=>nR S rx ry g
 have hu1:X.A.units + 1 < cLine:=by omega
 cases op with
 | In=>
  have E2:bz X κ Φ (.Compare a [.In] [b] pos) (m2 (iz false) ma mb):=dA (fun ta tb pa pb=>iG (xb hu1) pa pb hm) ha hb fun dx dy x y α Z Ω H Q S rx ry g=>nS S rx ry g
  have T2:gC X κ Φ (.Compare a [.In] [b] pos) (m2 (iz false) ma mb):=iT (fun ta tb pa pb=>iH (xb hu1) pa pb hm) ha hb s_ fun dx dy x y α Z Ω H Q S rx ry g=>nS S rx ry g
  show bz X κ Φ _ (m2 (fD (cC .In) (iz false)) ma mb)/\gC X κ Φ _ (m2 (fD (cC .In) (iz false)) ma mb)
  rw[gD];exact⟨E.alt E2,T.alt T2⟩
 | NotIn=>
  have E2:bz X κ Φ (.Compare a [.NotIn] [b] pos) (m2 (iz true) ma mb):=dA (fun ta tb pa pb=>iG (mQ hu1) pa pb hm) ha hb fun dx dy x y α Z Ω H Q S rx ry g=>nS S rx ry g
  have T2:gC X κ Φ (.Compare a [.NotIn] [b] pos) (m2 (iz true) ma mb):=iT (fun ta tb pa pb=>iH (mQ hu1) pa pb hm) ha hb s_ fun dx dy x y α Z Ω H Q S rx ry g=>nS S rx ry g
  show bz X κ Φ _ (m2 (fD (cC .NotIn) (iz true)) ma mb)/\gC X κ Φ _ (m2 (fD (cC .NotIn) (iz true)) ma mb)
  rw[gD];exact⟨E.alt E2,T.alt T2⟩
 | Is=>
  have E2:bz X κ Φ (.Compare a [.Is] [b] pos) (m2 (ft false) ma mb):=dA (fun ta tb pa pb=>iG vv pa pb hm) ha hb fun dx dy x y α Z Ω H Q S rx ry g=>nT (neg:=false) (op:=.Is) rfl S rx ry g
  have T2:gC X κ Φ (.Compare a [.Is] [b] pos) (m2 (ft false) ma mb):=iT (fun ta tb pa pb=>iH vv pa pb hm) ha hb tf fun dx dy x y α Z Ω H Q S rx ry g=>nT (neg:=false) (op:=.Is) rfl S rx ry g
  show bz X κ Φ _ (m2 (fD (ft false) (cC .Is)) ma mb)/\gC X κ Φ _ (m2 (fD (ft false) (cC .Is)) ma mb)
  rw[gD];exact⟨E2.alt E,T2.alt T⟩
 | IsNot=>
  have E2:bz X κ Φ (.Compare a [.IsNot] [b] pos) (m2 (ft true) ma mb):=dA (fun ta tb pa pb=>iG r_ pa pb hm) ha hb fun dx dy x y α Z Ω H Q S rx ry g=>nT (neg:=true) (op:=.IsNot) rfl S rx ry g
  have T2:gC X κ Φ (.Compare a [.IsNot] [b] pos) (m2 (ft true) ma mb):=iT (fun ta tb pa pb=>iH r_ pa pb hm) ha hb tf fun dx dy x y α Z Ω H Q S rx ry g=>nT (neg:=true) (op:=.IsNot) rfl S rx ry g
  show bz X κ Φ _ (m2 (fD (ft true) (cC .IsNot)) ma mb)/\gC X κ Φ _ (m2 (fD (ft true) (cC .IsNot)) ma mb)
  rw[gD];exact⟨E2.alt E,T2.alt T⟩
 | Eq=>exact⟨E,T⟩
 | NotEq=>exact⟨E,T⟩
 | Lt=>exact⟨E,T⟩
 | LtE=>exact⟨E,T⟩
 | Gt=>exact⟨E,T⟩
 | GtE=>exact⟨E,T⟩
def eW(Ω:aF)(x:D):Option (List D):=match x with
 | .tup ds=>some ds
 | x=>dB Ω x
def zN(x y:D)(Ω:aF):ax D:=match eW Ω x,y with
 | some ds,.int i=>match L2.i9 ds i with
  | some d=>.ok d Ω
  | none=>.bad
 | _,_=>.bad
def GO(x y:D)(Ω:aF):ax D:=match C5 Ω x y with
 | some (some d)=>.ok d Ω
 | _=>.bad
def aA:D->D->aF->ax D:=fD zN (fD GO (fT qQ))
theorem k_{x:D}{v:V}{ds:List D}{K:PySem.W.Frag}(S:bO κ α Z Ω H)(r:aw α Z H x v)(h:eW Ω x=some ds):∃ a vs,v=.ref a/\(ju K H a vs\/f7 K H a vs)/\aR (aw α Z H) ds vs:=by
 unfold eW at h;split at h
 ·cases h
  obtain⟨a,vs,rfl,_,h1,h2⟩:=fU r;exact⟨a,vs,rfl,.inr (uq (.inl h1)),h2⟩
 ·obtain⟨a,vs,rfl,h1,h2⟩:=bF S r h
  exact⟨a,vs,rfl,.inl (jc h1),h2⟩
theorem zO{ds:List D}{vs:List V}{R:D->V->Prop}{i:Int}{d:D}(r:aR R ds vs)(h:L2.i9 ds i=some d):∃ v,L2.i9 vs i=some v/\R d v:=by
 unfold L2.i9 at h ⊢;rw[r.length];cases q:L2.sr ds.length i with
 | none=>rw[q]at h;cases h
 | some n=>rw[q]at h;exact r.get h
theorem zP(hu:X.A.units + 1 < cLine)(hs:sv b)(ha:bz X κ Φ a ma)(hb:bz X κ Φ b mb):bz X κ Φ (.Subscript a b pos) (m2 aA ma mb):=by
 unfold aA;rw[gD,gD];refine bz.alt ?_ (bz.alt ?_ ?_)
 ·refine dA (r:=FZ X.K) (fun ta tb pa pb=>vH qM pa pb hs) ha hb fun dx dy x y α Z Ω H Q S rx ry g => ?_
  unfold zN at g;split at g
  ·rename_i ds i h1
   obtain⟨p,vs,rfl,h2,h3⟩:=k_ (K:=X.K) S rx h1;simp only[aw]at ry;subst ry;split at g
   ·rename_i d hd
    obtain⟨v,h4,h5⟩:=zO h3 hd;rcases h2 with h2 | h2
    ·exact .inl ⟨p,vs,i,v,rfl,rfl,h2,h4,cf.ret S h5 g⟩
    ·exact .inr (.inl ⟨p,vs,i,v,rfl,rfl,h2,h4,cf.ret S h5 g⟩)
   ·exact g.elim
  ·exact g.elim
 ·exact dA (r:=FZ X.K) (fun ta tb pa pb=>vH qM pa pb hs) ha hb fun dx dy x y α Z Ω H Q S rx ry g=>(show False from g).elim
 ·refine dA (r:=FZ X.K) (fun ta tb pa pb=>vH qM pa pb hs) ha hb fun dx dy x y α Z Ω H Q S rx ry g => ?_
  obtain⟨d,e,own,d',n1,n2,e1,k⟩:=gE (bw:=false) S rx ry g;exact CP (bw:=false) n1 n2 (cN S) e1 k
def gG(n:Bool)(m:EM):aU->aF->ax (Option Int):=fun ρ Ω=>if n=true then .ok none Ω else (m ρ Ω).bind fun d ak=>match d with
 | .int i=>.ok (some i) ak
 | _=>.bad
def gH(x:D)(lo hi:Option Int)(Ω:aF):ax D:=match x,dB Ω x with
 | _,some ds=>l5 Ω (.lst (dq ds lo hi))
 | .str z,none=>fk Ω (v9 (.str z) lo hi)
 | .tup ds,none=>.ok (.tup (dq ds lo hi)) Ω
 | _,_=>.bad
def b_(ma:EM)(nl:Bool)(ml:EM)(nh:Bool)(mh:EM):EM:=fun ρ Ω=>(ma ρ Ω).bind fun x ak=>(gG nl ml ρ ak).bind fun l av=>(gG nh mh ρ av).bind fun h aM=>gH x l h aM
def Kp(X:Cx)(κ:Str->Addr->Prop)(Φ:f_)(o:Option Expr)(n:Bool)(m:EM):Prop:=(o=none/\n=true)\/∃ e,o=some e/\n=false/\bz X κ Φ e m
theorem dY{o:Option Expr}{n:Bool}(h:Kp X κ Φ o n m)(aG:List Addr)(Z0:Addr->Prop)(H0:Hp)(ρ:aU)(Ω:aF):∃ t,PO X o t/\∀ σ H α Z Q,cB κ aG Z0 H0 α Z Ω ρ σ H ->
  (match gG n m ρ Ω with
   | .ok l ak=>∀ H' α' Z',cg α Z H α' Z' H'->bO κ α' Z' ak H'->Q l H'
   | .exc x ak=>∀ H' α' Z',cg α Z H α' Z' H'->bO κ α' Z' ak H'->Φ x ak α' Z' H'
   | .bad=>False)->t σ H Q:=by
 rcases h with ⟨rfl,rfl⟩ | ⟨e,rfl,rfl,he⟩
 ·refine⟨sm,yV,fun σ H α Z Q S k => ?_⟩
  exact k H α Z (cg.refl S.st.has) S.st
 ·refine⟨_,yW (he aG Z0 H0 ρ Ω),fun σ H α Z Q S k=>⟨α,Z,S,?_⟩⟩
  simp only[gG,Bool.false_eq_true,if_false]at k;rcases q:m ρ Ω with ⟨d,ak⟩ | ⟨x,ak⟩ | _
  ·rw[q]at k
   intro v H1 α1 Z1 g1 s1 r1;cases d with
   | int i=>simp only[aw]at r1;exact⟨i,r1,k H1 α1 Z1 g1 s1⟩
   | _=>exact k.elim
  ·rw[q]at k;exact k
  ·rw[q]at k;exact k
theorem ti{ds:List D}{vs:List V}{R:D->V->Prop}(h:aR R ds vs)(lo hi:Option Int):aR R (dq ds lo hi) (oX vs lo hi):=by
 unfold dq oX;rw[h.length];exact(h.drop _).take _
theorem uH{ds:List D}{n:Nat}{l h:Option Int}(hn:n=ds.length)(h1:HT.cF n 0 l=0)(h2:HT.cF n n h=n):dq ds l h=ds:=by
 subst hn;unfold dq;rw[h1,h2,List.drop_zero,Nat.sub_zero,List.take_length]
def xc(K:PySem.W.Frag):V->Option Int->Option Int->Hp->VK->Prop:=fun x lo hi H Q=>Sr K x lo hi H Q\/(FV K x lo hi H Q\/Gb K x lo hi H Q)
theorem zQ{lo hi:Option Expr}{nl nh:Bool}{ml mh:EM}{p2:Pos}(ha:bz X κ Φ a ma)(hl:Kp X κ Φ lo nl ml)(hh:Kp X κ Φ hi nh mh):bz X κ Φ (.Subscript a (.Slice lo hi none p2) pos) (b_ ma nl ml nh mh):=by
 intro aG Z0 H0 ρ Ω;rcases q:ma ρ Ω with ⟨d,ak⟩ | ⟨x,ak⟩ | _
 ·obtain⟨tl,pl,kl⟩:=dY hl aG Z0 H0 ρ ak
  rcases q2:gG nl ml ρ ak with ⟨l,av⟩ | ⟨x,av⟩ | _
  ·obtain⟨th,ph,kh⟩:=dY hh aG Z0 H0 ρ av
   refine PE.imp (gj (r:=xc X.K) ((iJ.or kH).or (ky.or iM)) (ha aG Z0 H0 ρ Ω) pl ph) ?_;rintro σ H Q ⟨α,Z,S,g⟩;refine⟨α,Z,S,?_⟩;simp only[b_,q,q2,ax.bind]at g ⊢;intro v H1 α1 Z1 g1 s1 r1;have g:=cf.from g1 g
   have S1:=S.grow g1 s1;refine kl σ H1 α1 Z1 _ S1 ?_;rw[q2];intro H2 α2 Z2 g2 s2;have g:=cf.from g2 g
   have S2:=S1.grow g2 s2;refine kh σ H2 α2 Z2 _ S2 ?_;rcases q3:gG nh mh ρ av with ⟨h,aM⟩ | ⟨x,aM⟩ | _
   ·rw[q3]at g
    intro H3 α3 Z3 g3 s3;have g:=cf.from g3 g
    have r3:=s2.dX g3 (s1.dX g2 r1);dsimp only[ax.bind]at g;unfold gH at g;split at g
    ·rename_i ds hd
     obtain⟨p,vs,rfl,h1,h2⟩:=bF s3 r3 hd;exact .inl (.inl ⟨p,vs,rfl,jc h1,eQ s3 (ti h2 l h) g⟩)
    ·
     simp only[aw]at r3;subst r3;obtain⟨own,d,e1,k⟩:=iQ (bw:=false) s3 g;simp only[v9]at e1;split at e1
     ·rename_i hs
      cases e1;exact .inl (.inr ⟨_,rfl,bS hs,k _ H3 _ _ (el.refl s3.dom) (.rep (eH rfl))⟩)
     ·cases e1
    ·simp only[aw]at r3
     obtain⟨p,vs,rfl,z1,h1,h2⟩:=r3;have h2:=bj.mp h2
     by_cases hw:HT.cF vs.length 0 l=0/\HT.cF vs.length vs.length h=vs.length
     ·refine .inr (.inr ⟨p,vs,rfl,f7.of h1,hw.1,hw.2,cf.ret s3 ?_ g⟩)
      rw[uH h2.length hw.1 hw.2];simp only[aw];exact⟨p,vs,rfl,z1,h1,bj.mpr h2⟩
     ·exact .inr (.inl ⟨p,vs,rfl,f7.of h1,hw,gF s3 (ti h2 l h) g⟩)
    ·exact g.elim
   ·rw[q3]at g;exact g
   ·rw[q3]at g;exact g
  ·obtain⟨th,ph,kh⟩:=dY hh aG Z0 H0 ρ ak
   refine PE.imp (gj (r:=xc X.K) ((iJ.or kH).or (ky.or iM)) (ha aG Z0 H0 ρ Ω) pl ph) ?_;rintro σ H Q ⟨α,Z,S,g⟩;refine⟨α,Z,S,?_⟩;simp only[b_,q,q2,ax.bind]at g ⊢;intro v H1 α1 Z1 g1 s1 r1;refine kl σ H1 α1 Z1 _ (S.grow g1 s1) ?_;rw[q2];intro H2 α2 Z2 g2 s2;exact g H2 α2 Z2 (g1.trans g2) s2
  ·obtain⟨th,ph,kh⟩:=dY hh aG Z0 H0 ρ ak
   refine PE.imp (gj (r:=xc X.K) ((iJ.or kH).or (ky.or iM)) (ha aG Z0 H0 ρ Ω) pl ph) ?_;rintro σ H Q ⟨α,Z,S,g⟩;simp only[b_,q,q2,ax.bind]at g;exact g.elim
 ·obtain⟨tl,pl,kl⟩:=dY hl aG Z0 H0 ρ Ω
  obtain⟨th,ph,kh⟩:=dY hh aG Z0 H0 ρ Ω;refine PE.imp (gj (r:=xc X.K) ((iJ.or kH).or (ky.or iM)) (ha aG Z0 H0 ρ Ω) pl ph) ?_;rintro σ H Q ⟨α,Z,S,g⟩;refine⟨α,Z,S,?_⟩;simp only[b_,q,ax.bind]at g ⊢;exact g
 ·obtain⟨tl,pl,kl⟩:=dY hl aG Z0 H0 ρ Ω
  obtain⟨th,ph,kh⟩:=dY hh aG Z0 H0 ρ Ω;refine PE.imp (gj (r:=xc X.K) ((iJ.or kH).or (ky.or iM)) (ha aG Z0 H0 ρ Ω) pl ph) ?_;rintro σ H Q ⟨α,Z,S,g⟩;simp only[b_,q,ax.bind]at g;exact g.elim
end
theorem PE.ex{X:Cx}{e:Expr}{ι:Type}{t:ι->TE}(h:∀ i,PE X e (t i)):PE X e (fun σ H Q=>∃ i,t i σ H Q):=fun pins s σ H Q I ⟨i,q⟩=>h i pins s σ H Q I q
theorem PT.ex{X:Cx}{e:Expr}{ι:Type}{t:ι->TT}(h:∀ i,PT X e (t i)):PT X e (fun σ H Q=>∃ i,t i σ H Q):=fun pins s σ H Q I ⟨i,q⟩=>h i pins s σ H Q I q
theorem PW.ex{X:Cx}{e:Expr}{ι:Type}{t:ι->TT}(h:∀ i,PW X e (t i)):PW X e (fun σ H Q=>∃ i,t i σ H Q):=fun wh pins s σ H Q I ⟨i,q⟩=>h i wh pins s σ H Q I q
theorem PA.ex{X:Cx}{es:List Expr}{ι:Type}{t:ι->TA}(h:∀ i,PA X es (t i)):PA X es (fun σ H Q=>∃ i,t i σ H Q):=fun pos pins s σ H Q I ⟨i,q⟩=>h i pos pins s σ H Q I q
def cR(ma mb:EM):EM:=fun ρ Ω=>(ma ρ Ω).bind fun x ak=>match fm ak x with
 | some true=>mb ρ ak
 | some false=>.ok x ak
 | none=>.bad
def fE(ma mb:EM):EM:=fun ρ Ω=>(ma ρ Ω).bind fun x ak=>match fm ak x with
 | some false=>mb ρ ak
 | some true=>.ok x ak
 | none=>.bad
def bW(ma:EM):EM:=fun ρ Ω=>(dJ (ma ρ Ω)).bind fun t ak=>.ok (.bl (!t)) ak
def Fg(mc ma mb:EM):EM:=fun ρ Ω=>(dJ (mc ρ Ω)).bind fun t ak=>if t=true then ma ρ ak else mb ρ ak
section
variable{X:Cx}{κ:Str->Addr->Prop}{Φ:f_}{α α' aG α1:List Addr}{Z Z' Z0 Z1:Addr->Prop}{Ω aq:aF}{H H' H0 H1:Hp}{ρ:aU}{σ:L2.St}{Q Q':VK}{r:ax D}{a b e ce:Expr}{rest:List Expr}{es:List Expr}{ma mb mc m:EM}{as:AM}{pos p:Pos}
theorem gI{d:D}{v:V}{t:Bool}{K:PySem.W.Frag}(S:bO κ α Z Ω H)(r:aw α Z H d v)(h:fm Ω d=some t):oS K v H t:=by
 cases d with
 | non=>simp only[aw]at r;subst r;cases h;rfl
 | bl b=>simp only[aw]at r;subst r;cases h;rfl
 | int b=>simp only[aw]at r;subst r;cases h;rfl
 | str b=>
  simp only[aw]at r;subst r
  have n:Now Z H (.str b) (.str b):=by simp only[Now,Rep]
  exact CO n h
 | lst ds=>
  cases h;obtain⟨a,vs,rfl,h1,h2⟩:=bF (ds:=ds) S r rfl;refine .inl ⟨vs,jc h1,?_⟩;have:=h2.length;cases ds<;>cases vs<;>simp at this ⊢
 | tup ds=>
  cases h;obtain⟨a,vs,rfl,_,h1,h2⟩:=fU r;refine .inr (.inl ⟨vs,uq (.inl h1),?_⟩);have:=h2.length;cases ds<;>cases vs<;>simp at this ⊢
 | dct _ _=>cases h
 | ref k=>
  simp only[fm]at h;split at h
  ·rename_i ds hk
   cases h;obtain⟨a,vs,rfl,h1,h2⟩:=bF (ds:=ds) S r (by simp only[dB,hk])
   refine .inl ⟨vs,jc h1,?_⟩;have:=h2.length;cases ds<;>cases vs<;>simp at this ⊢
  ·rename_i kvs hk
   cases h;simp only[aw]at r;obtain⟨a,ha,rfl⟩:=r;obtain⟨a',ha',kvs',h1,h2⟩:=S.cell hk;rw[ha]at ha';cases ha'
   refine .inr (.inr ⟨kvs',h1,?_⟩);have:=h2.length;cases kvs<;>cases kvs'<;>simp at this ⊢
  ·cases h
theorem oK.use{r:ax Bool}{f:Bool->aF->ax D}{Q':Bool->Hp->Prop}(h:cf κ Φ α Z H (r.bind f) Q)(k:∀ t ak,r=.ok t ak->∀ H1 α1 Z1,cg α Z H α1 Z1 H1->bO κ α1 Z1 ak H1->cf κ Φ α1 Z1 H1 (f t ak) Q->Q' t H1):oK κ Φ α Z H r Q':=by
 cases r with
 | ok d ak=>exact fun H1 α1 Z1 g s=>k d ak rfl H1 α1 Z1 g s (cf.from g h)
 | exc x ak=>exact h
 | bad=>exact h
theorem oK.Qw{Q:Bool->Hp->Prop}{K:PySem.W.Frag}(h:oK κ Φ α Z H (dJ r) Q):cf κ Φ α Z H r (fun v H1=>∃ t,oS K v H1 t/\Q t H1):=by
 cases r with
 | ok d ak=>
  intro v H1 α1 Z1 g s q;simp only[dJ]at h;split at h
  ·rename_i t ht
   exact⟨t,gI s q ht,h H1 α1 Z1 g s⟩
  ·exact h.elim
 | exc x ak=>exact h
 | bad=>exact h.elim
theorem zR(h:bz X κ Φ e m)(he:∀ whole,isTrue e X.env whole=(do let v ← whole;standAt e.pos;holding [v] (truthy v))):gC X κ Φ e m:=by
 intro aG Z0 H0 ρ Ω;refine PT.imp (vA (h aG Z0 H0 ρ Ω) he) ?_;rintro σ H Q ⟨α,Z,S,g⟩;exact⟨α,Z,S,g.Qw⟩
theorem tj(ha:bz X κ Φ a ma)(hb:bz X κ Φ (.BoolOp .And (b::rest) pos) mb):bz X κ Φ (.BoolOp .And (a::b::rest) pos) (cR ma mb):=by
 intro aG Z0 H0 ρ Ω;refine PE.imp (zy (ha aG Z0 H0 ρ Ω) (PE.ex fun ak=>hb aG Z0 H0 ρ ak)) ?_
 rintro σ H Q ⟨α,Z,S,g⟩;refine⟨α,Z,S,cf.use g fun x ak _ v H1 α1 Z1 g1 s1 r1 k1 => ?_⟩
 split at k1
 ·rename_i ht
  exact⟨true,gI s1 r1 ht,o3 ⟨ak,α1,Z1,S.grow g1 s1,k1⟩⟩
 ·rename_i ht
  exact⟨false,gI s1 r1 ht,oZ (cf.ret s1 r1 k1)⟩
 ·exact k1.elim
theorem C7(ha:bz X κ Φ a ma)(hb:bz X κ Φ (.BoolOp .Or (b::rest) pos) mb):bz X κ Φ (.BoolOp .Or (a::b::rest) pos) (fE ma mb):=by
 intro aG Z0 H0 ρ Ω;refine PE.imp (CV (ha aG Z0 H0 ρ Ω) (PE.ex fun ak=>hb aG Z0 H0 ρ ak)) ?_
 rintro σ H Q ⟨α,Z,S,g⟩;refine⟨α,Z,S,cf.use g fun x ak _ v H1 α1 Z1 g1 s1 r1 k1 => ?_⟩
 split at k1
 ·rename_i ht
  exact⟨false,gI s1 r1 ht,oZ ⟨ak,α1,Z1,S.grow g1 s1,k1⟩⟩
 ·rename_i ht
  exact⟨true,gI s1 r1 ht,o3 (cf.ret s1 r1 k1)⟩
 ·exact k1.elim
theorem mR{op:BoolOp}(ha:bz X κ Φ a ma):bz X κ Φ (.BoolOp op [a] pos) ma:=fun aG Z0 H0 ρ Ω=>Cj (ha aG Z0 H0 ρ Ω)
theorem zS(ha:bz X κ Φ a ma):bz X κ Φ (.UnaryOp .Not a pos) (bW ma):=by
 intro aG Z0 H0 ρ Ω;refine PE.imp (zz (ha aG Z0 H0 ρ Ω)) ?_;rintro σ H Q ⟨α,Z,S,g⟩;refine⟨α,Z,S,?_⟩;have:=oK.use (Q':=fun t H1=>Q (.bl (!t)) H1) g fun t ak _ H1 α1 Z1 g1 s1 k1=>cf.ret s1 (ba rfl) k1
 exact this.Qw
theorem zT(ha:gC X κ Φ a ma):gC X κ Φ (.UnaryOp .Not a pos) (bW ma):=by
 intro aG Z0 H0 ρ Ω;refine PT.imp (Ci (ha aG Z0 H0 ρ Ω)) ?_;rintro σ H Q ⟨α,Z,S,g⟩;refine⟨α,Z,S,?_⟩;simp only[bW]at g;cases q:dJ (ma ρ Ω) with
 | ok t ak=>rw[q]at g;exact fun H' α' Z' g' s'=>g H' α' Z' g' s'
 | exc x ak=>rw[q]at g;exact g
 | bad=>rw[q]at g;exact g
def BF(X:Cx)(κ:Str->Addr->Prop)(Φ:f_)(e:Expr)(m:EM):Prop:=∀ aG Z0 H0 ρ Ω,PW X e (M0 κ Φ aG Z0 H0 m ρ Ω)
theorem BF.pt(h:BF X κ Φ e m):gC X κ Φ e m:=fun aG Z0 H0 ρ Ω=>(h aG Z0 H0 ρ Ω).pt
theorem zU{op:BoolOp}(ha:gC X κ Φ a ma):BF X κ Φ (.BoolOp op [a] pos) ma:=fun aG Z0 H0 ρ Ω=>by
 cases op with
 | And=>exact yK (ha aG Z0 H0 ρ Ω)
 | Or=>exact Cf (ha aG Z0 H0 ρ Ω)
theorem zV(ha:gC X κ Φ a ma)(hb:BF X κ Φ (.BoolOp .And (b::rest) pos) mb):BF X κ Φ (.BoolOp .And (a::b::rest) pos) (cR ma mb):=by
 intro aG Z0 H0 ρ Ω;refine PW.imp (Cg (ha aG Z0 H0 ρ Ω) (PW.ex fun ak=>hb aG Z0 H0 ρ ak)) ?_
 rintro σ H Q ⟨α,Z,S,g⟩;refine⟨α,Z,S,?_⟩;simp only[cR]at g;cases q:ma ρ Ω with
 | ok x ak=>
  rw[q]at g;dsimp only[ax.bind]at g;simp only[dJ];split at g
  ·rename_i ht
   rw[ht];exact fun H1 α1 Z1 g1 s1=>o3 ⟨ak,α1,Z1,S.grow g1 s1,oK.from g1 g⟩
  ·rename_i ht
   rw[ht];simp only[dJ,ht]at g;exact fun H1 α1 Z1 g1 s1=>oZ (g H1 α1 Z1 g1 s1)
  ·exact g.elim
 | exc x ak=>rw[q]at g;exact g
 | bad=>rw[q]at g;exact g.elim
theorem C8(ha:gC X κ Φ a ma)(hb:BF X κ Φ (.BoolOp .Or (b::rest) pos) mb):BF X κ Φ (.BoolOp .Or (a::b::rest) pos) (fE ma mb):=by
 intro aG Z0 H0 ρ Ω;refine PW.imp (Fx (ha aG Z0 H0 ρ Ω) (PW.ex fun ak=>hb aG Z0 H0 ρ ak)) ?_
 rintro σ H Q ⟨α,Z,S,g⟩;refine⟨α,Z,S,?_⟩;simp only[fE]at g;cases q:ma ρ Ω with
 | ok x ak=>
  rw[q]at g;dsimp only[ax.bind]at g;simp only[dJ];split at g
  ·rename_i ht
   rw[ht];exact fun H1 α1 Z1 g1 s1=>oZ ⟨ak,α1,Z1,S.grow g1 s1,oK.from g1 g⟩
  ·rename_i ht
   rw[ht];simp only[dJ,ht]at g;exact fun H1 α1 Z1 g1 s1=>o3 (g H1 α1 Z1 g1 s1)
  ·exact g.elim
 | exc x ak=>rw[q]at g;exact g
 | bad=>rw[q]at g;exact g.elim
theorem zW(hc:gC X κ Φ ce mc)(ha:bz X κ Φ a ma)(hb:bz X κ Φ b mb):bz X κ Φ (.IfExp ce a b pos) (Fg mc ma mb):=by
 intro aG Z0 H0 ρ Ω;refine PE.imp (vj (hc aG Z0 H0 ρ Ω) (PE.ex fun ak=>ha aG Z0 H0 ρ ak) (PE.ex fun ak=>hb aG Z0 H0 ρ ak)) ?_
 rintro σ H Q ⟨α,Z,S,g⟩;refine⟨α,Z,S,oK.use g fun t ak _ H1 α1 Z1 g1 s1 k1 => ?_⟩
 cases t with
 | true=>rw[if_pos rfl]at k1;exact o3 ⟨ak,α1,Z1,S.grow g1 s1,k1⟩
 | false=>rw[if_neg Bool.false_ne_true]at k1;exact oZ ⟨ak,α1,Z1,S.grow g1 s1,k1⟩
theorem zX(hc:gC X κ Φ ce mc)(ha:gC X κ Φ a ma)(hb:gC X κ Φ b mb):gC X κ Φ (.IfExp ce a b pos) (Fg mc ma mb):=by
 intro aG Z0 H0 ρ Ω pins s σ H Q I;rintro⟨α,Z,S,g⟩;simp only[Fg]at g
 have key:M0 κ Φ aG Z0 H0 mc ρ Ω σ H (fun t H1=>∃ ak α1 Z1,cB κ aG Z0 H0 α1 Z1 ak ρ σ H1/\oK κ Φ α1 Z1 H1 (dJ (if t=true then ma ρ ak else mb ρ ak)) Q):=by
  refine⟨α,Z,S,?_⟩;cases q:dJ (mc ρ Ω) with
  | ok t ak=>
   rw[q]at g;exact fun H1 α1 Z1 g1 s1=>⟨ak,α1,Z1,S.grow g1 s1,oK.from g1 g⟩
  | exc x ak=>rw[q]at g;exact g
  | bad=>rw[q]at g;exact g.elim
 refine isTrue_IfExp (cz (hc aG Z0 H0 ρ Ω pins s σ H _ I key) fun v s1 ⟨H1,I1,ak,α1,Z1,S1,k1⟩ => ?_)
 cases v with
 | true=>rw[if_pos rfl]at k1;exact ha aG Z0 H0 ρ ak pins s1 σ H1 Q I1 ⟨α1,Z1,S1,k1⟩
 | false=>rw[if_neg Bool.false_ne_true]at k1;exact hb aG Z0 H0 ρ ak pins s1 σ H1 Q I1 ⟨α1,Z1,S1,k1⟩
def h_(op op':CmpOp)(ma mb mc:EM):EM:=fun ρ Ω=>(ma ρ Ω).bind fun x ak=>(mb ρ ak).bind fun y av=>(dJ (cC op x y av)).bind fun t aM=>if t=true then (mc ρ aM).bind fun z cX=>cC op' y z cX else .ok (.bl false) aM
theorem xf{op op':CmpOp}(S:cB κ aG Z0 H0 α Z Ω ρ σ H)(g:cf κ Φ α Z H (h_ op op' ma mb mc ρ Ω) Q) :
  qF (wd op) (wd op') (tO κ Φ aG Z0 H0 ma ρ Ω) (fun σ H Q=>∃ ak,tO κ Φ aG Z0 H0 mb ρ ak σ H Q) (fun σ H Q=>∃ ak,tO κ Φ aG Z0 H0 mc ρ ak σ H Q) σ H Q:=by
 refine⟨α,Z,S,cf.use g fun x ak _ v H1 α1 Z1 g1 s1 r1 k1 => ?_⟩
 refine⟨ak,α1,Z1,S.grow g1 s1,cf.use k1 fun y av _ w H2 α2 Z2 g2 s2 r2 k2 => ?_⟩
 have S2:=(S.grow g1 s1).grow g2 s2;refine nR (op:=op) (κ:=κ) (Φ:=Φ) s2 (s1.dX g2 r1) r2 ?_;cases q:cC op x y av with
 | ok d aM=>
  obtain⟨t,rfl⟩:=nU _ _ _ _ _ q;intro u H3 α3 Z3 g3 s3 r3;simp only[aw]at r3;refine⟨t,r3,?_⟩;rw[q]at k2;have k3:cf κ Φ α2 Z2 H2 (if t=true then (mc ρ aM).bind fun z cX=>cC op' y z cX else .ok (.bl false) aM) Q:=k2
  have k3:=cf.from g3 k3
  cases t with
  | true=>
   rw[if_pos rfl]at k3 ⊢;refine⟨aM,α3,Z3,S2.grow g3 s3,cf.use k3 fun z cX _ w' H4 Vy Z4 g4 s4 r4 k4 => ?_⟩
   exact nR s4 (s3.dX g4 (s2.dX g3 r2)) r4 k4
  | false=>
   rw[if_neg Bool.false_ne_true]at k3 ⊢;exact cf.ret s3 (ba rfl) k3
 | exc x aM=>rw[q]at k2;exact k2
 | bad=>rw[q]at k2;exact k2
theorem zY{op op':CmpOp}(hu:X.A.units + 64 < cLine)(hm:lastMarks [op,op'] [b,ce]=false)(ha:bz X κ Φ a ma)(hb:bz X κ Φ b mb)(hc:bz X κ Φ ce mc):bz X κ Φ (.Compare a [op,op'] [b,ce] pos) (h_ op op' ma mb mc):=by
 intro aG Z0 H0 ρ Ω;refine PE.imp (vy (jd hu op) (jd hu op') (ha aG Z0 H0 ρ Ω) (PE.ex fun ak=>hb aG Z0 H0 ρ ak) (PE.ex fun ak=>hc aG Z0 H0 ρ ak) hm) ?_
 rintro σ H Q ⟨α,Z,S,g⟩;exact xf S g
theorem C9{op op':CmpOp}{d:D}{aq:aF}(h:h_ op op' ma mb mc ρ Ω=.ok d aq):∃ t,d=.bl t:=by
 simp only[h_]at h;cases q1:ma ρ Ω with
 | ok x ak=>
  rw[q1]at h;dsimp only[ax.bind]at h
  cases q2:mb ρ ak with
  | ok y av=>
   rw[q2]at h;dsimp only[ax.bind]at h
   cases q3:dJ (cC op x y av) with
   | ok t aM=>
    rw[q3]at h;dsimp only[ax.bind]at h
    split at h
    ·cases q4:mc ρ aM with
     | ok z cX=>rw[q4]at h;exact nU _ _ _ _ _ h
     | exc _ _=>rw[q4]at h;cases h
     | bad=>rw[q4]at h;cases h
    ·cases h;exact⟨_,rfl⟩
   | exc _ _=>rw[q3]at h;cases h
   | bad=>rw[q3]at h;cases h
  | exc _ _=>rw[q2]at h;cases h
  | bad=>rw[q2]at h;cases h
 | exc _ _=>rw[q1]at h;cases h
 | bad=>rw[q1]at h;cases h
theorem zZ{op op':CmpOp}(hu:X.A.units + 64 < cLine)(hm:lastMarks [op,op'] [b,ce]=false)(ha:bz X κ Φ a ma)(hb:bz X κ Φ b mb)(hc:bz X κ Φ ce mc):gC X κ Φ (.Compare a [op,op'] [b,ce] pos) (h_ op op' ma mb mc):=by
 intro aG Z0 H0 ρ Ω;refine PT.imp (vz (jd hu op) (jd hu op') (ha aG Z0 H0 ρ Ω) (PE.ex fun ak=>hb aG Z0 H0 ρ ak) (PE.ex fun ak=>hc aG Z0 H0 ρ ak) hm) ?_
 rintro σ H Q ⟨α,Z,S,g⟩;refine xf S ?_;cases q:h_ op op' ma mb mc ρ Ω with
 | ok d ak=>
  obtain⟨t,rfl⟩:=C9 q;rw[q]at g;intro v H1 α1 Z1 g1 s1 r1;simp only[aw]at r1;exact⟨t,r1,g H1 α1 Z1 g1 s1⟩
 | exc x ak=>rw[q]at g;exact g
 | bad=>rw[q]at g;exact g.elim
def bo(f:List D->Out Rs):List D->aF->ax D:=fun xs Ω=>match bT (fj Ω 8) xs with
 | some ds=>fk Ω (f ds)
 | none=>.bad
theorem fF{bw:Bool}{f:List D->Out Rs}{xs:List D}{vs:List V}(S:bO κ α Z Ω H)(hx:aR (aw α Z H) xs vs)(h:cf κ Φ α Z H (bo f xs Ω) Q) :
  ∃ ds own d',aT (sZ α Z) H ds vs/\f ds=.ok (own,d')/\∀ v H' Z',el (sZ α Z) H Z' H'->dU bw own Z' H H' d' v->Q v H':=by
 unfold bo at h;split at h
 ·rename_i ds hd
  obtain⟨own,d',e,k⟩:=iQ (bw:=bw) S h;exact⟨ds,own,d',gz (eO (S:=Rep (sZ α Z) H) (fun d d' v q r=>jY S 8 q r) hd hx),e,fun v H' Z' g q=>k v H' _ Z' g q⟩
 ·exact h.elim
theorem uI{k:Nat}{x:Str}{F:List D->Out Rs}(F0:Gn X k x F)(hr:bY k X.A)(hg:Gl X x)(hdb:(x == ("__debug__":Str))=false)
  (he:starEach (e::es) X.env=(false,eval e X.env)::starEach es X.env) (hpl:(backTo pos (starEach es X.env)).any (·.1)=false) (ha:qz X κ Φ (e::es) as) :
  bz X κ Φ (.Call (.Name x p) (e::es) [] pos) (mN (bo F) as):=by
 obtain⟨f,fd,ps,hm,hk,hb,F1⟩:=F0.ex;intro aG Z0 H0 ρ Ω;refine PE.imp (jT F1 hr hg hm hk hb .nil sD (ha aG Z0 H0 ρ Ω) hdb he hpl) ?_;rintro σ H Q ⟨α,Z,S,g⟩;refine⟨α,Z,S,pF.use g fun xs ak _ vs H1 α1 Z1 g1 s1 r1 k1 => ?_⟩
 show kI F (vs++[]) H1 Q E0
 rw[List.append_nil];obtain⟨ds,own,d',h1,h2,h3⟩:=fF (bw:=false) s1 r1 k1;exact⟨sZ α1 Z1,ds,own,d',cN s1,h1,h2,h3⟩
end
def uJ(f g:List D->aF->ax D):List D->aF->ax D:=fun xs Ω=>lM (f xs Ω) (g xs Ω)
def xh(xs:List D)(Ω:aF):ax D:=match xs with
 | [x]=>match eW Ω x with
  | some ds=>.ok (.int ds.length) Ω
  | none=>.bad
 | _=>.bad
noncomputable def GP(xs:List D)(Ω:aF):ax D:=.bad
def pH(xs:List D)(Ω:aF):ax D:=match xs with
 | [x]=>match eW Ω x with
  | some ds=>l5 Ω (.lst ds)
  | none=>.bad
 | _=>.bad
def la(xs:List D)(Ω:aF):ax D:=match xs with
 | [.tup ds]=>.ok (.tup ds) Ω
 | [x]=>match dB Ω x with
  | some ds=>.ok (.tup ds) Ω
  | none=>.bad
 | _=>.bad
def C_:List D->Out Rs
 | [.str z]=>if small z.length then .ok (false,.int z.length) else .bad
 | _=>.bad
def Dc:List D->Out Rs
 | [.lst xs]=>match fx xs with | some bs=>.ok (false,.bl (bs.all id)) | none=>.bad
 | _=>.bad
def De:List D->Out Rs
 | [.lst xs]=>match fx xs with | some bs=>.ok (false,.bl (bs.any id)) | none=>.bad
 | _=>.bad
noncomputable def Df:List D->Out Rs
 | [.int i]=>.ok (false,.int i)
 | [.bl k]=>.ok (false,.int (if k then 1 else 0))
 | _=>.bad
noncomputable def Dg:List D->Out Rs
 | [.int i,.int j]=>.ok (false,.int (if j < i then j else i))
 | _=>.bad
def pI:iD->List D->Out Rs
 | .len=>C_
 | .all=>Dc
 | .any=>De
 | .int=>Df
 | .min=>Dg
 | _=>fun _=>.bad
def jj(f:iD):List D->aF->ax D:=bo (pI f)
def aX(f:iD):List D->aF->ax D:=match f with
 | .len=>uJ xh (uJ GP (jj .len))
 | .list=>pH
 | .tuple=>la
 | f=>jj f
section
variable{X:Cx}{κ:Str->Addr->Prop}{Φ:f_}{α α' aG α1:List Addr}{Z Z' Z0 Z1:Addr->Prop}{Ω aq:aF}{H H' H0 H1:Hp}{ρ:aU}{σ:L2.St}{Q Q':VK}{r:ax D}{a b e ce o:Expr}{rest:List Expr}{es:List Expr}{ma mb mc m mo:EM}{as:AM}{pos p apos cpos:Pos}
theorem xi{f g:List D->aF->ax D}:mN (uJ f g) as=nO (mN f as) (mN g as):=by
 funext ρ Ω
 simp only[mN,nO];cases as ρ Ω with
 | ok x ak=>rfl
 | exc x Ω=>rfl
 | bad=>rfl
theorem eR{f:List D->aF->ax D}{id:String}{x:Str}{r:List V->Hp->VK->Prop}(hc:eF X (.builtin id) r)(hg:Gl X x)(hm:X.mg x=none)(hv:bootBuiltins x=some (.builtin id))(hn:x≠"__name__")(hdb:(x == ("__debug__":Str))=false)
  (he:starEach (e::es) X.env=(false,eval e X.env)::starEach es X.env) (hpl:(backTo pos (starEach es X.env)).any (·.1)=false) (ha:qz X κ Φ (e::es) as)
  (hr:∀ xs vs α Z Ω H Q,bO κ α Z Ω H->aR (aw α Z H) xs vs->cf κ Φ α Z H (f xs Ω) Q->r vs H Q):bz X κ Φ (.Call (.Name x p) (e::es) [] pos) (mN f as):=by
 intro aG Z0 H0 ρ Ω;refine PE.imp (kq hc hg hm hv (ha aG Z0 H0 ρ Ω) hn hdb he hpl) ?_;rintro σ H Q ⟨α,Z,S,g⟩;exact⟨α,Z,S,pF.use g fun xs ak _ vs H1 α1 Z1 g1 s1 r1 k1=>hr xs vs α1 Z1 ak H1 Q s1 r1 k1⟩
theorem lb{f:List D->aF->ax D}{id:String}{x:Str}{r:List V->Hp->VK->Prop}(hc:eF X (.type id) r)(hg:Gl X x)(hm:X.mg x=none)(hv:bootBuiltins x=some (.type id))(hn:x≠"__name__")(hdb:(x == ("__debug__":Str))=false)
  (he:starEach (e::es) X.env=(false,eval e X.env)::starEach es X.env) (hpl:(backTo pos (starEach es X.env)).any (·.1)=false) (ha:qz X κ Φ (e::es) as)
  (hr:∀ xs vs α Z Ω H Q,bO κ α Z Ω H->aR (aw α Z H) xs vs->cf κ Φ α Z H (f xs Ω) Q->r vs H Q):bz X κ Φ (.Call (.Name x p) (e::es) [] pos) (mN f as):=by
 intro aG Z0 H0 ρ Ω;refine PE.imp (uh hc hg hm hv (ha aG Z0 H0 ρ Ω) hn hdb he hpl) ?_;rintro σ H Q ⟨α,Z,S,g⟩;exact⟨α,Z,S,pF.use g fun xs ak _ vs H1 α1 Z1 g1 s1 r1 k1=>hr xs vs α1 Z1 ak H1 Q s1 r1 k1⟩
theorem ey:∀ {ds:List D} {vs:List V},aT Z H ds vs->qU Z H ds vs
 | [],vs,h=>h.nil_inv
 | d::ds,vs,h=>by
  obtain⟨v,r,rfl,h1,h2⟩:=h.cons_inv;exact⟨v,r,rfl,h1.now,ey h2⟩
theorem z4{f:iD}(hcalm:X.calm=true)(hf:f∈[iD.len,iD.all,iD.any,iD.list,iD.tuple,iD.int,iD.min])(hg:Gl X f.nm)(hm:X.mg f.nm=none)
  (he:starEach (e::es) X.env=(false,eval e X.env)::starEach es X.env) (hpl:(backTo pos (starEach es X.env)).any (·.1)=false) (ha:qz X κ Φ (e::es) as) :
  bz X κ Φ (.Call (.Name f.nm p) (e::es) [] pos) (mN (aX f) as):=by
 cases f with
 | len=>
  show bz X κ Φ _ (mN (uJ xh (uJ GP (jj .len))) as)
  rw[xi,xi];refine bz.alt ?_ (bz.alt ?_ ?_)
  ·refine eR iK hg hm boot_len (by decide) (by decide) he hpl ha ?_
   intro xs vs α Z Ω H Q S rx g;unfold xh at g;split at g
   ·split at g
    ·rename_i ds hd
     obtain⟨v,r,rfl,r1,r2⟩:=rx.cons_inv;rw[r2.nil_inv];obtain⟨l,ws,rfl,q1,q2⟩:=k_ (K:=X.K) S r1 hd;exact⟨l,ws,rfl,q1,by rw[q2.length];exact cf.ret S (ba rfl) g⟩
    ·exact g.elim
   ·exact g.elim
  ·exact eR iK hg hm boot_len (by decide) (by decide) he hpl ha fun xs vs α Z Ω H Q S rx g=>(show False from g).elim
  ·refine eR nq hg hm boot_len (by decide) (by decide) he hpl ha ?_
   intro xs0 BG α Z Ω H Q S rx g;obtain⟨ds,own,d,nw,ee,k⟩:=fF (bw:=false) S rx g;have nw:=ey nw;have dom:=cN S;replace ee:C_ ds=_:=ee;unfold C_ at ee;split at ee
   ·obtain⟨x,rfl,n⟩:=nw.one
    cases cQ n;split at ee
    ·rename_i hs
     cases ee;exact⟨_,rfl,bS hs,fS dom k rfl⟩
    ·cases ee
   ·cases ee
 | all=>
  refine eR (wu hcalm) hg hm boot_all (by decide) (by decide) he hpl ha ?_
  intro xs0 BG α Z Ω H Q S rx g;obtain⟨ds,own,d,nw,ee,k⟩:=fF (bw:=false) S rx g;have nw:=ey nw;have dom:=cN S;replace ee:Dc ds=_:=ee;unfold Dc at ee;split at ee
  ·obtain⟨x,rfl,n⟩:=nw.one
   split at ee
   ·rename_i bs hb
    cases ee;exact⟨_,_,bs,x,rfl,n,hb,fS dom k rfl⟩
   ·cases ee
  ·cases ee
 | any=>
  refine eR (wx hcalm) hg hm boot_any (by decide) (by decide) he hpl ha ?_
  intro xs0 BG α Z Ω H Q S rx g;obtain⟨ds,own,d,nw,ee,k⟩:=fF (bw:=false) S rx g;have nw:=ey nw;have dom:=cN S;replace ee:De ds=_:=ee;unfold De at ee;split at ee
  ·obtain⟨x,rfl,n⟩:=nw.one
   split at ee
   ·rename_i bs hb
    cases ee;exact⟨_,_,bs,x,rfl,n,hb,fS dom k rfl⟩
   ·cases ee
  ·cases ee
 | int=>
  refine lb uf hg hm boot_int (by decide) (by decide) he hpl ha ?_
  intro xs0 BG α Z Ω H Q S rx g;obtain⟨ds,own,d,nw,ee,k⟩:=fF (bw:=false) S rx g;have nw:=ey nw;have dom:=cN S;replace ee:Df ds=_:=ee;unfold Df at ee;split at ee
  ·obtain⟨x,rfl,n⟩:=nw.one
   cases bc n;cases ee;exact .inl ⟨_,rfl,fS dom k rfl⟩
  ·obtain⟨x,rfl,n⟩:=nw.one
   cases gv n;cases ee;exact .inr ⟨_,rfl,fS dom k rfl⟩
  ·cases ee
 | min=>
  refine eR (ue hcalm) hg hm boot_min (by decide) (by decide) he hpl ha ?_
  intro xs0 BG α Z Ω H Q S rx g;obtain⟨ds,own,d,nw,ee,k⟩:=fF (bw:=false) S rx g;have nw:=ey nw;have dom:=cN S;replace ee:Dg ds=_:=ee;unfold Dg at ee;split at ee
  ·obtain⟨x,y,rfl,n,n'⟩:=nw.two
   cases bc n;cases bc n';cases ee;exact⟨_,_,rfl,fS dom k rfl⟩
  ·cases ee
 | max=>simp at hf
 | list=>
  refine lb nr hg hm boot_list (by decide) (by decide) he hpl ha ?_
  intro xs vs α Z Ω H Q S rx g;have g:cf κ Φ α Z H (pH xs Ω) Q:=g;unfold pH at g;split at g
  ·split at g
   ·rename_i ds hd
    obtain⟨v,r,rfl,r1,r2⟩:=rx.cons_inv;rw[r2.nil_inv];obtain⟨l,ws,rfl,q1,q2⟩:=k_ (K:=X.K) S r1 hd;exact⟨l,ws,rfl,q1,eQ S q2 g⟩
   ·exact g.elim
  ·exact g.elim
 | tuple=>
  refine lb lQ hg hm boot_tuple (by decide) (by decide) he hpl ha ?_
  intro xs vs α Z Ω H Q S rx g;have g:cf κ Φ α Z H (la xs Ω) Q:=g;unfold la at g;split at g
  ·obtain⟨v,r,rfl,r1,r2⟩:=rx.cons_inv
   rw[r2.nil_inv];have r1':=r1;obtain⟨l,ws,rfl,_,q1,q2⟩:=fU r1;exact⟨l,ws,rfl,.inr ⟨uq (.inl q1),cf.ret S r1' g⟩⟩
  ·split at g
   ·rename_i ds hd
    obtain⟨v,r,rfl,r1,r2⟩:=rx.cons_inv;rw[r2.nil_inv];obtain⟨l,ws,rfl,q1,q2⟩:=bF S r1 hd;exact⟨l,ws,rfl,.inl ⟨jc q1,gF S q2 g⟩⟩
   ·exact g.elim
  ·exact g.elim
 | sorted=>simp at hf
 | bool=>simp at hf
def fG(xs:List D)(Ω:aF):ax D:=match xs with
 | [x]=>match dB Ω x with
  | some ds=>match fP ds with
   | .ok ys=>l5 Ω (.lst ys)
   | _=>.bad
  | none=>.bad
 | _=>.bad
theorem pJ:∀ {ds:List D} {is:List Int} {vs:List V},jx ds=some is->aR (aw α Z H) ds vs->vs=is.map V.int
 | [],is,vs,h,r=>by cases h;exact r.nil_inv
 | d::ds,is,vs,h,r=>by
  obtain⟨v,r',rfl,r1,r2⟩:=r.cons_inv;cases d with
  | int i=>
   obtain⟨js,h1,rfl⟩:=Option.map_eq_some_iff.mp (show(jx ds).map (i :: ·)=some is from h)
   simp only[aw]at r1;rw[r1,pJ h1 r2];rfl
  | _=>cases h
theorem pK:∀ {ds:List D} {is:List Str} {vs:List V},dv ds=some is->aR (aw α Z H) ds vs->vs=is.map V.str
 | [],is,vs,h,r=>by cases h;exact r.nil_inv
 | d::ds,is,vs,h,r=>by
  obtain⟨v,r',rfl,r1,r2⟩:=r.cons_inv;cases d with
  | str i=>
   obtain⟨js,h1,rfl⟩:=Option.map_eq_some_iff.mp (show(dv ds).map (i :: ·)=some is from h)
   simp only[aw]at r1;rw[r1,pK h1 r2];rfl
  | _=>cases h
theorem lg{β:Type}{f:β->D}{g:β->V}(h:∀ x,aw α Z H (f x) (g x)):∀ xs:List β,aR (aw α Z H) (xs.map f) (xs.map g)
 | []=>.nil
 | x::xs=>.cons (h x) (lg h xs)
theorem xj(hg:Gl X "sorted")(hm:X.mg "sorted"=none)(he:starEach (e::es) X.env=(false,eval e X.env)::starEach es X.env)(hpl:(backTo pos (starEach es X.env)).any (·.1)=false)(ha:qz X κ Φ (e::es) as) :
  bz X κ Φ (.Call (.Name "sorted" p) (e::es) [] pos) (mN fG as):=by
 refine eR uF hg hm (by decide +kernel) (by decide) (by decide) he hpl ha ?_
 intro xs vs α Z Ω H Q S rx g;unfold fG at g;split at g
 ·split at g
  ·rename_i ds hd
   obtain⟨v,r,rfl,r1,r2⟩:=rx.cons_inv;rw[r2.nil_inv];obtain⟨a,ws,rfl,q1,q2⟩:=bF S r1 hd;split at g
   ·rename_i ys hy
    unfold fP at hy;split at hy
    ·cases hy
    ·rename_i h64
     split at hy
     ·rename_i is hi
      cases hy;have e1:=pJ hi q2;subst e1;have hl:is.length < 64:=by have:=q2.length;rw[List.length_map]at this;omega
      exact⟨a,rfl,.inr ⟨is,jc q1,hl,eQ S (lg (f:=D.int) (g:=V.int) (fun x=>by simp only[aw]) _) g⟩⟩
     ·split at hy
      ·rename_i is hi
       cases hy;have e1:=pK hi q2;subst e1;have hl:is.length < 64:=by have:=q2.length;rw[List.length_map]at this;omega
       exact⟨a,rfl,.inl ⟨is,jc q1,hl,eQ S (lg (f:=D.str) (g:=V.str) (fun x=>by simp only[aw]) _) g⟩⟩
      ·cases hy
   ·exact g.elim
  ·exact g.elim
 ·exact g.elim
def M1(t:Ty):D->aF->ax D:=ji fun d=>match v_ d t with | some b=>.ok (false,.bl b) | none=>.bad
noncomputable def Dh(t:Ty)(x:D)(Ω:aF):ax D:=match x with
 | .ref k=>match Ω[k]? with
  | some (.lst _)=>.ok (.bl (t == .list)) Ω
  | some (.dK _)=>.ok (.bl (t == .dict)) Ω
  | _=>.bad
 | .lst _=>.ok (.bl (t == .list)) Ω
 | .tup _=>.ok (.bl (t == .tuple)) Ω
 | _=>.bad
def bG(t:Ty):D->aF->ax D:=C3 (Dh t) (M1 t)
def BH(K:PySem.W.Frag):List V->Hp->VK->Prop:=fun xs H Q=>∃ a vs t,xs=[.ref a,.ty (Ty.id t)]/\((Rd H a (.lst vs)/\Q (.bl (t == .list)) H)\/(Rd H a (.tup vs)/\Q (.bl (t == .tuple)) H)\/(∃ kvs,H a=some (.dK kvs)/\Q (.bl (t == .dict)) H))
theorem uK:eF X (.builtin "isinstance") (BH X.K):=by
 intro pins s σ H xs us Q I r h;obtain⟨a,vs,t,rfl,h⟩:=h;obtain⟨u,w',rfl,rx,rt⟩:=vals2 r;cases (show w'=Value.type (Ty.id t) from rt)
 obtain⟨t1,t2,t3,t4,t5,t6,t7⟩:=sN X.K t;rcases h with ⟨h1,q⟩ | ⟨h1,q⟩ | ⟨kvs,h1,q⟩
 ·have fin:∀ tk,EP X pins σ Q (.bool (t == .list)) { s with toks:=tk }:=fun tk=>⟨.bl _,H,I.tok tk,rfl,q⟩
  rcases h1 with h1 | ⟨o,h1⟩
  ·exact cJ I rx (.lst h1) t5 fin
  ·exact cJ I rx (.jG h1) t5 fin
 ·have fin:∀ tk,EP X pins σ Q (.bool (t == .tuple)) { s with toks:=tk }:=fun tk=>⟨.bl _,H,I.tok tk,rfl,q⟩
  cases rx;exact PySem.W.kia_one PySem.W.kitx_tuple I.gi (jy (K:=X.K) I h1) t6 (fun z=>nomatch z) fin
 ·have fin:∀ tk,EP X pins σ Q (.bool (t == .dict)) { s with toks:=tk }:=fun tk=>⟨.bl _,H,I.tok tk,rfl,q⟩
  exact cJ I rx (.dK h1) t7 fin
theorem z6{t:Ty}{pt:Pos}(hg:Gl X "isinstance")(hm:X.mg "isinstance"=none)(hgt:Gl X t.nm)(hmt:X.mg t.nm=none)
  (he:starEach [a,Expr.Name t.nm pt] X.env=(false,eval a X.env)::starEach [Expr.Name t.nm pt] X.env) (hpl:(backTo pos (starEach [Expr.Name t.nm pt] X.env)).any (·.1)=false) (ha:bz X κ Φ a ma) :
  bz X κ Φ (.Call (.Name "isinstance" p) [a,.Name t.nm pt] [] pos) (m1 (bG t) ma):=by
 have Qx:PE X (.Name t.nm pt) (tC (.ty t.id)):=yJ hgt hmt (zl t) rfl (by cases t<;>decide) (by cases t<;>decide)
 unfold bG;rw[C4];refine bz.alt ?_ ?_
 ·refine iR (r:=fun x H Q=>BH X.K [x,.ty t.id] H Q) (fun ta pa=>kq uK hg hm boot_isinstance (c9 pa (c9 Qx iu rfl) he) (by decide) (by decide) he hpl) ha ?_
  intro dx x α Z Ω H Q S rx g;unfold Dh at g;split at g
  ·split at g
   ·rename_i k ds hk
    obtain⟨a,vs,rfl,h1,h2⟩:=bF (ds:=ds) S rx (by simp only[dB,hk])
    exact⟨a,vs,t,rfl,.inl ⟨h1,cf.ret S (ba rfl) g⟩⟩
   ·rename_i k kvs hk
    simp only[aw]at rx;obtain⟨a,ha,rfl⟩:=rx;obtain⟨a',ha',kvs',h1,_⟩:=S.cell hk;rw[ha]at ha';cases ha'
    exact⟨a,[],t,rfl,.inr (.inr ⟨kvs',h1,cf.ret S (ba rfl) g⟩)⟩
   ·exact g.elim
  ·rename_i ds
   obtain⟨a,vs,rfl,h1,h2⟩:=bF (ds:=ds) S rx rfl;exact⟨a,vs,t,rfl,.inl ⟨h1,cf.ret S (ba rfl) g⟩⟩
  ·obtain⟨a,vs,rfl,_,h1,h2⟩:=fU rx
   exact⟨a,vs,t,rfl,.inr (.inl ⟨.inl h1,cf.ret S (ba rfl) g⟩)⟩
  ·exact g.elim
 ·refine iR (r:=fun x H Q=>Gp X.K [x,.ty t.id] H Q) (fun ta pa=>kq wy hg hm boot_isinstance (c9 pa (c9 Qx iu rfl) he) (by decide) (by decide) he hpl) ha ?_
  intro dx x α Z Ω H Q S rx g;obtain⟨d,own,d',n1,e1,k⟩:=k7 (bw:=false) S rx g;cases q:v_ d t with
  | none=>rw[q]at e1;cases e1
  | some b=>
   rw[q]at e1;cases e1;exact⟨_,d,x,t,b,rfl,n1,q,fS (cN S) k rfl⟩
def bP(BI:aF->D->Bool)(f:D->List D->aF->ax D)(mo:EM)(as:AM):EM:=fun ρ Ω=>(mo ρ Ω).bind fun x ak=>if BI ak x=true then (as ρ ak).bind fun xs av=>f x xs av else .bad
def eX(Ω:aF)(x:D):Bool:=(dB Ω x).isSome
noncomputable def xk(_:aF)(x:D):Bool:=match x with
 | .str _=>true
 | _=>false
theorem rp{x:D}{v:V}{K:PySem.W.Frag}(S:bO κ α Z Ω H)(r:aw α Z H x v)(h:eX Ω x=true):F5 K "list" v H:=by
 unfold eX at h;cases q:dB Ω x with
 | none=>rw[q]at h;cases h
 | some ds=>
  obtain⟨a,vs,rfl,h1,h2⟩:=bF S r q;exact .inl ⟨rfl,vs,jc h1⟩
theorem z7{x:D}{v:V}{K:PySem.W.Frag}(S:bO κ α Z Ω H)(r:aw α Z H x v)(h:xk Ω x=true):F5 K "str" v H:=by
 cases x with
 | str z=>simp only[aw]at r;subst r;rfl
 | _=>cases h
section
variable{T id:String}{name:Str}{r:V->List V->Hp->VK->Prop}{BI:aF->D->Bool}{f:D->List D->aF->ax D}
theorem xo{env:Env}:∀ {es:List Expr},(∀ e∈es,isStar e=false)->((backTo cpos (starEach es env)).all (fun x => !x.1))=true
 | [],_=>rfl
 | e::es,h=>by
  rw[bZ (h e (by simp))]
  show(!false && (backTo cpos (starEach es env)).all (fun x => !x.1))=true
  rw[xo fun z hz=>h z (by simp[hz])];rfl
theorem nW(pa:PlainAttrs T)(slot:PySem.Slot T name id)(hty:typeOf (.builtin id)=pure (.type "method_descriptor"))(hm:JQ X id r)
  (hT:∀ x v α Z Ω H,bO κ α Z Ω H->aw α Z H x v->BI Ω x=true->F5 X.K T v H)
  (hr:∀ x v xs vs α Z Ω H Q,bO κ α Z Ω H->aw α Z H x v->aR (aw α Z H) xs vs->cf κ Φ α Z H (f x xs Ω) Q->r v vs H Q)
  (hbase:attributeBase o name X.env (eval o X.env)=eval o X.env) (hline:(apos.endLine == cpos.line)=true) (ho:bz X κ Φ o mo) (ha:qz X κ Φ (e::es) as) (hst:∀ z∈e::es,isStar z=false) (hlen:(e::es).length < 20):bz X κ Φ (.Call (.Attribute o name apos) (e::es) [] cpos) (bP BI f mo as):=by
 intro aG Z0 H0 ρ Ω
 have hfew:((backTo cpos (starEach (e::es) X.env)).all (fun x => !x.1) && (backToKw cpos (keywordEach [] X.env)).all (fun x=>x.1.isSome)
   && decide ((e::es).length + ([]:List Keyword).length + (if ([]:List Keyword).isEmpty then 0 else 1) < 30))=true:=by
  rw[xo hst,decide_eq_true (by show(e::es).length + 0 + 0 < 30;omega)];rfl
 refine PE.imp (L2.F6 pa slot hty hm (ho aG Z0 H0 ρ Ω) (PA.ex fun ak=>ha aG Z0 H0 ρ ak) hbase hfew hline (bZ (hst e (by simp))) (dg fun z hz=>hst z (by simp[hz]))) ?_
 rintro σ H Q ⟨α,Z,S,g⟩;refine⟨α,Z,S,cf.use g fun x ak _ v H1 α1 Z1 g1 s1 r1 k1 => ?_⟩
 split at k1
 ·rename_i hi
  exact⟨hT x v α1 Z1 ak H1 s1 r1 hi,ak,α1,Z1,S.grow g1 s1,pF.use k1 fun xs av _ vs H2 α2 Z2 g2 s2 r2 k2=>hr x v xs vs α2 Z2 av H2 Q s2 (s1.dX g2 r1) r2 k2⟩
 ·exact k1.elim
end
noncomputable def uL(Ω:aF):D->Option (Nat×List D)
 | .ref k=>match Ω[k]? with
  | some (.lst ds)=>some (k,ds)
  | _=>none
 | _=>none
theorem pL{x:D}{v:V}{k:Nat}{ds:List D}(S:bO κ α Z Ω H)(r:aw α Z H x v)(h:uL Ω x=some (k,ds)):∃ a vs,v=.ref a/\α[k]?=some a/\H a=some (.lst vs)/\aR (aw α Z H) ds vs:=by
 cases x with
 | ref n=>
  simp only[uL]at h;split at h
  ·rename_i ds' hk
   cases h;simp only[aw]at r;obtain⟨a,ha,rfl⟩:=r;obtain⟨a',ha',vs,h1,h2⟩:=S.cell hk;rw[ha]at ha';cases ha';exact⟨a,vs,rfl,ha,h1,h2⟩
  ·cases h
 | _=>cases h
theorem pM{k:Nat}{p:Addr}{ds:List D}{vs:List V}{d:D}{u:V}(S:bO κ α Z Ω H)(hk:α[k]?=some p){ws:List V}(hm:H p=some (.lst ws))(r:aR (aw α Z H) ds vs)(ru:aw α Z H d u)(g:cf κ Φ α Z H (.ok d (Ω.set k (.lst ds))) Q):Q u (upd H p (.lst vs)):=by
 obtain⟨S1,g1⟩:=S.put (o:=.lst vs) (c:=.lst ds) hk (fun o u z=>by rw[hm]at z;cases z) fun R hR=>⟨vs,bE,r.imp hR⟩
 exact g _ _ _ _ g1 S1 (S.dX g1 ru)
def bf(x:D)(xs:List D)(Ω:aF):ax D:=match uL Ω x,xs with
 | some (k,ds),[y]=>if small (ds.length + 1) then .ok .non (Ω.set k (.lst (ds++[y]))) else .bad
 | _,_=>.bad
def gJ(x:D)(xs:List D)(Ω:aF):ax D:=match uL Ω x,xs with
 | some (k,ds),[.int i]=>if hU i=true then (match L2.sr ds.length i with
  | some n=>match ds[n]? with
   | some d=>.ok d (Ω.set k (.lst (ds.eraseIdx n)))
   | none=>.bad
  | none=>.bad) else .bad
 | _,_=>.bad
def cq(x:D)(xs:List D)(Ω:aF):ax D:=match xs with
 | [y]=>fT (fun a b=>match a with | .lst ds=>nv .index (.lst ds) (.tup [b]) | _=>.bad) x y Ω
 | _=>.bad
def lh(x:D)(xs:List D)(Ω:aF):ax D:=match xs with
 | [y]=>fT (fun a b=>nv .join a (.tup [b])) x y Ω
 | _=>.bad
theorem iU{R:D->V->Prop}{y:D}{vs:List V}(h:aR R [y] vs):∃ v,vs=[v]/\R y v:=by
 obtain⟨v,r,rfl,h1,h2⟩:=h.cons_inv;rw[h2.nil_inv];exact⟨v,rfl,h1⟩
theorem uM{x:D}{v:V}{xs:List D}{vs:List V}(S:bO κ α Z Ω H)(r:aw α Z H x v)(rs:aR (aw α Z H) xs vs)(g:cf κ Φ α Z H (bf x xs Ω) Q):sx v vs H Q:=by
 unfold bf at g;split at g
 ·rename_i k ds y hk
  obtain⟨a,ws,rfl,h1,h2,h3⟩:=pL S r hk;obtain⟨u,rfl,h4⟩:=iU rs;split at g
  ·rename_i hs
   have:=bS hs;exact⟨a,ws,u,rfl,rfl,h2,by rw[h3.length];omega,pM S h1 h2 (h3.append (.one h4)) (ba rfl) g⟩
  ·exact g.elim
 ·exact g.elim
theorem xq{x:D}{v:V}{xs:List D}{vs:List V}(S:bO κ α Z Ω H)(r:aw α Z H x v)(rs:aR (aw α Z H) xs vs)(g:cf κ Φ α Z H (gJ x xs Ω) Q):vJ v vs H Q:=by
 unfold gJ at g;split at g
 ·rename_i k ds i hk
  obtain⟨a,ws,rfl,h1,h2,h3⟩:=pL S r hk;obtain⟨u,rfl,ru⟩:=iU rs;simp only[aw]at ru;subst ru;split at g
  ·rename_i hin
   have hi:=o_ hin;split at g
   ·rename_i n hn
    split at g
    ·rename_i d hd
     obtain⟨u,h4,h5⟩:=h3.get hd;obtain⟨e1,e2,e3,e4⟩:=su hn;exact⟨a,ws,i,n,u,rfl,rfl,h2,by omega,by omega,by rw[h3.length];exact e1,h4,pM S h1 h2 (h3.eraseIdx n) h5 g⟩
    ·exact g.elim
   ·exact g.elim
  ·exact g.elim
 ·exact g.elim
theorem xr{x:D}{v:V}{xs:List D}{vs:List V}(S:bO κ α Z Ω H)(r:aw α Z H x v)(rs:aR (aw α Z H) xs vs)(g:cf κ Φ α Z H (cq x xs Ω) Q):wD v vs H Q:=by
 unfold cq at g;split at g
 ·obtain⟨u,rfl,h4⟩:=iU rs
  obtain⟨d,e,own,d',n1,n2,e1,k⟩:=gE (bw:=false) S r h4 g;cases d with
  | lst ds=>
   (unfold nv at e1;dsimp only at e1)
   split at e1
   ·rename_i hc
    simp only[Bool.and_eq_true]at hc;split at e1
    ·rename_i j hj
     cases e1;exact⟨_,ds,e,u,j,rfl,n1,n2,hc.1,hc.2,hj,fS (cN S) k rfl⟩
    ·cases e1
   ·cases e1
  | _=>cases e1
 ·exact g.elim
theorem z8{x:D}{v:V}{xs:List D}{vs:List V}(S:bO κ α Z Ω H)(r:aw α Z H x v)(rs:aR (aw α Z H) xs vs)(g:cf κ Φ α Z H (lh x xs Ω) Q):rJoin v vs H Q:=by
 unfold lh at g;split at g
 ·obtain⟨u,rfl,h4⟩:=iU rs
  obtain⟨d,e,own,d',n1,n2,e1,k⟩:=gE (bw:=false) S r h4 g;cases d with
  | str z=>
   cases cQ n1;cases e with
   | lst ds=>
    (unfold nv at e1;dsimp only at e1)
    split at e1
    ·rename_i ys hs
     split at e1
     ·rename_i hc
      cases e1;simp only[Bool.and_eq_true,decide_eq_true_eq]at hc;exact⟨z,_,ds,ys,u,rfl,rfl,n2,hs,hc.1,hc.2,fS (cN S) k rfl⟩
     ·cases e1
    ·cases e1
   | _=>cases e1
  | _=>cases e<;>cases e1
 ·exact g.elim
end
inductive Src where
 | seq (x:D) | ints (lo:Int) (n:Nat) | chars (z:Str) | M3 (x:D)
def ia:Src->aF->Option (List D)
 | .seq x,Ω=>eW Ω x
 | .ints lo n,_=>some (intsFrom lo n)
 | .chars z,_=>some (z.cps.toList.map fun c=>.str (gu c))
 | .M3 x,Ω=>(eW Ω x).map (du 0)
abbrev IM:=aU->aF->ax Src
def z9(κ:Str->Addr->Prop)(s:Src)(J:It)(α:List Addr)(Z:Addr->Prop)(H:Hp):Prop:=∀ α1 Z1 ak H1 ds,cg α Z H α1 Z1 H1->bO κ α1 Z1 ak H1->ia s ak=some ds ->
 (∀ (i:Nat) (d:D),ds[i]?=some d->J.go i H1/\∀ x H2,J.JM i H1 x H2->∃ Z2,cg α1 Z1 H1 α1 Z2 H2/\bO κ α1 Z2 ak H2/\aw α1 Z2 H2 d x)/\∀ i,ds.length<=i->J.stop i H1
def rq(κ:Str->Addr->Prop)(Φ:f_)(α:List Addr)(Z:Addr->Prop)(H:Hp)(r:ax Src)(R:It->Hp->Prop):Prop:=match r with
 | .ok s aq=>∀ J H' α' Z',cg α Z H α' Z' H'->bO κ α' Z' aq H'->z9 κ s J α' Z' H'->R J H'
 | .exc x aq=>∀ H' α' Z',cg α Z H α' Z' H'->bO κ α' Z' aq H'->Φ x aq α' Z' H'
 | .bad=>False
noncomputable def SR(κ:Str->Addr->Prop)(Φ:f_)(aG:List Addr)(Z0:Addr->Prop)(H0:Hp)(m:IM)(ρ:aU)(Ω:aF):TI:=fun σ H R=>∃ α Z,cB κ aG Z0 H0 α Z Ω ρ σ H/\rq κ Φ α Z H (m ρ Ω) R
def xu(X:Cx)(κ:Str->Addr->Prop)(Φ:f_)(tg e:Expr)(m:IM):Prop:=∀ aG Z0 H0 ρ Ω,PI X tg e (SR κ Φ aG Z0 H0 m ρ Ω)
def srcOf(Ω:aF)(x:D):ax Src:=match eW Ω x,x with
 | some _,x=>.ok (.seq x) Ω
 | none,.str z=>.ok (.chars z) Ω
 | none,_=>.bad
def aZ(m:EM):IM:=fun ρ Ω=>(m ρ Ω).bind fun x ak=>srcOf ak x
def uN(m:EM):IM:=fun ρ Ω=>(m ρ Ω).bind fun x ak=>match eW ak x with
 | some _=>.ok (.M3 x) ak
 | none=>.bad
def tm(xs:List D)(Ω:aF):ax Src:=match xs with
 | [.int j]=>if hU j then .ok (.ints 0 j.toNat) Ω else .bad
 | _=>.bad
def bt(as:AM):IM:=fun ρ Ω=>(as ρ Ω).bind tm
section
variable{X:Cx}{κ:Str->Addr->Prop}{Φ:f_}{α α' aG α1:List Addr}{Z Z' Z0 Z1:Addr->Prop}{Ω aq:aF}{H H' H0 H1:Hp}{ρ:aU}{σ:L2.St}{Q Q':VK}{r:ax D}{a b e ce o tg:Expr}{rest:List Expr}{es:List Expr}{ma mb mc m mo:EM}{as:AM}{pos p apos cpos tpos:Pos}
theorem rq.from{r:ax Src}{R:It->Hp->Prop}(g:cg α Z H α1 Z1 H1)(h:rq κ Φ α Z H r R):rq κ Φ α1 Z1 H1 r R:=by
 cases r with
 | ok d aq=>exact fun v H' α' Z' g'=>h v H' α' Z' (g.trans g')
 | exc x aq=>exact fun H' α' Z' g'=>h H' α' Z' (g.trans g')
 | bad=>exact h
theorem rq.use{r:ax D}{f:D->aF->ax Src}{R:It->Hp->Prop}(h:rq κ Φ α Z H (r.bind f) R)(k:∀ d ak,r=.ok d ak->∀ v H1 α1 Z1,cg α Z H α1 Z1 H1->bO κ α1 Z1 ak H1->aw α1 Z1 H1 d v->rq κ Φ α1 Z1 H1 (f d ak) R->Q' v H1):cf κ Φ α Z H r Q':=by
 cases r with
 | ok d ak=>exact fun v H1 α1 Z1 g s q=>k d ak rfl v H1 α1 Z1 g s q (rq.from g h)
 | exc x ak=>exact h
 | bad=>exact h
theorem pN{K:PySem.W.Frag}{x:D}{a:Addr}(hx:aw α Z H x (.ref a))(S:bO κ α Z Ω H)(hl:(dB Ω x).isSome=true):z9 κ (.seq x) (Mb K a) α Z H:=by
 intro α1 Z1 ak H1 ds g s hs;have hx1:=S.dX g hx;have hnt:∀ es,x≠.tup es:=fun es e=>by subst e;cases hl
 have hs':dB ak x=some ds:=by
  cases x with
  | tup es=>exact absurd rfl (hnt _)
  | _=>exact hs
 obtain⟨a',vs,e,h1,h2⟩:=bF s hx1 hs';cases e;refine⟨fun i d hd => ?_,fun i hi=>⟨vs,jc h1,by rw[h2.length];exact hi⟩⟩
 obtain⟨v,hv,rv⟩:=h2.get hd;refine⟨⟨vs,v,jc h1,hv⟩,fun y H2 hy => ?_⟩
 obtain⟨rfl,hy⟩:=hy;have:=hy vs (jc h1);rw[hv]at this;cases this;exact⟨Z1,cg.refl s.has,s,rv⟩
theorem z_{K:PySem.W.Frag}{es:List D}{a:Addr}(hx:aw α Z H (.tup es) (.ref a))(S:bO κ α Z Ω H):z9 κ (.seq (.tup es)) (Mc K a) α Z H:=by
 intro α1 Z1 ak H1 ds g s hs;have hx1:=S.dX g hx;cases hs;obtain⟨a',vs,e,_,h1,h2⟩:=fU hx1;cases e;refine⟨fun i d hd => ?_,fun i hi=>⟨vs,uq (.inl h1),by rw[h2.length];exact hi⟩⟩
 obtain⟨v,hv,rv⟩:=h2.get hd;refine⟨⟨vs,v,uq (.inl h1),hv⟩,fun y H2 hy => ?_⟩
 obtain⟨rfl,hy⟩:=hy;have:=hy vs (uq (.inl h1));rw[hv]at this;cases this;exact⟨Z1,cg.refl s.has,s,rv⟩
theorem Aa(h:bz X κ Φ e m):xu X κ Φ tg e (aZ m):=by
 intro aG Z0 H0 ρ Ω;refine PI.imp (CT (h aG Z0 H0 ρ Ω)) ?_;rintro σ H R ⟨α,Z,S,g⟩;refine⟨α,Z,S,rq.use g fun x ak _ v H1 α1 Z1 g1 s1 r1 k1 => ?_⟩
 cases x with
 | tup es=>
  have r1':=r1;obtain⟨a,vs,rfl,_,h1,h2⟩:=fU r1;exact .inr (.inl ⟨a,vs,rfl,.inl h1,k1 _ H1 α1 Z1 (cg.refl s1.has) s1 (z_ r1' s1)⟩)
 | lst es=>
  have r1':=r1;obtain⟨a,vs,rfl,h1,h2⟩:=bF (ds:=es) s1 r1 rfl;exact .inl ⟨a,vs,rfl,h1,k1 _ H1 α1 Z1 (cg.refl s1.has) s1 (pN r1' s1 rfl)⟩
 | ref n=>
  cases hq':dB ak (.ref n) with
  | none=>
   simp only[srcOf,eW,hq']at k1;exact k1.elim
  | some ds=>
   simp only[srcOf,eW,hq']at k1;have r1':=r1;obtain⟨a,vs,rfl,h1,h2⟩:=bF s1 r1 hq';exact .inl ⟨a,vs,rfl,h1,k1 _ H1 α1 Z1 (cg.refl s1.has) s1 (pN r1' s1 (by rw[hq'];rfl))⟩
 | str z=>
  simp only[aw]at r1;subst r1;refine .inr (.inr ⟨z,rfl,k1 _ H1 α1 Z1 (cg.refl s1.has) s1 ?_⟩);intro α2 Z2 av H2 ds g2 s2 hs;cases hs;refine⟨fun i d hd => ?_,fun i hi=>by show z.cps.size<=i;simpa using hi⟩
  have hi:i < z.cps.size:=by
   have:=(List.getElem?_eq_some_iff.mp hd).1;simpa using this
  refine⟨hi,fun y H3 hy => ?_⟩
  obtain⟨rfl,c,hc,rfl⟩:=hy;rw[List.getElem?_map]at hd;have hc':z.cps.toList[i]?=some c:=by simpa using hc
  rw[hc']at hd;cases hd;exact⟨Z2,cg.refl s2.has,s2,ba rfl⟩
 | non=>exact k1.elim
 | bl _=>exact k1.elim
 | int _=>exact k1.elim
 | dct _ _=>exact k1.elim
theorem xv{lo:Int}{n:Nat}:z9 κ (.ints lo n) (FE lo n) α Z H:=by
 intro α1 Z1 ak H1 ds g s hs;cases hs;refine⟨fun i d hd => ?_,fun i hi=>by rw[kJ]at hi;exact hi⟩
 have hi:=(List.getElem?_eq_some_iff.mp hd).1;rw[kJ]at hi;refine⟨hi,fun y H2 hy => ?_⟩
 obtain⟨rfl,rfl⟩:=hy;rw[ints_get _ _ _ _ hd];exact⟨Z1,cg.refl s.has,s,ba rfl⟩
theorem rq.M4{r:ax (List D)}{f:List D->aF->ax Src}{R:It->Hp->Prop}{Q':List V->Hp->Prop}(h:rq κ Φ α Z H (r.bind f) R)(k:∀ ds ak,r=.ok ds ak->∀ vs H1 α1 Z1,cg α Z H α1 Z1 H1->bO κ α1 Z1 ak H1->aR (aw α1 Z1 H1) ds vs->rq κ Φ α1 Z1 H1 (f ds ak) R->Q' vs H1):pF κ Φ α Z H r Q':=by
 cases r with
 | ok d ak=>exact fun v H1 α1 Z1 g s q=>k d ak rfl v H1 α1 Z1 g s q (rq.from g h)
 | exc x ak=>exact h
 | bad=>exact h
theorem xy(hg:Gl X "range")(hm:X.mg "range"=none)(ha:qz X κ Φ [a] as)(hs:starEach [a] X.env=[(false,eval a X.env)]):xu X κ Φ tg (.Call (.Name "range" p) [a] [] pos) (bt as):=by
 intro aG Z0 H0 ρ Ω;refine PI.imp (ua hg hm (ha aG Z0 H0 ρ Ω) hs) ?_;rintro σ H R ⟨α,Z,S,g⟩;refine⟨α,Z,S,rq.M4 (Q':=fun vs H1=>∃ j:Int,vs=[.int j] /\ -(2 ^ 62)<=j/\j < 2 ^ 62/\R (FE 0 j.toNat) H1) g fun xs ak _ vs H1 α1 Z1 g1 s1 r1 k1 => ?_⟩
 unfold tm at k1;split at k1
 ·obtain⟨v,rfl,r2⟩:=iU r1
  simp only[aw]at r2;subst r2;split at k1
  ·rename_i hi
   have hi:=o_ hi;exact⟨_,rfl,hi.1,hi.2,k1 _ H1 α1 Z1 (cg.refl s1.has) s1 xv⟩
  ·exact k1.elim
 ·exact k1.elim
noncomputable def nX(n:Nat)(d:D):Option aU:=match n,d with
 | 0,d=>some [some d]
 | n,.tup ds=>if ds.length=n then some (ds.map some) else none
 | _,_=>none
noncomputable def dh(cap:List Nat)(ρ:aU):aU:=cap.map fun i=>(ρ[i]?).join
def gK(nc:Bool)(mc:EM)(ρ:aU)(Ω:aF):ax Bool:=if nc=true then .ok true Ω else dJ (mc ρ Ω)
def tq(nc:Bool)(mc me:EM)(n:Nat)(τ:aU)(src:Src):Nat->Nat->List D->aF->ax (List D)
 | 0,_,_,_=>.bad
 | f + 1,i,acc,Ω=>match ia src Ω with
  | none=>.bad
  | some ds=>match ds[i]? with
   | none=>.ok acc Ω
   | some d=>match nX n d with
    | none=>.bad
    | some ts=>if small (acc.length + 1) then match gK nc mc (ts++τ) Ω with
     | .ok true ak=>match me (ts++τ) ak with
      | .ok y av=>tq nc mc me n τ src f (i + 1) (acc++[y]) av
      | _=>.bad
     | .ok false ak=>tq nc mc me n τ src f (i + 1) acc ak
     | _=>.bad else .bad
def bp(me:EM)(nc:Bool)(mc:EM)(mi:IM)(n:Nat)(cap:List Nat):EM:=fun ρ Ω=>match mi ρ Ω with
 | .ok s ak=>match tq nc mc me n (dh cap ρ) s fuel 0 [] ak with
  | .ok ys av=>l5 av (.lst ys)
  | _=>.bad
 | .exc x ak=>.exc x ak
 | .bad=>.bad
noncomputable def jk:f_:=fun _ _ _ _ _=>False
theorem pO{cap:List Nat}{ds:List D}{vs:List V}(S:cB κ aG Z0 H0 α Z Ω ρ σ H)(g:cg α Z H α1 Z1 H1)(s:bO κ α1 Z1 aq H1)(r:aR (aw α1 Z1 H1) ds vs) :
  cB κ α1 Z1 H1 α1 Z1 aq (ds.map some++dh cap ρ) (vs.map some++pe cap σ) H1:=by
 have hl:=r.length;refine⟨s,cg.refl s.has,?_,fun i d h => ?_⟩
 ·rw[List.length_append,List.length_append,List.length_map,List.length_map,hl]
  unfold pe dh;rw[List.length_map,List.length_map]
 ·by_cases hi:i < ds.length
  ·rw[List.getElem?_append_left (by simpa using hi),List.getElem?_map]at h
   rw[List.getElem?_append_left (by simpa[hl] using hi),List.getElem?_map]
   cases q:ds[i]? with
   | none=>rw[q]at h;cases h
   | some d'=>
    rw[q]at h;cases h;obtain⟨v,hv,rv⟩:=r.get q;exact⟨v,by rw[hv];rfl,rv⟩
  ·rw[List.getElem?_append_right (by simpa using hi)]at h
   rw[List.getElem?_append_right (by simpa[hl] using hi)]
   unfold dh at h;unfold pe;rw[List.length_map,List.getElem?_map]at h;rw[List.length_map,hl,List.getElem?_map];cases q:cap[i - ds.length]? with
   | none=>rw[q]at h;cases h
   | some j=>
    rw[q]at h;have h:(ρ[j]?).join=some d:=by simpa using h
    have hj:ρ[j]?=some (some d):=by
     cases q2:ρ[j]? with
     | none=>rw[q2]at h;cases h
     | some o=>rw[q2]at h;rw[show o=some d from h]
    obtain⟨v,hv,rv⟩:=S.val j d hj;refine⟨v,?_,S.st.dX g rv⟩
    show some ((σ[j]?).join)=_
    rw[hv];rfl
theorem cg.BJ(g:cg α Z H α' Z' H'){a:Addr}{o:HO}(hn:a∉α)(h:H a=some o):a∉α':=fun q=>by
 rcases g.C0 a q with q | q
 ·exact hn q
 ·rw[h]at q;cases q
theorem cg.Di(g:cg α Z H α' Z' H'){a:Addr}{o:HO}(hn:¬ Z a)(h:H a=some o):¬ Z' a:=fun q=>by
 rcases g.new a q with q | q
 ·exact hn q
 ·rw[h]at q;cases q
theorem cg.side(g:cg α Z H α' Z' H'){a:Addr}{o:HO}(hn:a∉α)(h:H a=Option.none):cg α Z H α' Z' (upd H' a o):=
 ⟨g.pre,g.sub,g.new,g.C0,fun b u e hb=>by rw[aI (br e h)];exact g.frm b u e hb,fun b hb=>by rw[aI (fun (q:b=a)=>hn (by rw[← q];exact hb))];exact g.has b hb⟩
theorem Ab{n:Nat}{d:D}{τ:aU}(h:nX n d=some τ):∃ ds:List D,τ=ds.map some:=by
 unfold nX at h;split at h
 ·cases h;exact⟨[d],rfl⟩
 ·split at h
  ·cases h;exact⟨_,rfl⟩
  ·cases h
 ·cases h
theorem bO.part(S:bO κ α Z Ω H){D0:Addr}{vs:List V}{ds:List D}(hD:H D0=some (.lst vs))(hn:D0∉α)(hz:¬ Z D0)(r:aR (aw α Z H) ds vs):bO κ (α++[D0]) Z (Ω++[.lst ds]) H:=by
 have pre:∀ (n:Nat) (a:Addr),α[n]?=some a->(α++[D0])[n]?=some a:=fun n a e=>by rw[List.getElem?_append_left (List.getElem?_eq_some_iff.mp e).1];exact e
 have mono:∀ d v,aw α Z H d v->aw (α++[D0]) Z H d v:=fun d v r=>r.mono pre (fun _ _ _ e=>e) fun _ z=>z
 refine⟨?_,?_,fun a ha hz' => ?_,S.dom⟩
 ·refine List.nodup_append.mpr ⟨S.oJ,by simp,fun a ha b hb e => ?_⟩
  rw[List.mem_singleton.mp hb]at e;exact hn (e▸ha)
 ·exact aR.append (S.yz.imp fun c a hc=>hc.imp mono (fun _ e=>e) fun _ _ _ e=>e) (.one ⟨vs,hD,r.imp mono⟩)
 ·rcases List.mem_append.mp ha with ha | ha
  ·exact S.sep a ha hz'
  ·rw[List.mem_singleton.mp ha]at hz';exact hz hz'
theorem bO.side(S:bO κ α Z Ω H){D0:Addr}{o:HO}(hn:D0∉α)(hz:¬ Z D0)(hm:∀ o u,H D0≠some (.jG o u)):bO κ α Z Ω (upd H D0 o)/\∀ d v,aw α Z H d v->aw α Z (upd H D0 o) d v:=by
 have mono:∀ d v,aw α Z H d v->aw α Z (upd H D0 o) d v:=fun d v r=>r.mono (fun _ _ e=>e) (fun a u z e=>by rw[aI (fun (q:a=D0)=>hz (by rw[← q];exact z))];exact e) fun _ z=>z
 have key:∀ {cs:List Cell} {as:List Addr},(∀ a∈as,a∈α)->aR (fun c a=>hZ κ (aw α Z H) H a c) cs as->aR (fun c a=>hZ κ (aw α Z (upd H D0 o)) (upd H D0 o) a c) cs as:=by
  intro cs as hin hA
  induction hA with
  | nil=>exact .nil
  | @cons c a cs as r t ih=>
   have hne:a≠D0:=fun q=>hn (q▸hin a (by simp))
   exact .cons (r.imp mono (fun u e=>by rw[aI hne];exact e) fun b o' u' e=>by rw[aI (fun q=>hm o' u' (by rw[← q];exact e))];exact e) (ih fun b hb=>hin b (by simp[hb]))
 exact⟨⟨S.oJ,key (fun a h=>h) S.yz,S.sep,fun a z=>by rw[aI (fun (q:a=D0)=>hz (by rw[← q];exact z))];exact S.dom a z⟩,mono⟩
end
section
variable{X:Cx}{κ:Str->Addr->Prop}{Φ:f_}{tg iter elt:Expr}{ifs:List Expr}{scope:Scope}{tn cn:List Str}{cap:List Nat}{me mc:EM}{mi:IM}{nc:Bool}{pos:Pos}{n:Nat}
theorem uO{g:TG}(hit:xu X κ Φ tg iter mi)
  (hgt:∀ (d:D) (ds:List D) x α Z Ω H (σ':L2.St) (k:L2.St->Hp->Prop),nX n d=some (ds.map some)->bO κ α Z Ω H->aw α Z H d x->(∀ vs,aR (aw α Z H) ds vs->k (vs.map some++σ') H)->g x (List.replicate tn.length none++σ') H k)
  (hb:∀ cl C s₀ H₀ fp,PG (blk X scope cl C (tn++cn) s₀ H₀ fp) tg g/\((ifs=[]/\nc=true)\/∃ c,ifs=[c]/\nc=false/\gC (blk X scope cl C (tn++cn) s₀ H₀ fp) κ jk c mc)/\bz (blk X scope cl C (tn++cn) s₀ H₀ fp) κ jk elt me) :
  ∀ aG Z0 H0 ρ Ω,∃ wi tc te,PI X tg iter wi/\(∀ cl C s₀ H₀ fp,PG (blk X scope cl C (tn++cn) s₀ H₀ fp) tg g/\zm (blk X scope cl C (tn++cn) s₀ H₀ fp) ifs tc/\PE (blk X scope cl C (tn++cn) s₀ H₀ fp) elt te) /\
   ∀ σ H Q,tO κ Φ aG Z0 H0 (bp me nc mc mi n cap) ρ Ω σ H Q->mz wi tn.length cap g tc te σ H Q:=by
 intro aG Z0 H0 ρ Ω
 let tc:TT:=fun σ' H Q=>∃ α Z Ω bB,cB κ α Z H α Z Ω bB σ' H/\oK κ jk α Z H (gK nc mc bB Ω) Q
 let te:TE:=fun σ' H Q=>∃ α Z Ω bB,cB κ α Z H α Z Ω bB σ' H/\cf κ jk α Z H (me bB Ω) Q
 have hb':∀ cl C s₀ H₀ fp,PG (blk X scope cl C (tn++cn) s₀ H₀ fp) tg g/\zm (blk X scope cl C (tn++cn) s₀ H₀ fp) ifs tc/\PE (blk X scope cl C (tn++cn) s₀ H₀ fp) elt te:=by
  intro cl C s₀ H₀ fp;obtain⟨h1,h2,h3⟩:=hb cl C s₀ H₀ fp;refine⟨h1,?_,?_⟩
  ·rcases h2 with ⟨e,hn⟩ | ⟨c,e,hn,h2⟩
   ·subst e
    intro pins s σ' H Q I q;obtain⟨α,Z,Ω,bB,S,k⟩:=q;rw[gK,if_pos hn]at k;exact zo pins s σ' H Q I (k H α Z (cg.refl S.st.has) S.st)
   ·subst e
    intro pins s σ' H Q I q;obtain⟨α,Z,Ω,bB,S,k⟩:=q;rw[gK,if_neg (by rw[hn];exact Bool.false_ne_true)]at k
    exact zp (h2 α Z H bB Ω) pins s σ' H Q I ⟨α,Z,S,k⟩
  ·intro pins s σ' H Q I q
   obtain⟨α,Z,Ω,bB,S,k⟩:=q;exact h3 α Z H bB Ω pins s σ' H Q I ⟨α,Z,S,k⟩
 refine⟨_,tc,te,hit aG Z0 H0 ρ Ω,hb',?_⟩;rintro σ H Q ⟨α,Z,S,k⟩;refine⟨α,Z,S,?_⟩;simp only[bp]at k;cases qi:mi ρ Ω with
 | exc x ak=>rw[qi]at k;exact k
 | bad=>rw[qi]at k;exact k.elim
 | ok src ak=>
  rw[qi]at k;dsimp only at k;intro J H1 α1 Z1 g1 s1 w1 D0 hD;cases qg:tq nc mc me n (dh cap ρ) src fuel 0 [] ak with
  | exc x av=>rw[qg]at k;exact k.elim
  | bad=>rw[qg]at k;exact k.elim
  | ok ys av=>
   rw[qg]at k;dsimp only at k;have GQ:¬ Z1 D0:=fun z=>s1.dom D0 z hD
   have Ac:D0∉α1:=fun z=>s1.has D0 z hD
   refine⟨fun i f vs H2=>∃ α2 Z2 BK acc,cg α1 Z1 H1 α2 Z2 H2/\bO κ α2 Z2 BK H2/\D0∉α2/\¬ Z2 D0/\H2 D0=some (.lst vs)/\aR (aw α2 Z2 H2) acc vs/\tq nc mc me n (dh cap ρ) src f i acc BK=.ok ys av,
    ⟨fuel,α1,Z1,ak,[],?_,?_,Ac,GQ,bE,.nil,qg⟩,?_⟩
   ·exact⟨fun _ _ e=>e,fun _ z=>z,fun _ z=>.inl z,fun _ z=>.inl z,fun a o e _=>by rw[aI (br e hD)];exact e,fun a ha=>by rw[aI (fun (q:a=D0)=>Ac (by rw[← q];exact ha))];exact s1.has a ha⟩
   ·exact(s1.side Ac GQ fun o u z=>by rw[hD]at z;cases z).1
   rintro i f vs H2 ⟨α2,Z2,BK,acc,g2,s2,nD,nZ,hD2,r2,e2⟩;refine⟨hD2,?_⟩;cases f with
   | zero=>cases e2
   | succ f=>
    simp only[tq]at e2;cases qs:ia src BK with
    | none=>rw[qs]at e2;cases e2
    | some ds=>
     rw[qs]at e2;dsimp only at e2;obtain⟨M5,M6⟩:=w1 α2 Z2 BK H2 ds g2 s2 qs;cases qd:ds[i]? with
     | none=>
      rw[qd]at e2;cases e2;have hi:ds.length<=i:=List.getElem?_eq_none_iff.mp qd;refine .inl ⟨M6 i hi,?_⟩;have sf:=s2.part hD2 nD nZ r2
      have gA:cg α1 Z1 H1 (α2++[D0]) Z2 H2:=⟨fun n a e=>by rw[List.getElem?_append_left (List.getElem?_eq_some_iff.mp (g2.pre n a e)).1];exact g2.pre n a e,g2.sub,g2.new,fun a ha=>by
       rcases List.mem_append.mp ha with ha | ha
       ·exact g2.C0 a ha
       ·rw[List.mem_singleton.mp ha];exact .inr hD,g2.frm,g2.has⟩
      exact k _ H2 _ Z2 (g1.trans gA) sf (k6 s2 D0)
     | some d=>
      rw[qd]at e2;dsimp only at e2;obtain⟨hgo,hyl⟩:=M5 i d qd;cases qt:nX n d with
      | none=>rw[qt]at e2;cases e2
      | some ts=>
       rw[qt]at e2;dsimp only at e2;obtain⟨es,rfl⟩:=Ab qt
       by_cases hsm:small (acc.length + 1)=true
       ·rw[if_pos hsm]at e2
        have hsm:=bS hsm;refine .inr ⟨hgo,by rw[r2.length];omega,fun x H3 yl => ?_⟩
        obtain⟨Z3,g3,s3,rx⟩:=hyl x H3 yl;have SS:=g3.Di nZ hD2;have M7:=g3.frm D0 _ hD2 nD;refine hgt d es x α2 Z3 BK H3 (pe cap σ) _ qt s3 rx fun ws yy => ?_
        have gB:=g1.trans (g2.trans g3);have SB:=pO (cap:=cap) S gB s3 yy;refine⟨α2,Z3,BK,_,SB,?_⟩;cases qc:gK nc mc (es.map some++dh cap ρ) BK with
        | exc x cX=>rw[qc]at e2;cases e2
        | bad=>rw[qc]at e2;cases e2
        | ok b cX=>
         rw[qc]at e2;intro H5 Kq Z5 g5 s5;have M8:=g5.BJ nD M7;have Qy:=g5.Di SS M7;have Gq:=g5.frm D0 _ M7 nD;cases b with
         | false=>
          refine oZ ?_;exact⟨f,Nat.lt_succ_self _,Kq,Z5,cX,acc,g2.trans (g3.trans g5),s5,M8,Qy,Gq,s3.kZ g5 (s2.kZ g3 r2),e2⟩
         | true=>
          refine o3 ?_;dsimp only at e2;have SC:=pO (cap:=cap) S (gB.trans g5) s5 (s3.kZ g5 yy);refine⟨Kq,Z5,cX,_,SC,?_⟩;cases qe:me (es.map some++dh cap ρ) cX with
          | exc x Ad=>rw[qe]at e2;cases e2
          | bad=>rw[qe]at e2;cases e2
          | ok y Ad=>
           rw[qe]at e2;intro v H6 SU Z6 g6 s6 rv;have Qz:=g6.BJ M8 Gq;have QA:=g6.Di Qy Gq;have QB:=g6.frm D0 _ Gq M8;obtain⟨s7,m7⟩:=s6.side (o:=.lst (vs++[v])) Qz QA (fun o u z=>by rw[QB]at z;cases z)
           refine⟨QB,f,Nat.lt_succ_self _,SU,Z6,Ad,acc++[y],((g2.trans (g3.trans g5)).trans g6).side Ac hD,s7,Qz,QA,bE,?_,e2⟩;exact((s5.kZ g6 (s3.kZ g5 (s2.kZ g3 r2))).append (.one rv)).imp m7
       ·rw[if_neg hsm]at e2;cases e2
theorem ll{x:Str}{px:Pos}(hit:xu X κ Φ (.Name x px) iter mi)(hx:scope.names.lookup x=some .local)(hnd:([x]++cn).Nodup)
  (hb:∀ cl C s₀ H₀ fp,((ifs=[]/\nc=true)\/∃ c,ifs=[c]/\nc=false/\gC (blk X scope cl C ([x]++cn) s₀ H₀ fp) κ jk c mc)/\bz (blk X scope cl C ([x]++cn) s₀ H₀ fp) κ jk elt me) :
  ∀ aG Z0 H0 ρ Ω,∃ wi tc te,PI X (.Name x px) iter wi/\(∀ cl C s₀ H₀ fp,PG (blk X scope cl C ([x]++cn) s₀ H₀ fp) (.Name x px) (ic 0)/\zm (blk X scope cl C ([x]++cn) s₀ H₀ fp) ifs tc/\PE (blk X scope cl C ([x]++cn) s₀ H₀ fp) elt te) /\
   ∀ σ H Q,tO κ Φ aG Z0 H0 (bp me nc mc mi 0 cap) ρ Ω σ H Q->mz wi [x].length cap (ic 0) tc te σ H Q:=by
 have hl:(relabel scope X.env).names.lookup x=some .local:=lookup_relabel_local hx;refine uO (g:=ic 0) (tn:=[x]) hit (fun d ds y α Z Ω H σ' k ht S rx hk => ?_) fun cl C s₀ H₀ fp => ?_
 ·have ht:some [some d]=some (ds.map some):=ht
  have e:ds=[d]:=by
   injection ht with ht;cases ds with
   | nil=>cases ht
   | cons a r=>
    cases r with
    | nil=>simp only[List.map_cons,List.map_nil,List.cons.injEq,Option.some.injEq,and_true]at ht;rw[ht]
    | cons _ _=>cases ht
  subst e;exact hk [y] (.one rx)
 ·obtain⟨h1,h2⟩:=hb cl C s₀ H₀ fp
  exact⟨jS (X:=blk X scope cl C ([x]++cn) s₀ H₀ fp) hnd rfl (.inl hl) (.inr hl),h1,h2⟩
theorem xB{x:Str}{px:Pos}(hc:X.calm=true)(B:jz X scope [x] cn cap)(hs:∀ z,foldedSetIterable iter X.env z=pure z)(hit:xu X κ Φ (.Name x px) iter mi)(hx:scope.names.lookup x=some .local)(hnd:([x]++cn).Nodup)
  (hb:∀ cl C s₀ H₀ fp,((ifs=[]/\nc=true)\/∃ c,ifs=[c]/\nc=false/\gC (blk X scope cl C ([x]++cn) s₀ H₀ fp) κ jk c mc)/\bz (blk X scope cl C ([x]++cn) s₀ H₀ fp) κ jk elt me) :
  bz X κ Φ (.ListComp elt [⟨.Name x px,iter,ifs,0⟩] scope pos) (bp me nc mc mi 0 cap):=by
 intro aG Z0 H0 ρ Ω;obtain⟨wi,tc,te,h1,h2,h3⟩:=ll (cap:=cap) hit hx hnd hb aG Z0 H0 ρ Ω;exact PE.imp (zq hc B h1 hs (jA 1 (by decide)) h2) h3
end
inductive gM where
 | nx (ρ:aU) (Ω:aF) | bk (ρ:aU) (Ω:aF) | ct (ρ:aU) (Ω:aF) | rt (d:D) (Ω:aF) | exc (x:D) (Ω:aF) | bad
abbrev SM:=aU->aF->gM
def fH(κ:Str->Addr->Prop)(Φ:f_)(aG:List Addr)(Z0:Addr->Prop)(H0:Hp)(E:Ends):gM->Prop
 | .nx ρ Ω=>∀ σ H α Z,cB κ aG Z0 H0 α Z Ω ρ σ H->E.nx σ H
 | .bk ρ Ω=>∀ σ H α Z,cB κ aG Z0 H0 α Z Ω ρ σ H->E.bk σ H
 | .ct ρ Ω=>∀ σ H α Z,cB κ aG Z0 H0 α Z Ω ρ σ H->E.ct σ H
 | .rt d Ω=>∀ v H α Z,cg aG Z0 H0 α Z H->bO κ α Z Ω H->aw α Z H d v->E.rt v H
 | .exc x Ω=>∀ H α Z,cg aG Z0 H0 α Z H->bO κ α Z Ω H->Φ x Ω α Z H
 | .bad=>False
noncomputable def Dj(κ:Str->Addr->Prop)(Φ:f_)(aG:List Addr)(Z0:Addr->Prop)(H0:Hp)(c:SM)(ρ:aU)(Ω:aF):TS:=fun E σ H=>∃ α Z,cB κ aG Z0 H0 α Z Ω ρ σ H/\fH κ Φ aG Z0 H0 E (c ρ Ω)
def lp(X:Cx)(κ:Str->Addr->Prop)(Φ:f_)(st:Stmt)(c:SM):Prop:=∀ aG Z0 H0 ρ Ω,PS X st (Dj κ Φ aG Z0 H0 c ρ Ω)
def jm(X:Cx)(κ:Str->Addr->Prop)(Φ:f_)(sts:List Stmt)(c:SM):Prop:=∀ aG Z0 H0 ρ Ω,iE X sts (Dj κ Φ aG Z0 H0 c ρ Ω)
noncomputable def dC{β:Type}(r:ax β)(k:β->aF->gM):gM:=match r with
 | .ok a Ω=>k a Ω
 | .exc x Ω=>.exc x Ω
 | .bad=>.bad
noncomputable def ag:SM:=fun ρ Ω=>.nx ρ Ω
noncomputable def ah(a b:SM):SM:=fun ρ Ω=>match a ρ Ω with
 | .nx bB aq=>b bB aq
 | r=>r
def ay(i:Nat)(m:EM):SM:=fun ρ Ω=>dC (m ρ Ω) fun d ak=>.nx (ρ.set i (some d)) ak
def dZ(m:EM):SM:=fun ρ Ω=>dC (m ρ Ω) fun _ ak=>.nx ρ ak
def aH(m:EM):SM:=fun ρ Ω=>dC (m ρ Ω) fun d ak=>.rt d ak
def b8(m:EM)(a b:SM):SM:=fun ρ Ω=>dC (dJ (m ρ Ω)) fun t ak=>if t=true then a ρ ak else b ρ ak
noncomputable def nY:SM:=fun _ _=>.bad
def cS(m:EM)(b:SM):Nat->SM
 | 0,_,_=>.bad
 | f + 1,ρ,Ω=>dC (dJ (m ρ Ω)) fun t ak=>if t=true then (match b ρ ak with
  | .nx bB aq=>cS m b f bB aq
  | .ct bB aq=>cS m b f bB aq
  | .bk bB aq=>.nx bB aq
  | r=>r) else .nx ρ ak
def lq(m:EM)(b:SM):SM:=cS m b fuel
noncomputable def jZ:List Nat->List D->aU->aU
 | i::is,d::ds,ρ=>jZ is ds (ρ.set i (some d))
 | _,_,ρ=>ρ
noncomputable def bu(i:Nat)(d:D)(ρ:aU):Option aU:=some (ρ.set i (some d))
def jD(is:List Nat)(d:D)(ρ:aU):Option aU:=match d with
 | .tup ds=>if ds.length=is.length then some (jZ is ds ρ) else none
 | _=>none
def fb(put:D->aU->Option aU)(src:Src)(b:SM):Nat->Nat->SM
 | 0,_,_,_=>.bad
 | f + 1,i,ρ,Ω=>match ia src Ω with
  | none=>.bad
  | some ds=>match ds[i]? with
   | none=>.nx ρ Ω
   | some d=>match put d ρ with
    | none=>.bad
    | some yA=>match b yA Ω with
     | .nx bB aq=>fb put src b f (i + 1) bB aq
     | .ct bB aq=>fb put src b f (i + 1) bB aq
     | .bk bB aq=>.nx bB aq
     | r=>r
def cD(put:D->aU->Option aU)(mi:IM)(b:SM):SM:=fun ρ Ω=>dC (mi ρ Ω) fun s ak=>fb put s b fuel 0 ρ ak
def uP(is:List Nat)(m:EM):SM:=fun ρ Ω=>dC (m ρ Ω) fun d ak=>match jD is d ρ with
 | some bB=>.nx bB ak
 | none=>.bad
section
variable{X:Cx}{κ:Str->Addr->Prop}{Φ:f_}{α α' aG α1:List Addr}{Z Z' Z0 Z1:Addr->Prop}{Ω aq:aF}{H H' H0 H1:Hp}{ρ:aU}{σ:L2.St}{E:Ends}{a b e ce o tg:Expr}{st:Stmt}{rest ta tb:List Stmt}{m:EM}{mi:IM}{ca cb:SM}{pos pos':Pos}
theorem cB.set(S:cB κ aG Z0 H0 α Z Ω ρ σ H){d:D}{v:V}(r:aw α Z H d v)(i:Nat):cB κ aG Z0 H0 α Z Ω (ρ.set i (some d)) (σ.set i (some v)) H:=by
 refine⟨S.st,S.gr,by simp[S.len],fun j d' h => ?_⟩
 by_cases hij:i=j
 ·subst hij
  have hl:i < ρ.length:=by
   have:=(List.getElem?_eq_some_iff.mp h).1;simpa using this
  rw[List.getElem?_set_self hl]at h;cases h;exact⟨v,by rw[List.getElem?_set_self (by rw[S.len];exact hl)],r⟩
 ·rw[List.getElem?_set_ne hij]at h ⊢
  exact S.val j d' h
theorem fH.use{r:ax D}{k:D->aF->gM}{Q:VK}(S:cB κ aG Z0 H0 α Z Ω ρ σ H)(f:fH κ Φ aG Z0 H0 E (dC r k))(h:∀ d ak v H1 α1 Z1,r=.ok d ak->cg α Z H α1 Z1 H1->cB κ aG Z0 H0 α1 Z1 ak ρ σ H1->aw α1 Z1 H1 d v->fH κ Φ aG Z0 H0 E (k d ak)->Q v H1):cf κ Φ α Z H r Q:=by
 cases r with
 | ok d ak=>exact fun v H1 α1 Z1 g s q=>h d ak v H1 α1 Z1 rfl g (S.grow g s) q f
 | exc x ak=>exact fun H1 α1 Z1 g s=>f H1 α1 Z1 (S.gr.trans g) s
 | bad=>exact f
theorem fH.GR{r:ax Bool}{k:Bool->aF->gM}{Q:Bool->Hp->Prop}(S:cB κ aG Z0 H0 α Z Ω ρ σ H)(f:fH κ Φ aG Z0 H0 E (dC r k))(h:∀ t ak H1 α1 Z1,r=.ok t ak->cg α Z H α1 Z1 H1->cB κ aG Z0 H0 α1 Z1 ak ρ σ H1->fH κ Φ aG Z0 H0 E (k t ak)->Q t H1):oK κ Φ α Z H r Q:=by
 cases r with
 | ok d ak=>exact fun H1 α1 Z1 g s=>h d ak H1 α1 Z1 rfl g (S.grow g s) f
 | exc x ak=>exact fun H1 α1 Z1 g s=>f H1 α1 Z1 (S.gr.trans g) s
 | bad=>exact f
theorem iE.ex{ι:Type}{t:ι->TS}{sts:List Stmt}(h:∀ i,iE X sts (t i)):iE X sts (fun D σ H=>∃ i,t i D σ H):=fun pins s σ H D I ⟨i,q⟩=>h i pins s σ H D I q
theorem tw:jm X κ Φ [] ag:=by
 intro aG Z0 H0 ρ Ω;refine iE.imp yL ?_;rintro E σ H ⟨α,Z,S,f⟩;exact f σ H α Z S
theorem pP(h1:lp X κ Φ st ca)(h2:jm X κ Φ rest cb):jm X κ Φ (st::rest) (ah ca cb):=by
 intro aG Z0 H0 ρ Ω;refine iE.imp (vk (h1 aG Z0 H0 ρ Ω) (iE.ex fun p:aU×aF=>h2 aG Z0 H0 p.1 p.2)) ?_
 rintro E σ H ⟨α,Z,S,f⟩;refine⟨α,Z,S,?_⟩;simp only[ah]at f;cases q:ca ρ Ω with
 | nx bB aq=>rw[q]at f;exact fun σ' H' α' Z' S'=>⟨(bB,aq),α',Z',S',f⟩
 | bk bB aq=>rw[q]at f;exact f
 | ct bB aq=>rw[q]at f;exact f
 | rt d aq=>rw[q]at f;exact f
 | exc x aq=>rw[q]at f;exact f
 | bad=>rw[q]at f;exact f.elim
theorem n4(h:bz X κ Φ e m):lp X κ Φ (.Return (some e) pos) (aH m):=by
 intro aG Z0 H0 ρ Ω;refine PS.imp (qA (h aG Z0 H0 ρ Ω)) ?_;rintro E σ H ⟨α,Z,S,f⟩;exact⟨α,Z,S,fH.use S f fun d ak v H1 α1 Z1 _ g S1 r f1=>f1 v H1 α1 Z1 S1.gr S1.st r⟩
theorem tB{i:Nat}{x:Str}(hN:X.N.Nodup)(hi:X.N[i]?=some x)(hx:Loc X.env.scope x)(hf:X.fn x=true\/X.env.scope.names.lookup x=some .local)(hs:swapsWith e (some (.Name x pos')) pos.line X.env=pure false)(h:bz X κ Φ e m) :
  lp X κ Φ (.Assign [.Name x pos'] e pos) (ay i m):=by
 intro aG Z0 H0 ρ Ω;refine PS.imp (Cp hN hi hx (h aG Z0 H0 ρ Ω) hs hf) ?_;rintro E σ H ⟨α,Z,S,f⟩;exact⟨α,Z,S,fH.use S f fun d ak v H1 α1 Z1 _ g S1 r f1=>f1 _ H1 α1 Z1 (S1.set r i)⟩
theorem xC{i:Nat}{x:Str}{elt iter tg:Expr}{ifs:List Expr}{scope:Scope}{tn cn:List Str}{cap:List Nat}{g:TG}(hN:X.N.Nodup)(hi:X.N[i]?=some x)(hx:X.env.scope.names.lookup x=some .local)
  (hsw:swapsWith (.ListComp elt [⟨tg,iter,ifs,0⟩] scope pos) (some (.Name x pos')) pos'.line X.env=pure true) (hc:X.calm=true) (B:jz X scope tn cn cap) (hs:∀ x,foldedSetIterable iter X.env x=pure x)
  (CS:∀ v σ H Q,g v σ H Q->g v σ H fun σ' H'=>Q σ' H'/\σ'.length=σ.length/\∀ j,tn.length<=j->σ'[j]?=σ[j]?)
  (h:∀ aG Z0 H0 ρ Ω,∃ wi tc te,PI X tg iter wi/\(∀ cl C s₀ H₀ fp,PG (blk X scope cl C (tn++cn) s₀ H₀ fp) tg g/\zm (blk X scope cl C (tn++cn) s₀ H₀ fp) ifs tc/\PE (blk X scope cl C (tn++cn) s₀ H₀ fp) elt te) /\
   ∀ σ H Q,tO κ Φ aG Z0 H0 m ρ Ω σ H Q->mz wi tn.length cap g tc te σ H Q) {spos:Pos} (hl:spos.line=pos'.line) :
  lp X κ Φ (.Assign [.Name x pos'] (.ListComp elt [⟨tg,iter,ifs,0⟩] scope pos) spos) (ay i m):=by
 intro aG Z0 H0 ρ Ω;obtain⟨wi,tc,te,h1,h2,h3⟩:=h aG Z0 H0 ρ Ω;refine PS.imp (qW hN hi hx (by rw[hl];exact hsw) hc B h1 hs CS h2) ?_
 rintro E σ H ⟨α,Z,S,f⟩;exact h3 σ H _ ⟨α,Z,S,fH.use S f fun d ak v H1 α1 Z1 _ g S1 r f1=>f1 _ H1 α1 Z1 (S1.set r i)⟩
theorem Ae(hs:swapsWith e none pos.line X.env=pure false)(h:bz X κ Φ e m):lp X κ Φ (.Expr e pos) (dZ m):=by
 intro aG Z0 H0 ρ Ω;refine PS.imp (yM (h aG Z0 H0 ρ Ω) hs) ?_;rintro E σ H ⟨α,Z,S,f⟩;exact⟨α,Z,S,fH.use S f fun d ak v H1 α1 Z1 _ g S1 r f1=>f1 _ H1 α1 Z1 S1⟩
theorem xD(hc:gC X κ Φ e m)(ha:jm X κ Φ ta ca)(hb:jm X κ Φ tb cb):lp X κ Φ (.If e ta tb pos) (b8 m ca cb):=by
 intro aG Z0 H0 ρ Ω;refine PS.imp (FA (hc aG Z0 H0 ρ Ω) (iE.ex fun ak=>ha aG Z0 H0 ρ ak) (iE.ex fun ak=>hb aG Z0 H0 ρ ak)) ?_
 rintro E σ H ⟨α,Z,S,f⟩;refine⟨α,Z,S,fH.GR S f fun t ak H1 α1 Z1 _ g S1 f1 => ?_⟩
 cases t with
 | true=>rw[if_pos rfl]at f1;exact o3 ⟨ak,α1,Z1,S1,f1⟩
 | false=>rw[if_neg Bool.false_ne_true]at f1;exact oZ ⟨ak,α1,Z1,S1,f1⟩
theorem uQ:lp X κ Φ st nY:=fun aG Z0 H0 ρ Ω pins s σ H E I ⟨α,Z,S,f⟩=>f.elim
theorem mS(hp:PassesOwn (model X.prog X.w) X.A X.env X.xe)(hc:gC X κ Φ e m)(hb:jm X κ Φ tb cb):lp X κ Φ (.While e tb [] pos) (lq m cb):=by
 intro aG Z0 H0 ρ Ω;refine PS.imp (vn hp (PT.ex fun p:aU×aF=>hc aG Z0 H0 p.1 p.2) (iE.ex fun p:aU×aF=>hb aG Z0 H0 p.1 p.2)) ?_
 rintro E σ H ⟨α,Z,S,f⟩;refine⟨fun f σ H=>∃ α Z ρ Ω,cB κ aG Z0 H0 α Z Ω ρ σ H/\fH κ Φ aG Z0 H0 E (cS m cb f ρ Ω),⟨fuel,α,Z,ρ,Ω,S,f⟩,?_⟩
 rintro f Ck H1 ⟨α1,Z1,yA,ak,S1,f1⟩;cases f with
 | zero=>exact f1.elim
 | succ f=>
  simp only[cS]at f1;refine⟨(yA,ak),α1,Z1,S1,fH.GR S1 f1 fun t av H2 α2 Z2 _ g S2 f2 => ?_⟩
  cases t with
  | false=>
   rw[if_neg Bool.false_ne_true]at f2;exact oZ (f2 _ _ _ _ S2)
  | true=>
   rw[if_pos rfl]at f2;refine o3 ⟨fun σ' H'=>∃ α Z ρ Ω,cB κ aG Z0 H0 α Z Ω ρ σ' H'/\fH κ Φ aG Z0 H0 E (cS m cb f ρ Ω),fun σ' H' q=>⟨f,Nat.lt_succ_self f,q⟩,(yA,av),α2,Z2,S2,?_⟩
   cases q:cb yA av with
   | nx bB aq=>rw[q]at f2;exact fun σ' H' α' Z' S'=>⟨α',Z',bB,aq,S',f2⟩
   | ct bB aq=>rw[q]at f2;exact fun σ' H' α' Z' S'=>⟨α',Z',bB,aq,S',f2⟩
   | bk bB aq=>rw[q]at f2;exact f2
   | rt d aq=>rw[q]at f2;exact f2
   | exc x aq=>rw[q]at f2;exact f2
   | bad=>rw[q]at f2;exact f2.elim
def xE(κ:Str->Addr->Prop)(put:D->aU->Option aU)(g:TG):Prop:=
 ∀ (d:D) (x:V) aG Z0 H0 α Z Ω ρ bB σ H (k:L2.St->Hp->Prop),cB κ aG Z0 H0 α Z Ω ρ σ H->aw α Z H d x->put d ρ=some bB->(∀ σ',cB κ aG Z0 H0 α Z Ω bB σ' H->k σ' H)->g x σ H k
theorem n5{put:D->aU->Option aU}{g:TG}(hp:PassesOwn (model X.prog X.w) X.A X.env X.xe)(hc:X.calm=true)(hi:xu X κ Φ tg e mi)(hg:PG X tg g)(SV:xE κ put g)(hb:jm X κ Φ tb cb)(hs:∀ x,foldedSetIterable e X.env x=pure x):lp X κ Φ (.For tg e tb [] pos) (cD put mi cb):=by
 intro aG Z0 H0 ρ Ω;have hb':iE X tb (fun D σ H=>∃ α1 Z1 H1 bB aq,Dj κ Φ α1 Z1 H1 cb bB aq D σ H):=fun pins s σ H D I ⟨α1,Z1,H1,bB,aq,q⟩=>hb α1 Z1 H1 bB aq pins s σ H D I q
 refine PS.imp (Cr hp hc (hi aG Z0 H0 ρ Ω) hg hb' hs) ?_;rintro E σ H ⟨α,Z,S,f⟩;refine⟨α,Z,S,?_⟩;simp only[cD]at f;cases qi:mi ρ Ω with
 | exc x ak=>rw[qi]at f;exact fun H1 α1 Z1 g s=>f H1 α1 Z1 (S.gr.trans g) s
 | bad=>rw[qi]at f;exact f.elim
 | ok src ak=>
  rw[qi]at f;have f:fH κ Φ aG Z0 H0 E (fb put src cb fuel 0 ρ ak):=f;intro J H1 α1 Z1 g1 s1 w1;have S1:=S.grow g1 s1;refine⟨fun i f σ H=>∃ α2 Z2 ρ Ω,cB κ aG Z0 H0 α2 Z2 Ω ρ σ H/\cg α1 Z1 H1 α2 Z2 H/\fH κ Φ aG Z0 H0 E (fb put src cb f i ρ Ω),⟨fuel,α1,Z1,ρ,ak,S1,cg.refl s1.has,f⟩,?_⟩
  rintro i f JN H2 ⟨α2,Z2,QC,av,S2,g2,f2⟩;cases f with
  | zero=>exact f2.elim
  | succ f=>
   simp only[fb]at f2;cases qs:ia src av with
   | none=>rw[qs]at f2;exact f2.elim
   | some ds=>
    rw[qs]at f2;dsimp only at f2;obtain⟨M5,M6⟩:=w1 α2 Z2 av H2 ds g2 S2.st qs;cases qd:ds[i]? with
    | none=>
     rw[qd]at f2;exact .inl ⟨M6 i (List.getElem?_eq_none_iff.mp qd),f2 JN H2 α2 Z2 S2⟩
    | some d=>
     rw[qd]at f2;dsimp only at f2;obtain⟨hgo,hyl⟩:=M5 i d qd;cases qp:put d QC with
     | none=>rw[qp]at f2;exact f2.elim
     | some Kr=>
      rw[qp]at f2;dsimp only at f2;refine .inr ⟨hgo,fun σ' H'=>∃ α3 Z3 ρ Ω,cB κ aG Z0 H0 α3 Z3 Ω ρ σ' H'/\cg α1 Z1 H1 α3 Z3 H'/\fH κ Φ aG Z0 H0 E (fb put src cb f (i + 1) ρ Ω),fun σ' H' q=>⟨f,Nat.lt_succ_self f,q⟩,fun x H3 yl => ?_⟩
      obtain⟨Z3,g3,s3,rx⟩:=hyl x H3 yl;have S3:=S2.grow g3 s3;refine SV d x aG Z0 H0 α2 Z3 av QC Kr JN H3 _ S3 rx qp fun SW S4 => ?_
      have base:cg aG Z0 H0 α1 Z1 H1:=S1.gr;have gL:cg α1 Z1 H1 α2 Z3 H3:=g2.trans g3;have S5:cB κ α1 Z1 H1 α2 Z3 av Kr SW H3:=⟨S4.st,gL,S4.len,S4.val⟩;have out:∀ {α3 Z4 aM bB σ' H'},cB κ α1 Z1 H1 α3 Z4 aM bB σ' H'->cB κ aG Z0 H0 α3 Z4 aM bB σ' H':=fun S'=>⟨S'.st,base.trans S'.gr,S'.len,S'.val⟩
      refine⟨α1,Z1,H1,Kr,av,α2,Z3,S5,?_⟩;cases q:cb Kr av with
      | nx bB aq=>rw[q]at f2;exact fun σ' H' α' Z' S'=>⟨α',Z',bB,aq,out S',S'.gr,f2⟩
      | ct bB aq=>rw[q]at f2;exact fun σ' H' α' Z' S'=>⟨α',Z',bB,aq,out S',S'.gr,f2⟩
      | bk bB aq=>rw[q]at f2;exact fun σ' H' α' Z' S'=>f2 σ' H' α' Z' (out S')
      | rt d aq=>rw[q]at f2;exact fun v H' α' Z' g s r=>f2 v H' α' Z' (base.trans g) s r
      | exc x aq=>rw[q]at f2;exact fun H' α' Z' g s=>f2 H' α' Z' (base.trans g) s
      | bad=>rw[q]at f2;exact f2.elim
theorem xF(i:Nat):xE κ (bu i) (ic i):=fun d x aG Z0 H0 α Z Ω ρ bB σ H k S r e h=>by
 cases e;exact h _ (S.set r i)
theorem lr:∀ (is:List Nat) (ds:List D) (vs:List V) {ρ:aU} {σ:L2.St},aR (aw α Z H) ds vs->ds.length=is.length->cB κ aG Z0 H0 α Z Ω ρ σ H->∀ (k:L2.St->Hp->Prop),(∀ σ',cB κ aG Z0 H0 α Z Ω (jZ is ds ρ) σ' H->k σ' H)->je is vs σ H k
 | [],[],vs,ρ,σ,r,_,S,k,h=>by rw[r.nil_inv];exact⟨rfl,h σ S⟩
 | i::is,d::ds,vs,ρ,σ,r,hl,S,k,h=>by
  obtain⟨v,ws,rfl,r1,r2⟩:=r.cons_inv;exact⟨v,ws,rfl,lr is ds ws r2 (by simpa using hl) (S.set r1 i) k h⟩
 | [],_::_,_,_,_,_,hl,_,_,_=>by simp at hl
 | _::_,[],_,_,_,_,hl,_,_,_=>by simp at hl
theorem xG{K:PySem.W.Frag}(is:List Nat):xE κ (jD is) (yO K is.length (je is)):=fun d x aG Z0 H0 α Z Ω ρ bB σ H k S r e h=>by
 cases d with
 | tup ds=>
  simp only[jD]at e;split at e
  ·rename_i hl
   cases e;obtain⟨a,vs,rfl,_,h1,h2⟩:=fU r;exact⟨a,vs,rfl,uq (.inl h1),by rw[h2.length];exact hl,lr is ds vs h2 hl S k h⟩
  ·cases e
 | _=>cases e
theorem Af{es:List Expr}{j:Nat}{p pos:Pos}{is:List Nat}(hg:PG X (.Tuple es j p) (yO X.K is.length (je is)))(hp:wV e=true)(h:bz X κ Φ e m):lp X κ Φ (.Assign [.Tuple es j p] e pos) (uP is m):=by
 intro aG Z0 H0 ρ Ω;refine PS.imp (Co (h aG Z0 H0 ρ Ω) hg (by cases e<;>first | rfl | (cases hp)) (by cases e<;>first | rfl | (cases hp))) ?_
 rintro E σ H ⟨α,Z,S,f⟩;refine⟨α,Z,S,fH.use S f fun d ak v H1 α1 Z1 _ g S1 r f1 => ?_⟩
 split at f1
 ·rename_i bB hq
  exact xG (K:=X.K) is d v aG Z0 H0 α1 Z1 ak ρ bB σ H1 _ S1 r hq fun σ' S'=>f1 σ' H1 α1 Z1 S'
 ·exact f1.elim
end
abbrev bg:=List D->aF->ax D
def c7(κ:Str->Addr->Prop)(F:bg):Sp:=fun vs H Q _=>∃ α Z Ω ds,bO κ α Z Ω H/\aR (aw α Z H) ds vs/\cf κ jk α Z H (F ds Ω) Q
noncomputable def vc{β:Type}(r:ax β):ax β:=match r with
 | .ok d Ω=>.ok d Ω
 | _=>.bad
def aP(F:bg):bg:=fun xs Ω=>vc (F xs Ω)
structure xH(X:Cx)(κ:Str->Addr->Prop)(k:Nat)(x:Str)(F:bg):Prop where
 ex:∃ (f:Addr) (fd:FuncData) (ps:List Str),X.mg x=some (.ref f)/\PySem.W.keepIn X.K (.ref f)=true/\Binds X.K fd ps []/\cp X.prog X.w X.K X.mg X.base eG k f fd ps (c7 κ F)
noncomputable def Gr(C:Str)(F:bg)(xs:List D)(Ω:aF):ax D:=match F (.ref Ω.length::xs) (Ω++[.ins C []]) with
 | .ok .non av=>.ok (.ref Ω.length) av
 | _=>.bad
section
variable{X:Cx}{κ:Str->Addr->Prop}{Φ:f_}{α α' aG α1:List Addr}{Z Z' Z0 Z1:Addr->Prop}{Ω aq:aF}{H H' H0 H1:Hp}{ρ:aU}{σ:L2.St}{Q:VK}{E:Ends}{a b e ce o tg:Expr}{es:List Expr}{st:Stmt}{rest ta tb:List Stmt}{m mo mv ma md mk:EM}{as:AM}{ca cb:SM}{pos pos' p apos:Pos}{F:bg}{C:Str}
theorem cf.ok0{r:ax D}(h:cf κ Φ α Z H (vc r) Q):cf κ jk α Z H r Q:=by
 cases r with
 | ok d Ω=>exact h
 | exc x Ω=>exact h.elim
 | bad=>exact h
theorem xI{k:Nat}{x:Str}(F0:xH X κ k x F)(hr:bY k X.A)(hg:Gl X x)(hdb:(x == ("__debug__":Str))=false)
  (he:starEach (e::es) X.env=(false,eval e X.env)::starEach es X.env) (hpl:(backTo pos (starEach es X.env)).any (·.1)=false) (ha:qz X κ Φ (e::es) as) :
  bz X κ Φ (.Call (.Name x p) (e::es) [] pos) (mN (aP F) as):=by
 obtain⟨f,fd,ps,hm,hk,hb,F1⟩:=F0.ex;intro aG Z0 H0 ρ Ω;refine PE.imp (jT F1 hr hg hm hk hb .nil sD (ha aG Z0 H0 ρ Ω) hdb he hpl) ?_;rintro σ H Q ⟨α,Z,S,g⟩;refine⟨α,Z,S,pF.use g fun xs ak _ vs H1 α1 Z1 g1 s1 r1 k1 => ?_⟩
 show c7 κ F (vs++[]) H1 Q E0
 rw[List.append_nil];exact⟨α1,Z1,ak,xs,s1,r1,cf.ok0 k1⟩
theorem uR{k:Nat}{x:Str}(F0:xH X κ k x F)(hr:bY k X.A)(hg:Gl X x)(hdb:(x == ("__debug__":Str))=false):bz X κ Φ (.Call (.Name x p) [] [] pos) (mN (aP F) aj):=by
 obtain⟨f,fd,ps,hm,hk,hb,F1⟩:=F0.ex;intro aG Z0 H0 ρ Ω;refine PE.imp (vD F1 hr hg hm hk hb .nil sD hdb) ?_;rintro σ H Q ⟨α,Z,S,g⟩;exact⟨α,Z,Ω,[],S.st,.nil,cf.ok0 g⟩
def xJ(K:PySem.W.Frag)(κ:Str->Addr->Prop)(Cs:List Str)(f:Str):Prop:=∀ C Ca,Cs.contains C=true->κ C Ca->Fb K Ca/\fN K Ca f
structure GS(X:Cx)(κ:Str->Addr->Prop)(k:Nat)(C m:Str)(F:bg):Prop where
 ex:∃ (Ca f:Addr) (fd:FuncData) (ps:List Str),(∀ a,κ C a->a=Ca)/\Fb X.K Ca/\Meth X.K Ca m f/\Binds X.K fd ps []/\cp X.prog X.w X.K X.mg X.base eG k f fd ps (c7 κ F)
structure GU(X:Cx)(κ:Str->Addr->Prop)(k:Nat)(C:Str)(F:bg):Prop where
 ex:∃ (Ca f:Addr) (fd:FuncData) (ps:List Str),κ C Ca/\Mk X.K Ca f/\X.mg C=some (.ref Ca)/\Binds X.K fd ps []/\cp X.prog X.w X.K X.mg X.base eG k f fd ps (c7 κ F)
noncomputable def aS(n:Nat)(ds:List D):aU:=ds.map some++List.replicate (n - ds.length) none
noncomputable def eS:gM->ax D
 | .rt d Ω=>.ok d Ω
 | .nx _ Ω=>.ok .non Ω
 | .exc x Ω=>.exc x Ω
 | _=>.bad
def bC(n k:Nat)(c:SM):bg:=fun ds Ω=>if ds.length=k then eS (c (aS n ds) Ω) else .bad
theorem eT{ds:List D}{vs:List V}{N:List Str}(S:bO κ α Z Ω H)(r:aR (aw α Z H) ds vs):cB κ α Z H α Z Ω (aS N.length ds) (L2.start N vs) H where
 st:=S
 gr:=cg.refl S.has
 len:=by simp[aS,L2.start,r.length]
 val:=fun i d hi=>by
  unfold aS at hi
  by_cases h:i < ds.length
  ·rw[List.getElem?_append_left (by simpa using h),List.getElem?_map]at hi
   obtain⟨d',h1,h2⟩:=Option.map_eq_some_iff.mp hi;cases h2;obtain⟨v,h3,h4⟩:=r.get h1;refine⟨v,?_,h4⟩;unfold L2.start;rw[List.getElem?_append_left (by simpa[r.length] using h),List.getElem?_map,h3]
   rfl
  ·rw[List.getElem?_append_right (by simpa using h),List.getElem?_replicate]at hi
   split at hi<;>cases hi
end
structure pQ(P:Program)(w:World)(K:PySem.W.Frag)(mg:Str->Option Value)(base:Heap)(κ:Str->Addr->Prop)(k:Nat)(j:Nat)(F:List D->bg):Prop where
 run:∀ (X:Cx) (f:Addr) (vs:List V) (σ:L2.St) (H:Hp) (Q:VK) (α:List Addr) (Z:Addr->Prop) (Ω:aF) (nN ds:List D) (n:Nat),X.prog=P->X.w=w->X.K=K->X.mg=mg->X.base=base->bY k X.A ->
  bO κ α Z Ω H->α[n]?=some f->Ω[n]?=some (.fn j nN)->aR (aw α Z H) ds vs->cf κ jk α Z H (F nN ds Ω) Q->Ga X f vs σ H Q
theorem pQ.mono{P:Program}{w:World}{K:PySem.W.Frag}{mg:Str->Option Value}{base:Heap}{κ:Str->Addr->Prop}{k k' j:Nat}{F:List D->bg}(h:pQ P w K mg base κ k j F)(hk:k<=k'):pQ P w K mg base κ k' j F:=
 ⟨fun X f vs σ H Q α Z Ω nN ds n e1 e2 e3 e4 e5 hr=>h.run X f vs σ H Q α Z Ω nN ds n e1 e2 e3 e4 e5 (hr.mono hk)⟩
def SX(M:List (List D->bg))(n:Nat)(xs:List D)(Ω:aF):ax D:=match Ω[n]? with
 | some (.fn j nN)=>match M[j]? with
  | some F=>aP (F nN) xs Ω
  | none=>.bad
 | _=>.bad
noncomputable def isFn(Ω:aF)(n:Nat):Bool:=match Ω[n]? with
 | some (.fn _ _)=>true
 | _=>false
def Dk(M:List (List D->bg))(i:Nat)(as:AM):EM:=fun ρ Ω=>match ρ[i]? with
 | some (some (.ref n))=>if isFn Ω n=true then (as ρ Ω).bind fun xs ak=>SX M n xs ak else .bad
 | _=>.bad
section
variable{X:Cx}{κ:Str->Addr->Prop}{Φ:f_}{α α' aG:List Addr}{Z Z' Z0:Addr->Prop}{Ω aq:aF}{H H' H0:Hp}{ρ:aU}{σ:L2.St}
end
noncomputable def U(i:Nat):EM:=fun ρ Ω=>match ρ[i]? with | some (some d)=>.ok d Ω | _=>.bad
noncomputable def ae(d:D):EM:=fun _ Ω=>.ok d Ω
noncomputable def o2{α β γ:Type}(x:Option α)(y:Option β)(k:α->β->γ):Option γ:=match x,y with
 | some a,some b=>some (k a b)
 | _,_=>none
theorem bH{α β γ:Type}{x:Option α}{y:Option β}{k:α->β->γ}{z:γ}(h:o2 x y k=some z):∃ a b,x=some a/\y=some b/\z=k a b:=by
 unfold o2 at h;split at h
 ·cases h;exact⟨_,_,rfl,rfl,rfl⟩
 ·cases h
theorem cu{α β:Type}{x:Option α}{k:α->β}{z:β}(h:x.map k=some z):∃ a,x=some a/\z=k a:=by
 cases x with
 | none=>cases h
 | some a=>cases h;exact⟨a,rfl,rfl⟩
structure aY where
 iV:List (Str×(List D->Out Rs)):=[]
 fn:List (Str×bg):=[]
 cst:List (Str×D):=[]
 met:List (Str×Str×bg):=[]
 cls:List (Str×bg):=[]
 fld:List (Str×List Str):=[]
 clo:List (List D->bg):=[]
 fz:List Str:=[]
 xt:Bool:=false
def n8(T:aY)(sc:Scope)(N:List Str)(x:Str):Option EM:=
 match mI sc N x with
 | some i=>some (U i)
 | none=>if qy sc x && okN x then (T.cst.lookup x).map ae else none
def lu:Const->Option EM
 | .none=>some (ae .non)
 | .bool b=>some (ae (.bl b))
 | .int i=>some (ae (.int i))
 | .str x=>some (ae (.str x))
 | _=>none
def dM(f:Expr->Option EM):List Expr->Option AM
 | []=>some aj
 | e::es=>o2 (f e) (dM f es) aa
def SY(op:BoolOp)(a b:EM):EM:=match op with
 | .And=>cR a b
 | .Or=>fE a b
def iW(f:Expr->Option EM)(op:BoolOp):List Expr->Option EM
 | []=>none
 | [a]=>f a
 | a::b::r=>o2 (f a) (iW f op (b::r)) (SY op)
def rz(f:Expr->Option EM):Option Expr->Option (Bool×EM)
 | none=>some (true,ae .non)
 | some e=>(f e).map fun m=>(false,m)
inductive BM where
 | append | pR | index | join
noncomputable def BM.nm:BM->Str
 | .append=>"append" | .pR=>"pop" | .index=>"index" | .join=>"join"
noncomputable def BM.ar:BM->Nat
 | .append=>1 | .pR=>1 | .index=>1 | .join=>1
def BM.ty:BM->aF->D->Bool
 | .join=>xk
 | _=>eX
def BM.f:BM->D->List D->aF->ax D
 | .append=>bf | .pR=>gJ | .index=>cq | .join=>lh
def Dm(m:Str)(n:Nat):Option BM:=[BM.append,.pR,.index,.join].find? fun b=>b.nm == m && b.ar == n
def n9(T:aY)(m:Str)(n:Nat)(mo:EM)(as:AM):Option EM:=(Dm m n).map fun b=>bP b.ty b.f mo as
noncomputable def lx:Expr->Bool
 | .Name .. | .Attribute .. | .Constant (.str _) ..=>true
 | _=>false
def rC(x:Str):Option iD:=[iD.len,iD.all,iD.any,iD.list,iD.tuple,iD.int,iD.min].find? (fun b=>b.nm == x)
theorem Ag{x:Str}{b:iD}(h:rC x=some b):x=b.nm/\b∈[iD.len,iD.all,iD.any,iD.list,iD.tuple,iD.int,iD.min]/\b.nm∈dw:=by
 unfold rC at h;have h1:=List.find?_some h;have h2:=List.mem_of_find?_eq_some h;refine⟨(eq_of_beq h1).symm,h2,?_⟩;cases b<;>first | (simp at h2;done) | decide
def n_(T:aY)(sc:Scope)(f:Expr->Option EM)(x:Str)(args:List Expr):Option EM:=
 if qy sc x && okN x then
  match T.fn.lookup x,T.iV.lookup x,rC x with
  | some F,_,_=>(dM f args).map (mN (aP F))
  | none,some F,_=>if args.isEmpty then none else (dM f args).map (mN (bo F))
  | none,none,some b=>if args.isEmpty then none else (dM f args).map (mN (aX b))
  | none,none,none=>if x == ("sorted":Str) then (if args.isEmpty then none else (dM f args).map (mN fG)) else none
 else none
def j0(T:aY)(sc:Scope)(N:List Str)(f:Expr->Option EM)(x:Str)(args:List Expr):Option EM:=match mI sc N x with
 | some _=>none
 | none=>n_ T sc f x args
def xM(sc:Scope):List Expr->Option (Expr×Ty×Pos)
 | [a,.Name t p]=>match wO t with
  | some ty=>if qy sc t then some (a,ty,p) else none
  | none=>none
 | _=>none
theorem uS{sc:Scope}{args:List Expr}{a:Expr}{ty:Ty}{p:Pos}(h:xM sc args=some (a,ty,p)):args=[a,.Name ty.nm p]/\qy sc ty.nm=true/\ty.nm∈dw:=by
 unfold xM at h;split at h
 ·split at h
  ·rename_i Vz hty
   split at h
   ·rename_i hg
    cases h;obtain⟨rfl,m⟩:=Gw hty;exact⟨rfl,hg,m⟩
   ·cases h
  ·cases h
 ·cases h
def pS(sc:Scope)(f:Expr->Option EM)(x:Str)(args:List Expr):Option EM:=if x == ("isinstance":Str) && qy sc x then match xM sc args with
 | some (a,ty,_)=>(f a).map (m1 (bG ty))
 | none=>none else none
def gN(f:Expr->Option EM)(sc:Scope)(iter:Expr):Option IM:=match iter with
 | .Call (.Name g _) args [] _=>if g == ("range":Str) then (if qy sc g then (match args with
   | [a]=>(dM f [a]).map bt
   | _=>none) else none) else (f iter).map aZ
 | _=>(f iter).map aZ
def xO(f:Expr->Option EM):List Expr->Option (Bool×EM)
 | []=>some (true,ae .non)
 | [c]=>(f c).map fun m=>(false,m)
 | _=>none
def cG(T:aY):Nat->Scope->List Str->Expr->Option EM
 | 0,_,_,_=>none
 | n + 1,sc,N,e=>match e with
  | .Name x _=>n8 T sc N x
  | .Constant c _ _=>lu c
  | .BinOp a op b _=>o2 (cG T n sc N a) (cG T n sc N b) (m2 (aJ op))
  | .UnaryOp .USub a _=>(cG T n sc N a).map (m1 ro)
  | .UnaryOp .Not a _=>(cG T n sc N a).map bW
  | .BoolOp op (a::b::r) _=>iW (cG T n sc N) op (a::b::r)
  | .Compare a [op] [b] _=>if isSet b then none else o2 (cG T n sc N a) (cG T n sc N b) (m2 (au op))
  | .Compare a [op,op'] [b,c] _=>if isSet c then none else o2 (cG T n sc N a) (o2 (cG T n sc N b) (cG T n sc N c) Prod.mk) fun x y=>h_ op op' x y.1 y.2
  | .IfExp t a b _=>o2 (cG T n sc N t) (o2 (cG T n sc N a) (cG T n sc N b) Prod.mk) fun x y=>Fg x y.1 y.2
  | .Subscript a (.Slice lo hi none _) _=>o2 (cG T n sc N a) (o2 (rz (cG T n sc N) lo) (rz (cG T n sc N) hi) Prod.mk) fun x y=>b_ x y.1.1 y.1.2 y.2.1 y.2.2
  | .Subscript a b _=>if isSlice b then none else o2 (cG T n sc N a) (cG T n sc N b) (m2 aA)
  | .List es _=>(dM (cG T n sc N) es).map (mN bA)
  | .Tuple es _ _=>(dM (cG T n sc N) es).map (mN pG)
  | .Call (.Name x _) args [] _=>match pS sc (cG T n sc N) x args with
   | some m=>some m
   | none=>j0 T sc N (cG T n sc N) x args
  | .Call (.Attribute o m p1) args [] p2=>if p1.endLine == p2.line && lx o && decide (args.length < 20) then (match cG T n sc N o,dM (cG T n sc N) args with
   | some mo,some as=>n9 T m args.length mo as
   | _,_=>none) else none
  | .ListComp elt gens scope _=>match kQ gens with
   | some (x,_,iter,ifs)=>if wQ scope sc x && !isSet iter then (match ri sc N (dk scope),gN (cG T n sc N) sc iter,cG T n (rh scope sc) (x::dk scope) elt,xO (cG T n (rh scope sc) (x::dk scope)) ifs with
    | some cap,some mi,some me,some (nc,mc)=>some (bp me nc mc mi 0 cap)
    | _,_,_,_=>none) else none
   | none=>none
  | _=>none
structure GoodO(X:Cx)(κ:Str->Addr->Prop)(T:aY)(k:Nat)(sc:Scope)(N:List Str):Prop where
 scope:X.env.scope=sc
 names:X.N=N
 calm:X.calm=true
 room:bY k X.A
 cW:∀ x∈dw,X.mg x=none
 iV:∀ x F,T.iV.lookup x=some F->Gn X k x F
 fn:∀ x F,T.fn.lookup x=some F->xH X κ k x F
 cst:∀ x d,T.cst.lookup x=some d->∃ v u,X.mg x=some u/\RelV v u/\fy d=some v
 met:∀ m C F,(m,C,F)∈T.met->GS X κ k C m F
 cls:∀ C F,T.cls.lookup C=some F->∃ j,j + 1<=k/\GU X κ j C F
 fld:∀ f Cs,T.fld.lookup f=some Cs->xJ X.K κ Cs f
 clo:∀ j F,T.clo[j]?=some F->pQ X.prog X.w X.K X.mg X.base κ k j F
theorem GoodO.gl{X:Cx}{κ:Str->Addr->Prop}{T:aY}{k:Nat}{sc:Scope}{N:List Str}{x:Str}(G:GoodO X κ T k sc N)(h:qy sc x=true):Gl X x:=by
 unfold qy at h;have e:=eq_of_beq h
 show X.env.scope.names.lookup x=some .globalImplicit
 rw[G.scope];exact e
theorem GoodO.hu{X:Cx}{κ:Str->Addr->Prop}{T:aY}{k:Nat}{sc:Scope}{N:List Str}(G:GoodO X κ T k sc N):X.A.units + 64 < cLine:=G.room.units
theorem GoodO.blk{X:Cx}{κ:Str->Addr->Prop}{T:aY}{k:Nat}{sc:Scope}{N:List Str}(G:GoodO X κ T k sc N)(scope:Scope)(cl:List (Str×Addr))(C:Addr)(N':List Str)(s₀:Shared)(H₀:Hp)(fp:List Addr):GoodO (blk X scope cl C N' s₀ H₀ fp) κ T k (rh scope sc) N' where
 scope:=by rw[← G.scope];rfl
 names:=rfl
 calm:=G.calm
 room:=G.room
 cW:=G.cW
 iV:=fun x F h=>⟨(G.iV x F h).ex⟩
 fn:=fun x F h=>⟨(G.fn x F h).ex⟩
 cst:=G.cst
 met:=fun m C F h=>⟨(G.met m C F h).ex⟩
 cls:=fun C F h=>let ⟨j,h1,h2⟩:=G.cls C F h;⟨j,h1,⟨h2.ex⟩⟩
 fld:=G.fld
 clo:=G.clo
def lN(X:Cx)(κ:Str->Addr->Prop)(e:Expr)(m:EM):Prop:=(∀ Φ,bz X κ Φ e m)/\(∀ Φ,gC X κ Φ e m)/\isStar e=false
section
variable{X:Cx}{κ:Str->Addr->Prop}{T:aY}{k:Nat}{sc:Scope}{N:List Str}{f:Expr->Option EM}
theorem ck{e:Expr}{m:EM}(h:∀ Φ,bz X κ Φ e m)(hs:isStar e=false)(he:∀ whole,isTrue e X.env whole=(do let v ← whole;standAt e.pos;holding [v] (truthy v))):lN X κ e m:=⟨h,fun Φ=>zR (h Φ) he,hs⟩
theorem cT(hf:∀ e m,f e=some m->lN X κ e m):∀ {es:List Expr} {as:AM},dM f es=some as->(∀ Φ,qz X κ Φ es as)/\(∀ e∈es,isStar e=false)
 | [],as,h=>by cases h;exact⟨fun Φ=>nP,fun e he=>absurd he (by simp)⟩
 | e::es,as,h=>by
  obtain⟨m,as',h1,h2,rfl⟩:=bH h;obtain⟨p1,_,p3⟩:=hf e m h1;obtain⟨q1,q2⟩:=cT hf h2;refine⟨fun Φ=>k9 (p1 Φ) (q1 Φ) (bZ p3),fun z hz => ?_⟩
  rcases List.mem_cons.mp hz with rfl | hz
  ·exact p3
  ·exact q2 z hz
theorem xP(G:GoodO X κ T k sc N){x:Str}{pos:Pos}{m:EM}(h:n8 T sc N x=some m):lN X κ (.Name x pos) m:=by
 unfold n8 at h;split at h
 ·rename_i i q
  cases h;obtain⟨h1,h2,h3,h4⟩:=sU q;exact ck (fun Φ=>zI (by rw[G.names];exact h1) (by rw[G.scope];exact h2) h3 h4) rfl (fun _=>rfl)
 ·split at h
  ·rename_i hc
   simp only[Bool.and_eq_true]at hc;obtain⟨d,h3,rfl⟩:=cu h;obtain⟨v,u,e2,e3,e4⟩:=G.cst x d h3;obtain⟨n1,n2,n3⟩:=sV hc.2;exact ck (fun Φ=>iS (yH (G.gl hc.1) e2 e3 n1) e4) rfl (fun _=>rfl)
  ·cases h
theorem uT{q:Const}{j:Nat}{pos:Pos}{m:EM}(h:lu q=some m):lN X κ (.Constant q j pos) m:=by
 cases q<;>simp only[lu]at h<;>cases h
 ·exact ck (fun Φ=>iS Ce rfl) rfl (fun _=>rfl)
 ·exact ck (fun Φ=>iS Br rfl) rfl (fun _=>rfl)
 ·exact ck (fun Φ=>iS Cd rfl) rfl (fun _=>rfl)
 ·exact ck (fun Φ=>iS vi rfl) rfl (fun _=>rfl)
theorem pT{op:BoolOp}{pos:Pos}(hf:∀ e m,f e=some m->lN X κ e m):∀ {es:List Expr} {m:EM},iW f op es=some m->(∀ Φ,bz X κ Φ (.BoolOp op es pos) m)/\(∀ Φ,BF X κ Φ (.BoolOp op es pos) m)
 | [],m,h=>by cases h
 | [a],m,h=>by
  obtain⟨p1,p2,p3⟩:=hf a m h;exact⟨fun Φ=>mR (p1 Φ),fun Φ=>zU (p2 Φ)⟩
 | a::b::r,m,h=>by
  simp only[iW]at h;obtain⟨ma,mb,h1,h2,rfl⟩:=bH h;obtain⟨p1,p2,p3⟩:=hf a ma h1;obtain⟨q1,q2⟩:=pT hf h2;cases op with
  | And=>exact⟨fun Φ=>tj (p1 Φ) (q1 Φ),fun Φ=>zV (p2 Φ) (q2 Φ)⟩
  | Or=>exact⟨fun Φ=>C7 (p1 Φ) (q1 Φ),fun Φ=>C8 (p2 Φ) (q2 Φ)⟩
theorem pU(hf:∀ e m,f e=some m->lN X κ e m){o:Option Expr}{n:Bool}{m:EM}{Φ:f_}(h:rz f o=some (n,m)):Kp X κ Φ o n m:=by
 cases o with
 | none=>cases h;exact .inl ⟨rfl,rfl⟩
 | some e=>
  obtain⟨a,h1,h2⟩:=cu h;cases h2;exact .inr ⟨e,rfl,rfl,(hf e m h1).1 Φ⟩
theorem Ah{m:Str}{n:Nat}{b:BM}(h:Dm m n=some b):m=b.nm/\n=b.ar:=by
 have:=List.find?_some h;simp only[Bool.and_eq_true,beq_iff_eq]at this;exact⟨this.1.symm,this.2.symm⟩
theorem j2{o:Expr}{n:Str}{env:Env}(h:lx o=true):attributeBase o n env (eval o env)=eval o env:=by
 cases o<;>first | rfl | (cases h)
theorem GV(hu:X.A.units + 64 < cLine)(b:BM){o:Expr}{es:List Expr}{mo:EM}{as:AM}{p1 p2:Pos}{Φ:f_}(hb:lx o=true)(hl:(p1.endLine == p2.line)=true)(hn:es.length=b.ar)(ho:bz X κ Φ o mo)(ha:dM f es=some as)(hf:∀ e m,f e=some m->lN X κ e m) :
  bz X κ Φ (.Call (.Attribute o b.nm p1) es [] p2) (bP b.ty b.f mo as):=by
 obtain⟨a1,a2⟩:=cT hf ha;have a1:=a1 Φ;cases b with
 | append=>
  match es,hn with
  | [e],_=>exact nW PySem.F.plainAttrs_list PySem.F.slot_list_append PySem.F.type_list_append mx (fun x v α Z Ω H S r h=>rp S r h) (fun x v xs vs α Z Ω H Q S r rs g=>uM S r rs g) (j2 hb) hl ho a1 a2 (by simp)
 | pR=>
  match es,hn with
  | [e],_=>exact nW PySem.F.plainAttrs_list PySem.F.slot_list_pop PySem.F.type_list_pop vK (fun x v α Z Ω H S r h=>rp S r h) (fun x v xs vs α Z Ω H Q S r rs g=>xq S r rs g) (j2 hb) hl ho a1 a2 (by simp)
 | index=>
  match es,hn with
  | [e],_=>exact nW PySem.F.plainAttrs_list PySem.F.slot_list_index PySem.F.type_list_index (wF hu) (fun x v α Z Ω H S r h=>rp S r h) (fun x v xs vs α Z Ω H Q S r rs g=>xr S r rs g) (j2 hb) hl ho a1 a2 (by simp)
 | join=>
  match es,hn with
  | [e],_=>exact nW PySem.F.plainAttrs_str PySem.F.slot_str_join PySem.F.type_str_join zt (fun x v α Z Ω H S r h=>z7 S r h) (fun x v xs vs α Z Ω H Q S r rs g=>z8 S r rs g) (j2 hb) hl ho a1 a2 (by simp)
theorem xQ(G:GoodO X κ T k sc N){o:Expr}{m:Str}{es:List Expr}{mo:EM}{as:AM}{p1 p2:Pos}{Φ:f_}{x:EM}(hb:lx o=true)(hl:(p1.endLine == p2.line)=true)(hlen:es.length < 20)(ho:bz X κ Φ o mo)(ha:dM f es=some as)(hf:∀ e m,f e=some m->lN X κ e m)
  (h:n9 T m es.length mo as=some x):bz X κ Φ (.Call (.Attribute o m p1) es [] p2) x:=by
 have one:∀ b,Dm m es.length=some b->bz X κ Φ (.Call (.Attribute o m p1) es [] p2) (bP b.ty b.f mo as):=fun b hbm=>by
  obtain⟨rfl,hn⟩:=Ah hbm;exact GV G.hu b hb hl hn ho ha hf
 obtain⟨b,h1,rfl⟩:=cu h;exact one b h1
theorem xR(G:GoodO X κ T k sc N)(hf:∀ e m,f e=some m->lN X κ e m){x:Str}{args:List Expr}{m:EM}{p pos:Pos}(h:n_ T sc f x args=some m):lN X κ (.Call (.Name x p) args [] pos) m:=by
 refine ck (fun Φ => ?_) rfl (fun _=>rfl)
 unfold n_ at h;split at h
 ·rename_i hc
  simp only[Bool.and_eq_true]at hc;obtain⟨n1,n2,n3⟩:=sV hc.2;have hg:=G.gl hc.1;split at h
  ·rename_i F hF
   obtain⟨as,ha,rfl⟩:=cu h;obtain⟨q1,q2⟩:=cT hf ha;cases args with
   | nil=>cases ha;exact uR (G.fn x F hF) G.room hg n1
   | cons a args=>exact xI (G.fn x F hF) G.room hg n1 (bZ (q2 a (by simp))) (dg fun z hz=>q2 z (by simp[hz])) (q1 Φ)
  ·rename_i F _ hF
   split at h
   ·cases h
   ·rename_i hne
    obtain⟨as,ha,rfl⟩:=cu h;obtain⟨q1,q2⟩:=cT hf ha;cases args with
    | nil=>exact absurd rfl hne
    | cons a args=>exact uI (G.iV x F hF) G.room hg n1 (bZ (q2 a (by simp))) (dg fun z hz=>q2 z (by simp[hz])) (q1 Φ)
  ·rename_i b _ _ hb
   split at h
   ·cases h
   ·rename_i hne
    obtain⟨as,ha,rfl⟩:=cu h;obtain⟨q1,q2⟩:=cT hf ha;obtain⟨rfl,b1,b2⟩:=Ag hb;cases args with
    | nil=>exact absurd rfl hne
    | cons a args=>exact z4 G.calm b1 hg (G.cW _ b2) (bZ (q2 a (by simp))) (dg fun z hz=>q2 z (by simp[hz])) (q1 Φ)
  ·split at h
   ·rename_i hx
    obtain rfl:=eq_of_beq hx;split at h
    ·cases h
    ·rename_i hne
     obtain⟨as,ha,rfl⟩:=cu h;obtain⟨q1,q2⟩:=cT hf ha;cases args with
     | nil=>exact absurd rfl hne
     | cons a args=>exact xj hg (G.cW _ (by decide)) (bZ (q2 a (by simp))) (dg fun z hz=>q2 z (by simp[hz])) (q1 Φ)
   ·cases h
 ·cases h
theorem xS(G:GoodO X κ T k sc N)(hf:∀ e m,f e=some m->lN X κ e m){x:Str}{args:List Expr}{m:EM}{p pos:Pos}(h:j0 T sc N f x args=some m):lN X κ (.Call (.Name x p) args [] pos) m:=by
 unfold j0 at h;cases hs:mI sc N x with
 | none=>rw[hs]at h;exact xR G hf h
 | some i=>
  rw[hs]at h;cases h
theorem Ai(G:GoodO X κ T k sc N)(hf:∀ e m,f e=some m->lN X κ e m){x:Str}{args:List Expr}{m:EM}{p pos:Pos}(h:pS sc f x args=some m):lN X κ (.Call (.Name x p) args [] pos) m:=by
 unfold pS at h;split at h
 ·rename_i hx
  simp only[Bool.and_eq_true,beq_iff_eq]at hx;obtain⟨rfl,hg⟩:=hx;split at h
  ·rename_i a ty pt hi
   obtain⟨rfl,h1,h2⟩:=uS hi;obtain⟨ma,h3,rfl⟩:=cu h;obtain⟨q1,_,q3⟩:=hf a ma h3;exact ck (fun Φ=>z6 (G.gl hg) (G.cW _ (by decide)) (G.gl h1) (G.cW _ h2) (bZ q3) (dg (es:=[Expr.Name ty.nm pt]) fun z hz=>by simp at hz;subst hz;rfl) (q1 Φ)) rfl (fun _=>rfl)
  ·cases h
 ·cases h
theorem ly(G:GoodO X κ T k sc N)(hf:∀ e m,f e=some m->lN X κ e m){iter:Expr}{mi:IM}(h:gN f sc iter=some mi):∀ Φ tg,xu X κ Φ tg iter mi:=by
 intro Φ tg
 have dflt:∀ {mi},(f iter).map aZ=some mi->xu X κ Φ tg iter mi:=fun {mi} h=>by
  obtain⟨m,h1,rfl⟩:=cu h;exact Aa ((hf iter m h1).1 Φ)
 unfold gN at h;split at h
 ·rename_i g p args pos
  split at h
  ·rename_i hr
   obtain rfl:=eq_of_beq hr;split at h
   ·rename_i hg
    split at h
    ·rename_i a
     obtain⟨as,h1,rfl⟩:=cu h;obtain⟨q1,q2⟩:=cT hf h1;exact xy (G.gl hg) (G.cW _ (by decide)) (q1 Φ) (by rw[bZ (q2 a (by simp))];rfl)
    ·cases h
   ·cases h
  ·exact dflt h
 ·exact dflt h
end
section
variable{κ:Str->Addr->Prop}{T:aY}{k:Nat}
theorem Aj{X:Cx}{sc:Scope}{N:List Str}(G:GoodO X κ T k sc N){scope:Scope}{x:Str}{cap:List Nat}(hb:wQ scope sc x=true)(hc:ri sc N (dk scope)=some cap) :
  jz X scope [x] (dk scope) cap/\scope.names.lookup x=some .local/\([x]++dk scope).Nodup:=by
 simp only[wQ,Bool.and_eq_true,decide_eq_true_eq,List.all_eq_true,Bool.not_eq_true',beq_iff_eq,Bool.or_eq_true]at hb;obtain⟨⟨⟨⟨⟨h1,h2⟩,h3⟩,h4⟩,h5⟩,h6⟩:=hb;obtain⟨c1,c2⟩:=wU hc
 have fr:∀ y∈scope.names,y.2=.free->(sc.names.lookup y.1=some .cell\/sc.names.lookup y.1=some .free)/\scope.names.lookup y.1=some .free:=fun y hy hk=>by
  rcases h4 y hy with q | q
  ·rw[hk]at q;exact absurd q (by decide)
  ·exact q
 refine⟨⟨h1,fun y hy hk => ?_,fun y hy hk => ?_,fun y hy hk => ?_,c1,fun j i z e1 e2 => ?_⟩,h5,h6⟩
 ·have:=h2 y hy
  rw[hk]at this;exact absurd this (by decide)
 ·rcases h3 y hy with q | q
  ·rw[hk]at q;exact absurd q (by decide)
  ·exact q
 ·have:=(fr y hy hk).1
  show X.env.scope.names.lookup y.1=_\/X.env.scope.names.lookup y.1=_
  rw[G.scope];exact this
 ·refine⟨by rw[G.names];exact c2 j i z e1 e2,?_⟩
  have hm:z∈dk scope:=List.mem_of_getElem? e1;unfold dk at hm;obtain⟨y,hy,rfl⟩:=List.mem_map.mp hm;obtain⟨hy1,hy2⟩:=List.mem_filter.mp hy;exact(fr y hy1 (by simpa using hy2)).2
theorem lz{T:aY}{sc:Scope}{N:List Str}{n:Nat}{elt:Expr}{gens:List Comprehension}{scope:Scope}{pos:Pos}{m:EM}{P:Prop}(hg:kQ gens=none)(h:cG T (n + 1) sc N (.ListComp elt gens scope pos)=some m):P:=by
 replace h:(match kQ gens with
   | some (x,_,iter,ifs)=>if (wQ scope sc x && !isSet iter)=true then (match ri sc N (dk scope),gN (cG T n sc N) sc iter,cG T n (rh scope sc) (x::dk scope) elt,xO (cG T n (rh scope sc) (x::dk scope)) ifs with
    | some cap,some mi,some me,some (nc,mc)=>some (bp me nc mc mi 0 cap)
    | _,_,_,_=>none) else none
   | none=>none)=some m:=h
 rw[hg]at h;cases h
theorem jE{n:Nat}(hf:∀ (X:Cx) (sc:Scope) (N:List Str) (e:Expr) (m:EM),GoodO X κ T k sc N->cG T n sc N e=some m->lN X κ e m){X:Cx}{sc:Scope}{N:List Str}(G:GoodO X κ T k sc N){scope:Scope}{x:Str}{iter elt:Expr}{ifs:List Expr}{px pos:Pos}{m:EM}
  (h:cG T (n + 1) sc N (.ListComp elt [⟨.Name x px,iter,ifs,0⟩] scope pos)=some m):∃ me nc mc mi cap,m=bp me nc mc mi 0 cap/\jz X scope [x] (dk scope) cap/\scope.names.lookup x=some .local/\([x]++dk scope).Nodup /\
   (∀ z,foldedSetIterable iter X.env z=pure z)/\(∀ Φ,xu X κ Φ (.Name x px) iter mi) /\
   ∀ cl C s₀ H₀ fp,((ifs=[]/\nc=true)\/∃ c,ifs=[c]/\nc=false/\gC (blk X scope cl C ([x]++dk scope) s₀ H₀ fp) κ jk c mc)/\bz (blk X scope cl C ([x]++dk scope) s₀ H₀ fp) κ jk elt me:=by
 replace h:(if (wQ scope sc x && !isSet iter)=true then (match ri sc N (dk scope),gN (cG T n sc N) sc iter,cG T n (rh scope sc) (x::dk scope) elt,xO (cG T n (rh scope sc) (x::dk scope)) ifs with
    | some cap,some mi,some me,some (nc,mc)=>some (bp me nc mc mi 0 cap)
    | _,_,_,_=>none) else none)=some m:=h
 split at h
 ·rename_i hc
  simp only[Bool.and_eq_true,Bool.not_eq_true']at hc;split at h
  ·rename_i cap mi me nc mc h1 h2 h3 h4
   cases h;obtain⟨b1,b2,b3⟩:=Aj G hc.1 h1;refine⟨me,nc,mc,mi,cap,rfl,b1,b2,b3,iP hc.2,fun Φ=>ly G (hf X sc N · · G) h2 Φ _,fun cl C s₀ H₀ fp => ?_⟩
   have G':=G.blk scope cl C ([x]++dk scope) s₀ H₀ fp;refine⟨?_,(hf _ _ _ elt me G' h3).1 jk⟩
   match ifs,h4 with
   | [],h4=>cases h4;exact .inl ⟨rfl,rfl⟩
   | [c'],h4=>
    obtain⟨a,q1,q2⟩:=cu h4;cases q2;exact .inr ⟨c',rfl,rfl,(hf _ _ _ c' mc G' q1).2.1 jk⟩
  ·cases h
 ·cases h
theorem eU:∀ (n:Nat) (X:Cx) (sc:Scope) (N:List Str) (e:Expr) (m:EM),GoodO X κ T k sc N->cG T n sc N e=some m->lN X κ e m:=by
 intro n
 induction n with
 | zero=>intro X sc N e m G h;cases h
 | succ n ih=>
  intro X sc N e m G h;have hf:∀ e m,cG T n sc N e=some m->lN X κ e m:=fun e m q=>ih X sc N e m G q
  cases e with
  | Name x pos=>exact xP G h
  | Constant c j pos=>exact uT h
  | BinOp a op b pos=>
   obtain⟨ma,mb,h1,h2,rfl⟩:=bH h;exact ck (fun Φ=>zL ((hf a ma h1).1 Φ) ((hf b mb h2).1 Φ)) rfl (fun _=>rfl)
  | UnaryOp op a pos=>
   cases op with
   | USub=>
    obtain⟨ma,h1,rfl⟩:=cu h;exact ck (fun Φ=>zM ((hf a ma h1).1 Φ)) rfl (fun _=>rfl)
   | Not=>
    obtain⟨ma,h1,rfl⟩:=cu h;exact⟨fun Φ=>zS ((hf a ma h1).1 Φ),fun Φ=>zT ((hf a ma h1).2.1 Φ),rfl⟩
   | _=>cases h
  | BoolOp op vs pos=>
   match vs,h with
   | a::b::r,h=>
    obtain⟨q1,q2⟩:=pT (pos:=pos) hf (show iW (cG T n sc N) op (a::b::r)=some m from h)
    exact⟨q1,fun Φ=>(q2 Φ).pt,rfl⟩
   | [_],h=>cases h
   | [],h=>cases h
  | Compare a ops cs pos=>
   match ops,cs,h with
   | [op],[b],h=>
    replace h:(if isSet b=true then none else o2 (cG T n sc N a) (cG T n sc N b) (m2 (au op)))=some m:=h
    split at h
    ·cases h
    ·rename_i hs
     obtain⟨ma,mb,h1,h2,rfl⟩:=bH h;have hm:=pz (op:=op) (b:=b) (by simpa using hs)
     exact⟨fun Φ=>(nV G.hu hm ((hf a ma h1).1 Φ) ((hf b mb h2).1 Φ)).1,fun Φ=>(nV G.hu hm ((hf a ma h1).1 Φ) ((hf b mb h2).1 Φ)).2,rfl⟩
   | [op,op'],[b,c'],h=>
    replace h:(if isSet c'=true then none else o2 (cG T n sc N a) (o2 (cG T n sc N b) (cG T n sc N c') Prod.mk) fun x y=>h_ op op' x y.1 y.2)=some m:=h
    split at h
    ·cases h
    ·rename_i hs
     obtain⟨ma,VA,h1,GW,rfl⟩:=bH h;obtain⟨mb,mc,h2,h3,rfl⟩:=bH GW;have hm:lastMarks [op,op'] [b,c']=false:=pz (op:=op') (b:=c') (by simpa using hs)
     exact⟨fun Φ=>zY G.hu hm ((hf _ _ h1).1 Φ) ((hf _ _ h2).1 Φ) ((hf _ _ h3).1 Φ),fun Φ=>zZ G.hu hm ((hf _ _ h1).1 Φ) ((hf _ _ h2).1 Φ) ((hf _ _ h3).1 Φ),rfl⟩
   | [],_,h=>cases h
   | [_],[],h=>cases h
   | [_],_::_::_,h=>cases h
   | [_,_],[],h=>cases h
   | [_,_],[_],h=>cases h
   | [_,_],_::_::_::_,h=>cases h
   | _::_::_::_,[],h=>cases h
   | _::_::_::_,[_],h=>cases h
   | _::_::_::_,_::_::_,h=>cases h
  | IfExp t a b pos=>
   obtain⟨mt,VB,h1,GW,rfl⟩:=bH h;obtain⟨ma,mb,h2,h3,rfl⟩:=bH GW;exact⟨fun Φ=>zW ((hf _ _ h1).2.1 Φ) ((hf _ _ h2).1 Φ) ((hf _ _ h3).1 Φ),fun Φ=>zX ((hf _ _ h1).2.1 Φ) ((hf _ _ h2).2.1 Φ) ((hf _ _ h3).2.1 Φ),rfl⟩
  | Subscript a s pos=>
   have gen:∀ b,isSlice b=false->o2 (cG T n sc N a) (cG T n sc N b) (m2 aA)=some m->lN X κ (.Subscript a b pos) m:=fun b hb h=>by
    obtain⟨ma,mb,h1,h2,rfl⟩:=bH h;refine ck (fun Φ=>zP (by have:=G.hu;omega) (fun o i => ?_) ((hf _ _ h1).1 Φ) ((hf _ _ h2).1 Φ)) rfl (fun _=>rfl)
    cases b<;>first | rfl | (cases hb)
   cases s with
   | Slice lo hi st p2=>
    cases st with
    | none=>
     obtain⟨ma,VC,h1,GW,rfl⟩:=bH h;obtain⟨⟨nl,ml⟩,⟨nh,mh⟩,h2,h3,rfl⟩:=bH GW;exact ck (fun Φ=>zQ ((hf _ _ h1).1 Φ) (pU hf h2) (pU hf h3)) rfl (fun _=>rfl)
    | some e=>
     cases lo with
     | none=>
      cases hi with
      | none=>
       exact nomatch (show(none:Option EM)=some m from h)
      | some _=>exact nomatch (show(none:Option EM)=some m from h)
     | some _=>exact nomatch (show(none:Option EM)=some m from h)
   | _=>exact gen _ rfl h
  | List es pos=>
   obtain⟨as,h1,rfl⟩:=cu h;exact ck (fun Φ=>zJ ((cT hf h1).1 Φ)) rfl (fun _=>rfl)
  | Tuple es j pos=>
   obtain⟨as,h1,rfl⟩:=cu h;exact ck (fun Φ=>zK ((cT hf h1).1 Φ)) rfl (fun _=>rfl)
  | Call f args kws pos=>
   cases f with
   | Name x p=>
    cases kws with
    | nil=>
     replace h:(match pS sc (cG T n sc N) x args with | some m=>some m | none=>j0 T sc N (cG T n sc N) x args)=some m:=h
     cases hi:pS sc (cG T n sc N) x args with
     | some m'=>
      rw[hi]at h;cases h;exact Ai G hf hi
     | none=>
      rw[hi]at h;exact xS G hf h
    | cons _ _=>cases h
   | Attribute o mm p1=>
    cases kws with
    | nil=>
     replace h:(if (p1.endLine == pos.line && lx o && decide (args.length < 20))=true then (match cG T n sc N o,dM (cG T n sc N) args with
   | some mo,some as=>n9 T mm args.length mo as
   | _,_=>none) else none)=some m:=h
     split at h
     ·rename_i hc
      simp only[Bool.and_eq_true,decide_eq_true_eq]at hc;split at h
      ·rename_i mo as h1 h2
       exact ck (fun Φ=>xQ G hc.1.2 hc.1.1 hc.2 ((hf o mo h1).1 Φ) h2 hf h) rfl (fun _=>rfl)
      ·cases h
     ·cases h
    | cons _ _=>cases h
   | _=>cases h
  | ListComp elt gens scope pos=>
   cases hg:kQ gens with
   | none=>exact lz hg h
   | some q=>
    obtain⟨x,px,iter,ifs⟩:=q;obtain rfl:=mJ hg;obtain⟨me,nc,mc,mi,cap,rfl,b1,b2,b3,b4,b5,b6⟩:=jE (fun X sc N e m G q=>ih X sc N e m G q) G h
    exact ck (fun Φ=>xB G.calm b1 b4 (b5 Φ) b2 b3 b6) rfl (fun _=>rfl)
  | _=>cases h
end
structure dN(X:Cx)(κ:Str->Addr->Prop)(T:aY)(k:Nat)(sc:Scope)(N:List Str):Prop extends GoodO X κ T k sc N where
 own:PassesOwn (model X.prog X.w) X.A X.env X.xe
 Fh:∀ x,wN sc x=true->T.fz.contains x=false->(X.fn x=true\/X.env.scope.names.lookup x=some .local)
 oJ:N.Nodup
 kind:sc.kind=.function
 jv:T.xt=false->∀ e s,¬ X.xe e s
def cy(f:Stmt->Option SM):List Stmt->Option SM
 | []=>some ag
 | s::r=>o2 (f s) (cy f r) ah
def oa(f:Expr->Option EM)(sc:Scope)(iter:Expr):Option IM:=match iter with
 | .Call (.Name g _) [a] [] _=>if g == ("enumerate":Str) then (if qy sc g then (f a).map uN else none) else gN f sc iter
 | _=>gN f sc iter
def iX(T:aY)(sc:Scope)(N:List Str)(x:Str):Option Nat:=if T.fz.contains x then none else pA sc N x
def lA(T:aY)(sc:Scope)(N:List Str)(nms:List (Str×Pos)):Option (List Nat):=if nms.any (fun y=>T.fz.contains y.1) then none else kR sc N nms
def rD(T:aY)(td:List Str)(k:Nat)(sc:Scope)(N:List Str)(x:Str)(px:Pos)(e:Expr)(pos:Pos):Option SM:=match iX T sc N x with
   | some i=>(match cG T k sc N e with
    | some m=>if pB sc x px e then (if pos.line == px.line then some (ay i m) else none) else some (ay i m)
    | none=>none)
   | none=>none
def rE(T:aY)(k:Nat)(sc:Scope)(N:List Str)(es:List Expr)(e:Expr):Option SM:=match eM es with
   | some nms=>match lA T sc N nms,cG T k sc N e with
    | some is,some m=>if wV e then some (uP is m) else none
    | _,_=>none
   | none=>none
def iA(T:aY)(td:List Str)(k:Nat)(sc:Scope)(N:List Str):Nat->Stmt->Option SM
 | 0,_=>none
 | n + 1,st=>match st with
  | .Return (some e) _=>some (match cG T k sc N e with
   | some m=>aH m
   | none=>nY)
  | .Assign [.Name x px] e pos=>rD T td k sc N x px e pos
  | .Assign [.Tuple es _ _] e _=>rE T k sc N es e
  | .Expr e _=>if rj e then none else (cG T k sc N e).map dZ
  | .If c a b _=>o2 (cG T k sc N c) (o2 (cy (iA T td k sc N n) a) (cy (iA T td k sc N n) b) Prod.mk) fun x y=>b8 x y.1 y.2
  | .While c b [] _=>o2 (cG T k sc N c) (cy (iA T td k sc N n) b) lq
  | .For (.Name x _) it b [] _=>if isSet it then none else o2 (iX T sc N x) (o2 (gN (cG T k sc N) sc it) (cy (iA T td k sc N n) b) Prod.mk) fun i y=>cD (bu i) y.1 y.2
  | .For (.Tuple es _ _) it b [] _=>if isSet it then none else match eM es with
   | some nms=>o2 (lA T sc N nms) (o2 (oa (cG T k sc N) sc it) (cy (iA T td k sc N n) b) Prod.mk) fun is y=>cD (jD is) y.1 y.2
   | none=>none
  | _=>none
section
variable{X:Cx}{κ:Str->Addr->Prop}{Φ:f_}{T:aY}{td:List Str}{k:Nat}{sc:Scope}{N:List Str}{α α' aG α1:List Addr}{Z Z' Z0 Z1:Addr->Prop}{Ω aq:aF}{H H' H0 H1:Hp}
theorem Ak{es:List Expr}{x1:Nat}{tpos p pos:Pos}{a:Expr}{m:EM}(hg:Gl X "enumerate")(hm:X.mg "enumerate"=none)(hs:starEach [a] X.env=[(false,eval a X.env)])(ha:bz X κ Φ a m) :
  xu X κ Φ (.Tuple es x1 tpos) (.Call (.Name "enumerate" p) [a] [] pos) (uN m):=by
 intro aG Z0 H0 ρ Ω;refine PI.imp (wL hg hm (c9 (ha aG Z0 H0 ρ Ω) iu hs) hs) ?_;rintro σ H R ⟨α,Z,S,g⟩;refine⟨α,Z,S,rq.use g fun x ak _ v H1 α1 Z1 g1 s1 r1 k1 => ?_⟩
 have fin:∀ {α2:List Addr} {Z2:Addr->Prop} {av:aF} {H2:Hp} {i:Nat} {v:V} {d':D},bO κ α2 Z2 av H2->aw α2 Z2 H2 d' v->∀ p,H2 p=none->∃ Z3,cg α2 Z2 H2 α2 Z3 (upd H2 p (.tup [.int i,v]))/\bO κ α2 Z3 av (upd H2 p (.tup [.int i,v]))/\aw α2 Z3 (upd H2 p (.tup [.int i,v])) (.tup [.int (0 + i:Nat),d']) (.ref p):=fun {α2 Z2 av H2 i v d'} s2 rv p hp=>by
  obtain⟨s3,g3⟩:=s2.xa (p:=p) (o:=.tup [.int i,v]) hp True;simp only[if_true]at s3 g3;refine⟨Zp Z2 p,g3,s3,?_⟩;simp only[aw];refine⟨p,_,rfl,.inr rfl,bE,bj.mpr (.cons ?_ (.one (s2.dX g3 rv)))⟩;simp only[aw];simp
 cases hq:eW ak x with
 | none=>simp only[hq]at k1;exact k1.elim
 | some VD=>
  simp only[hq]at k1
  by_cases ht:∃ es,x=.tup es
  ·obtain⟨es',rfl⟩:=ht
   have r1':=r1;simp only[aw]at r1;obtain⟨a,BG,rfl,z1,q1,q2⟩:=r1;refine⟨a,rfl,.inr ⟨⟨BG,f7.of q1⟩,k1 _ H1 α1 Z1 (cg.refl s1.has) s1 ?_⟩⟩;intro α2 Z2 av H2 ds g2 s2 hs2;have hs2:some (du 0 es')=some ds:=hs2;cases hs2;have r2:=s1.dX g2 r1';simp only[aw]at r2;obtain⟨a',vs,e,z3,h3,h4⟩:=r2;cases e;have h4:=bj.mp h4;refine⟨fun i d hd => ?_,fun i hi=>by rw[iN]at hi;exact⟨vs,f7.of h3,by rw[h4.length];exact hi⟩⟩
   obtain⟨d',hd',rfl⟩:=jV es' 0 i d hd;obtain⟨v,hv,rv⟩:=h4.get hd';refine⟨⟨vs,v,f7.of h3,hv⟩,fun y H3 hy => ?_⟩
   obtain⟨p,rfl,hp,hy⟩:=hy;obtain⟨w,hw,rfl⟩:=hy vs (f7.of h3);rw[hv]at hw;cases hw
   exact fin s2 rv p hp
  ·have hseq:∀ Ω,eW Ω x=dB Ω x:=fun Ω=>by
    cases x with
    | tup es=>exact absurd ⟨es,rfl⟩ ht
    | _=>rfl
   rw[hseq]at hq;have r1':=r1;obtain⟨a,BG,rfl,q1,q2⟩:=bF s1 r1 hq;refine⟨a,rfl,.inl ⟨⟨BG,jc q1⟩,k1 _ H1 α1 Z1 (cg.refl s1.has) s1 ?_⟩⟩;intro α2 Z2 av H2 ds g2 s2 hs2;obtain⟨es2,h2,rfl⟩:=cu hs2;rw[hseq]at h2;have r2:=s1.dX g2 r1';obtain⟨a',vs,e,h3,h4⟩:=bF s2 r2 h2;cases e;refine⟨fun i d hd => ?_,fun i hi=>by rw[iN]at hi;exact⟨vs,jc h3,by rw[h4.length];exact hi⟩⟩
   obtain⟨d',hd',rfl⟩:=jV es2 0 i d hd;obtain⟨v,hv,rv⟩:=h4.get hd';refine⟨⟨vs,v,jc h3,hv⟩,fun y H3 hy => ?_⟩
   obtain⟨p,rfl,hp,hy⟩:=hy;obtain⟨w,hw,rfl⟩:=hy vs (jc h3);rw[hv]at hw;cases hw
   exact fin s2 rv p hp
theorem Al(G:GoodO X κ T k sc N){f:Expr->Option EM}(hf:∀ e m,f e=some m->lN X κ e m){iter:Expr}{mi:IM}(h:oa f sc iter=some mi){es:List Expr}{j:Nat}{tp:Pos}:∀ Φ,xu X κ Φ (.Tuple es j tp) iter mi:=by
 intro Φ;unfold oa at h;split at h
 ·rename_i g p a pos
  split at h
  ·rename_i hr
   obtain rfl:=eq_of_beq hr;split at h
   ·rename_i hc
    obtain⟨ca,e,rfl⟩:=cu h;obtain⟨p1,_,p4⟩:=hf a ca e;exact Ak (G.gl hc) (G.cW _ (by decide)) (by rw[bZ p4];rfl) (p1 Φ)
   ·cases h
  ·exact ly G hf h Φ _
 ·exact ly G hf h Φ _
theorem uU(G:dN X κ T k sc N){x:Str}{i:Nat}(h:pA sc N x=some i):X.N[i]?=some x/\Loc X.env.scope x:=by
 unfold pA at h;split at h
 ·rename_i hc
  simp only[Bool.and_eq_true]at hc;refine⟨by rw[G.names];exact wR h,?_⟩
  rw[G.scope];have hv:=hc.1;unfold wN at hv;unfold L2.Loc;split at hv
  ·rename_i q;exact .inl q
  ·rename_i q;exact .inr q
  ·cases hv
 ·cases h
theorem d0{f:Stmt->Option SM}(hf:∀ s c,f s=some c->lp X κ Φ s c):∀ {ss:List Stmt} {c:SM},cy f ss=some c->jm X κ Φ ss c
 | [],c,h=>by cases h;exact tw
 | s::ss,c,h=>by
  obtain⟨a,b,h1,h2,rfl⟩:=bH h;exact pP (hf s a h1) (d0 hf h2)
theorem gU(G:dN X κ T k sc N){x:Str}{i:Nat}(h:iX T sc N x=some i):X.N[i]?=some x/\Loc X.env.scope x/\(X.fn x=true\/X.env.scope.names.lookup x=some .local):=by
 unfold iX at h;split at h
 ·cases h
 ·rename_i hz
  obtain⟨a,b⟩:=uU G h;refine⟨a,b,G.Fh x ?_ (by simpa using hz)⟩
  unfold pA at h;split at h
  ·rename_i hc;simp only[Bool.and_eq_true]at hc;exact hc.1
  ·cases h
theorem lB(G:dN X κ T k sc N):∀ {nms:List (Str×Pos)} {is:List Nat},(∀ y∈nms,T.fz.contains y.1=false)->kR sc N nms=some is->is.length=nms.length/\∀ (j i:Nat) (x:Str×Pos),is[j]?=some i->nms[j]?=some x->X.N[i]?=some x.1/\Loc X.env.scope x.1/\(X.fn x.1=true\/X.env.scope.names.lookup x.1=some .local)
 | [],is,_,h=>by cases h;exact⟨rfl,fun j i x e=>by simp at e⟩
 | x::xs,is,hz,h=>by
  simp only[kR,Option.bind_eq_bind]at h;obtain⟨i,h1,h⟩:=Option.bind_eq_some_iff.mp h;obtain⟨is',h2,h⟩:=Option.bind_eq_some_iff.mp h;cases h;obtain⟨q1,q2⟩:=lB G (fun y hy=>hz y (by simp[hy])) h2
  refine⟨by rw[List.length_cons,List.length_cons,q1],fun j i' y e1 e2 => ?_⟩
  cases j with
  | zero=>
   simp at e1 e2;subst e1 e2
   exact gU G (by unfold iX;rw[if_neg (by rw[hz x (by simp)];simp)];exact h1)
  | succ j=>exact q2 j i' y (by simpa using e1) (by simpa using e2)
theorem pV(G:dN X κ T k sc N){es:List Expr}{j:Nat}{p:Pos}{nms:List (Str×Pos)}{is:List Nat}(h1:eM es=some nms)(h2:lA T sc N nms=some is):PG X (.Tuple es j p) (yO X.K is.length (je is)):=by
 obtain rfl:=jB h1
 have h2':(∀ y∈nms,T.fz.contains y.1=false)/\kR sc N nms=some is:=by
  unfold lA at h2;split at h2
  ·cases h2
  ·rename_i hz
   refine⟨fun y hy => ?_,h2⟩
   cases q:T.fz.contains y.1 with
   | false=>rfl
   | true=>exact absurd (List.any_eq_true.mpr ⟨y,hy,q⟩) hz
 obtain⟨q1,q2⟩:=lB G h2'.1 h2'.2;obtain⟨t1,t2⟩:=mK X.env nms;exact Cm G.calm (mD (nms:=nms) (by rw[G.names];exact G.oJ) is nms q1 q2) (by rw[t1,q1]) t2
theorem pW{elt:Expr}{gens:List Comprehension}{scope:Scope}{p px:Pos}{x:Str}{l:Nat}(G:dN X κ T k sc N) :
  swapsWith (.ListComp elt gens scope p) (some (.Name x px)) l X.env=pure (pB sc x px (.ListComp elt gens scope p)):=by
 have hk:X.env.blockKind=.function:=by
  show(if X.env.scope.kind.isAnnotationScope=true then ScopeKind.function else X.env.scope.kind)=_
  rw[G.scope,G.kind];rfl
 show pure (X.env.blockKind == .function && X.env.kindOf x == some .local && px.line == p.line && !(scope.names.any fun (n,k)=>n == x && (k == .local || k == .cell)))=_
 rw[hk]
 show pure (true && X.env.scope.names.lookup x == some .local && px.line == p.line && !(scope.names.any fun (n,k)=>n == x && (k == .local || k == .cell)))=_
 rw[G.scope];rfl
theorem tD(G:dN X κ T k sc N){n i:Nat}{x:Str}{px pos:Pos}{e:Expr}{m:EM}(hi:iX T sc N x=some i)(h:cG T n sc N e=some m)(hs:pB sc x px e=true->pos.line=px.line):lp X κ Φ (.Assign [.Name x px] e pos) (ay i m):=by
 obtain⟨s1,s2,s3⟩:=gU G hi;have hN:X.N.Nodup:=by rw[G.names];exact G.oJ
 have E:=eU n X sc N e m G.toGoodO h;have plain:swapsWith e (some (.Name x px)) pos.line X.env=pure false->lp X κ Φ (.Assign [.Name x px] e pos) (ay i m):=fun q=>tB hN s1 s2 s3 q (E.1 Φ)
 cases e with
 | ListComp elt gens scope p=>
  cases hb:pB sc x px (.ListComp elt gens scope p) with
  | false=>exact plain (by rw[pW G,hb])
  | true=>
   cases n with
   | zero=>cases h
   | succ n=>
   cases hg:kQ gens with
   | none=>exact lz hg h
   | some q=>
    obtain⟨y,py,iter,ifs⟩:=q;obtain rfl:=mJ hg;obtain⟨me,nc,mc,mi,cap,rfl,b1,b2,b3,b4,b5,b6⟩:=jE (fun X sc N e m G q=>eU n X sc N e m G q) G.toGoodO h
    have hl:X.env.scope.names.lookup x=some .local:=by
     rw[G.scope];unfold pB at hb;simp only[Bool.and_eq_true,beq_iff_eq]at hb;exact hb.1.1
    exact xC hN s1 hl (by rw[pW G,hb]) G.calm b1 b4 (jA 1 (by decide)) (ll (cap:=cap) (b5 Φ) b2 b3 b6) (hs hb)
 | SetComp=>cases n<;>cases h
 | DictComp=>cases n<;>cases h
 | _=>exact plain rfl
theorem Dp{e:Expr}{t:Option Expr}{l:Nat}{env:Env}(h:rj e=false):swapsWith e t l env=pure false:=by
 cases e<;>first | rfl | (cases h)
theorem j3(G:dN X κ T k sc N):∀ (n:Nat) (kk:Nat) (st:Stmt) (c:SM),iA T td kk sc N n st=some c->lp X κ Φ st c:=by
 intro n kk;have E:∀ e m,cG T kk sc N e=some m->lN X κ e m:=fun e m q=>eU kk X sc N e m G.toGoodO q
 induction n with
 | zero=>intro st c h;cases h
 | succ n ih=>
  intro st c h;have B:∀ ss c,cy (iA T td kk sc N n) ss=some c->jm X κ Φ ss c:=fun ss c q=>d0 ih q
  have hN:X.N.Nodup:=by rw[G.names];exact G.oJ
  cases st with
  | Return v pos=>
   cases v with
   | none=>cases h
   | some e=>
    replace h:some (match cG T kk sc N e with
   | some m=>aH m
   | none=>nY)=some c:=h
    cases h;split
    ·rename_i m h1
     exact n4 ((E e m h1).1 Φ)
    ·exact uQ
  | Assign ts e pos=>
   cases ts with
   | nil=>cases h
   | cons t r=>
   cases r with
   | cons t2 r=>cases t<;>cases h
   | nil=>
   cases t with
   | Name x px=>
    replace h:rD T td kk sc N x px e pos=some c:=h;unfold rD at h;split at h
    ·rename_i i hi
     ·split at h
      ·rename_i m hm
       split at h
       ·split at h
        ·rename_i hs hl
         cases h;exact tD G hi hm fun _=>eq_of_beq hl
        ·cases h
       ·rename_i hs
        cases h;exact tD G hi hm fun q=>absurd q hs
      ·cases h
    ·cases h
   | Tuple es j p=>
    replace h:rE T kk sc N es e=some c:=h;unfold rE at h;split at h
    ·rename_i nms hn
     split at h
     ·rename_i is m h1 h2
      split at h
      ·rename_i hp
       cases h;exact Af (pV G hn h1) hp ((E e m h2).1 Φ)
      ·cases h
     ·cases h
    ·cases h
   | _=>cases h
  | Expr e pos=>
   replace h:(if rj e=true then none else (cG T kk sc N e).map dZ)=some c:=h
   split at h
   ·cases h
   ·rename_i hc
    obtain⟨m,h1,rfl⟩:=cu h;exact Ae (Dp (by simpa using hc)) ((E e m h1).1 Φ)
  | If c0 a b pos=>
   obtain⟨m,y,h1,h2,rfl⟩:=bH h;obtain⟨ca,cb,h3,h4,rfl⟩:=bH h2;exact xD ((E c0 m h1).2.1 Φ) (B a ca h3) (B b cb h4)
  | While c0 b e pos=>
   cases e with
   | nil=>
    obtain⟨m,cb,h1,h2,rfl⟩:=bH h;exact mS G.own ((E c0 m h1).2.1 Φ) (B b cb h2)
   | cons _ _=>cases h
  | For tg it b e pos=>
   cases e with
   | nil=>
    cases tg with
    | Name x px=>
     replace h:(if isSet it=true then none else o2 (iX T sc N x) (o2 (gN (cG T kk sc N) sc it) (cy (iA T td kk sc N n) b) Prod.mk) fun i y=>cD (bu i) y.1 y.2)=some c:=h
     split at h
     ·cases h
     ·rename_i hs
      obtain⟨i,y,h1,h2,rfl⟩:=bH h;obtain⟨mi,cb,h3,h4,rfl⟩:=bH h2;obtain⟨s1,s2,s3⟩:=gU G h1;exact n5 G.own G.calm (ly G.toGoodO E h3 Φ _) (jS hN s1 s2 s3) (xF i) (B b cb h4) (iP (by simpa using hs))
    | Tuple es j p=>
     replace h:(if isSet it=true then none else match eM es with
   | some nms=>o2 (lA T sc N nms) (o2 (oa (cG T kk sc N) sc it) (cy (iA T td kk sc N n) b) Prod.mk) fun is y=>cD (jD is) y.1 y.2
   | none=>none)=some c:=h
     split at h
     ·cases h
     ·rename_i hs
      split at h
      ·rename_i nms hn
       obtain⟨is,y,h1,h2,rfl⟩:=bH h;obtain⟨mi,cb,h3,h4,rfl⟩:=bH h2;exact n5 G.own G.calm (Al G.toGoodO E h3 Φ) (pV G hn h1) (xG is) (B b cb h4) (iP (by simpa using hs))
      ·cases h
    | _=>cases h
   | cons _ _=>cases tg<;>cases h
  | _=>cases h
def bx(mg:Str->Option Value):Str->Addr->Prop:=fun C a=>mg C=some (.ref a)
structure bJ(P:Program)(w:World)(K:PySem.W.Frag)(mg:Str->Option Value)(base:Heap)(T:aY)(k:Nat):Prop where
 cW:∀ x∈dw,mg x=none
 iV:∀ x F,T.iV.lookup x=some F->∃ (f:Addr) (fd:FuncData) (ps:List Str),mg x=some (.ref f)/\PySem.W.keepIn K (.ref f)=true/\Binds K fd ps []/\cp P w K mg base eG k f fd ps (kI F)
 fn:∀ x F,T.fn.lookup x=some F->∃ (f:Addr) (fd:FuncData) (ps:List Str),mg x=some (.ref f)/\PySem.W.keepIn K (.ref f)=true/\Binds K fd ps []/\cp P w K mg base eG k f fd ps (c7 (bx mg) F)
 cst:∀ x d,T.cst.lookup x=some d->∃ v u,mg x=some u/\RelV v u/\fy d=some v
 met:∀ m C F,(m,C,F)∈T.met->∃ (Ca f:Addr) (fd:FuncData) (ps:List Str),(∀ a,bx mg C a->a=Ca)/\Fb K Ca/\Meth K Ca m f/\Binds K fd ps []/\cp P w K mg base eG k f fd ps (c7 (bx mg) F)
 cls:∀ C F,T.cls.lookup C=some F->∃ j,j + 1<=k/\∃ (Ca f:Addr) (fd:FuncData) (ps:List Str),bx mg C Ca/\Mk K Ca f/\mg C=some (.ref Ca)/\Binds K fd ps []/\cp P w K mg base eG j f fd ps (c7 (bx mg) F)
 fld:∀ f Cs,T.fld.lookup f=some Cs->xJ K (bx mg) Cs f
 clo:∀ j F,T.clo[j]?=some F->pQ P w K mg base (bx mg) k j F
def cV(T:aY)(td:List Str)(st:Stmt)(N:List Str):Option SM:=cy (iA T td 60 (af st) N 30) (aV st)
end
section
variable{P:Program}{w:World}{K:PySem.W.Frag}{mg:Str->Option Value}{base:Heap}{T:aY}{k:Nat}
theorem bQ(W:bJ P w K mg base T k){x qual:Str}{st:Stmt}{f:Addr}{fd:FuncData}(F:uk K x qual st f fd){N ps td:List Str}{c:SM}(hs:bL N ps (af st)=true)(hc:cV T td st N=some c) :
    cp P w K mg base eG (k + 1) f fd ps (c7 (bx mg) (bC N.length ps.length c)):=by
  refine F.ok (dP hs) (fun vs H Q E h => ?_) fun cdv A outer s H vs Q E hr h => ?_
  · obtain⟨α,Z,Ω,ds,S,r,g⟩:=h
    rw[r.length];unfold bC at g;split at g
    · rename_i hl;exact hl
    · exact g.elim
  · obtain⟨α,Z,Ω,ds,S,r,g⟩:=h
    have Sc:=dP hs
    have G:dN (cx eG P w K mg base N qual (af st) f cdv A outer s H E).jv (bx mg) T k (af st) N:=
      { scope:=rfl,names:=rfl,calm:=rfl,room:=hr,cW:=W.cW,own:=PassesOwn.never,Fh:=fun _ _ _=>.inl rfl,oJ:=Sc.nd,kind:=Sc.kind,jv:=fun _ _ _ h=>h,fld:=W.fld,cst:=W.cst
        iV:=fun x F h=>⟨W.iV x F h⟩,fn:=fun x F h=>⟨W.fn x F h⟩,met:=fun m C F h=>⟨W.met m C F h⟩,cls:=fun C F h=>let ⟨j,h1,h2⟩:=W.cls C F h;⟨j,h1,⟨h2⟩⟩,clo:=W.clo }
    refine⟨Dj (bx mg) jk α Z H c (aS N.length ds) Ω,d0 (j3 G 30 60) hc α Z H (aS N.length ds) Ω,α,Z,eT S r,?_⟩;unfold bC at g;split at g
    · cases q:c (aS N.length ds) Ω with
      | rt d aq=>rw[q]at g;exact fun v H' α' Z' gr st r=>g v H' α' Z' gr st r
      | nx ρ aq=>rw[q]at g;exact fun σ H' α' Z' S'=>g .non H' α' Z' S'.gr S'.st (ba rfl)
      | bk ρ aq=>rw[q]at g;exact g.elim
      | ct ρ aq=>rw[q]at g;exact g.elim
      | exc x aq=>rw[q]at g;exact g
      | bad=>rw[q]at g;exact g.elim
    · exact g.elim
theorem Am{F:bg}{aq:aF}{H:Hp}{a:Addr}{ns:List Int}{κ:Str->Addr->Prop}(hR:Rd H a (.lst (ns.map V.int)))(h:F [.lst (ns.map D.int)] []=.ok (.bl true) aq):c7 κ F [.ref a] H (fun v _=>v=.bl true) E0:=by
 refine⟨[],fun b=>b=a,[],[.lst (ns.map D.int)],⟨List.nodup_nil,.nil,fun _ h=>by simp at h,fun b e => ?_⟩,.one ?_,?_⟩
 ·subst e
  rcases hR with e | ⟨o,e⟩<;>rw[e]<;>simp
 ·simp only[aw]
  refine⟨a,ns.map V.int,rfl,rfl,hR,?_⟩;clear h hR
  induction ns with
  | nil=>exact bj.mpr .nil
  | cons n ns ih=>exact bj.mpr (.cons (by simp only[aw]) (bj.mp ih))
 ·rw[h]
  intro v H' α' Z' g s r;simpa only [aw] using r
theorem bJ.mono(W:bJ P w K mg base T k){j:Nat}(h:k<=j):bJ P w K mg base T j:=
 ⟨W.cW,fun x F q=>let ⟨f,fd,ps,a,b,c,d⟩:=W.iV x F q;⟨f,fd,ps,a,b,c,d.mono h⟩,fun x F q=>let ⟨f,fd,ps,a,b,c,d⟩:=W.fn x F q;⟨f,fd,ps,a,b,c,d.mono h⟩,W.cst,
  fun m C F q=>let ⟨Ca,f,fd,ps,a,b,c,d,e⟩:=W.met m C F q;⟨Ca,f,fd,ps,a,b,c,d,e.mono h⟩,fun C F q=>let ⟨j',h1,h2⟩:=W.cls C F q;⟨j',Nat.le_trans h1 h,h2⟩,W.fld,fun j F q=>(W.clo j F q).mono h⟩
end
noncomputable def aY.l6(T:aY)(x:Str)(F:List D->Out Rs):aY:={ T with iV:=(x,F)::T.iV }
noncomputable def aY.b9(T:aY)(x:Str)(F:bg):aY:={ T with fn:=(x,F)::T.fn }
noncomputable def aY.An(T:aY)(x:Str)(d:D):aY:={ T with cst:=(x,d)::T.cst }
theorem jn{β:Type}{x y:Str}{F G:β}{l:List (Str×β)}(h:((x,F)::l).lookup y=some G):(y=x/\G=F)\/l.lookup y=some G:=by
 rw[List.lookup_cons]at h;cases e:y == x with
 | true=>rw[e]at h;cases h;exact .inl ⟨eq_of_beq e,rfl⟩
 | false=>rw[e]at h;exact .inr h
section
variable{P:Program}{w:World}{K:PySem.W.Frag}{mg:Str->Option Value}{base:Heap}{T:aY}{k:Nat}
theorem bJ.start(nb:∀ x∈dw,mg x=none):bJ P w K mg base {} 0:=
 ⟨nb,fun x F h=>(by cases h),fun x F h=>(by cases h),fun x d h=>(by cases h),fun m C F h=>(by cases h),fun C F h=>(by cases h),fun f Cs h=>(by cases h),fun j F h=>(by cases h)⟩
theorem bJ.l6(W:bJ P w K mg base T k){x:Str}{F:List D->Out Rs}{f:Addr}{fd:FuncData}{ps:List Str}{j:Nat}(hm:mg x=some (.ref f))(hk:PySem.W.keepIn K (.ref f)=true)(hb:Binds K fd ps [])(h:cp P w K mg base eG j f fd ps (kI F))(hj:j<=k) :
  bJ P w K mg base (T.l6 x F) k:=
 ⟨W.cW,fun y G q=>by
  rcases jn q with ⟨rfl,rfl⟩ | q
  ·exact⟨f,fd,ps,hm,hk,hb,h.mono hj⟩
  ·exact W.iV y G q,W.fn,W.cst,W.met,W.cls,W.fld,W.clo⟩
theorem bJ.b9(W:bJ P w K mg base T k){x:Str}{F:bg}{f:Addr}{fd:FuncData}{ps:List Str}(hm:mg x=some (.ref f))(hk:PySem.W.keepIn K (.ref f)=true)(hb:Binds K fd ps [])(h:cp P w K mg base eG (k + 1) f fd ps (c7 (bx mg) F)) :
  bJ P w K mg base (T.b9 x F) (k + 1):=by
 have W':=W.mono (Nat.le_succ k)
 exact⟨W'.cW,W'.iV,fun y G q=>by
  rcases jn q with ⟨rfl,rfl⟩ | q
  ·exact⟨f,fd,ps,hm,hk,hb,h⟩
  ·exact W'.fn y G q,W'.cst,W'.met,W'.cls,W'.fld,W'.clo⟩
theorem bJ.An(W:bJ P w K mg base T k){x:Str}{d:D}{v:V}{u:Value}(h1:mg x=some u)(h2:RelV v u)(h3:fy d=some v):bJ P w K mg base (T.An x d) k:=
 ⟨W.cW,W.iV,W.fn,fun y G q=>by
  rcases jn q with ⟨rfl,rfl⟩ | q
  ·exact⟨v,u,h1,h2,h3⟩
  ·exact W.cst y G q,W.met,W.cls,W.fld,W.clo⟩
end
def GX(F:bg):Sp:=fun vs H Q E=>∀ κ,c7 κ F vs H Q E
end Mir
namespace Mir
open PySem
theorem all1{p:List Value->Prop}(h:∀ a,p [a]):∀ us:List Value,us.length=1->p us
 | [a],_=>h a
theorem GY{p:List Value->Prop}{n:Nat}(h:∀ a us,us.length=n->p (a::us))(us:List Value)(hl:us.length=n + 1):p us:=by
 cases us with
 | nil=>exact absurd hl (Nat.zero_ne_add_one n)
 | cons a r=>exact h a r (Nat.succ.inj hl)
theorem all2{p:List Value->Prop}(h:∀ a b,p [a,b]):∀ us:List Value,us.length=2->p us:=GY fun a=>all1 (h a)
theorem Ao{p:List Value->Prop}(h:∀ a b c,p [a,b,c]):∀ us:List Value,us.length=3->p us:=GY fun a=>all2 (h a)
open PySem.Spec PyProof.Rows L2
structure cO(K:PySem.W.Frag)(x:Str)(st:Stmt)(f:Addr)(fd:FuncData):Prop where
 ns:PySem.W.nsIn K mainGlobals x=some (some (.ref f))
 fn:uk K x x st f fd
theorem iY{K:PySem.W.Frag}{x:Str}{st:Stmt}{f:Addr}{oc:Value}{od an:Option Addr}{osl:Array (Option Value)}{kV doc pm cdv ct:Value}(a:PySem.W.nsIn K mainGlobals x=some (some (.ref f)))
  (l:K.lookup f=some ⟨oc,od,.func (PySem.W.fnOf x x (cj st) (aV st) (af st) .none kV doc pm an cdv ct),osl⟩) (c:PySem.W.codeIn K cdv x=true) (k:PySem.W.keepIn K (.ref f)=true):cO K x st f (PySem.W.fnOf x x (cj st) (aV st) (af st) .none kV doc pm an cdv ct):=⟨a,kz l c k⟩
def Dq:D->Bool
 | .lst ds=>ds.all eZ
 | d=>eZ d
section
variable{α:List Addr}{Z Z1:Addr->Prop}{H H1:Hp}
theorem tE{d:D}{v:V}(hf:eZ d=true)(r:Rep Z H d v):aw α Z1 H1 d v:=by
 cases d with
 | lst _=>cases hf
 | tup _=>cases hf
 | ref _=>cases hf
 | dct _ _=>cases hf
 | _=>simp only[Rep]at r;simp only[aw];exact r
theorem uV{d:D}{v:V}(hf:eZ d=true)(r:aw α Z1 H1 d v):Rep Z H d v:=by
 cases d with
 | lst _=>cases hf
 | tup _=>cases hf
 | ref _=>cases hf
 | dct _ _=>cases hf
 | _=>simp only[aw]at r;simp only[Rep];exact r
theorem pX:∀ {ds:List D} {vs:List V},ds.all eZ=true->aT Z H ds vs->dW α Z1 H1 ds vs
 | [],vs,_,r=>by simp only[aT]at r;simp only[dW];exact r
 | d::ds,vs,h,r=>by
  simp only[List.all_cons,Bool.and_eq_true]at h;simp only[aT]at r;obtain⟨v,r',e,h1,h2⟩:=r;simp only[dW];exact⟨v,r',e,tE h.1 h1,pX h.2 h2⟩
theorem GZ{d:D}{v:V}(h:Dq d=true)(r:Rep Z H d v):aw α Z H d v:=by
 cases d with
 | lst ds=>
  simp only[Rep]at r;obtain⟨a,vs,e,z,hr,rs⟩:=r;simp only[aw];exact⟨a,vs,e,z,hr,pX h rs⟩
 | tup _=>cases h
 | ref _=>cases h
 | dct _ _=>cases h
 | _=>exact tE rfl r
theorem xT:∀ {ds:List D} {vs:List V},ds.all Dq=true->aT Z H ds vs->aR (aw α Z H) ds vs
 | [],vs,_,r=>by simp only[aT]at r;subst r;exact .nil
 | d::ds,vs,h,r=>by
  simp only[List.all_cons,Bool.and_eq_true]at h;simp only[aT]at r;obtain⟨v,r',rfl,h1,h2⟩:=r;exact .cons (GZ h.1 h1) (xT h.2 h2)
end
variable [aL]
def pureOf(O:bg):List D->Out Rs:=fun ds=>if ds.all Dq=true then (match O ds [] with
  | .ok d _=>if eZ d=true then .ok (false,d) else .bad
  | _=>.bad) else .bad
section
variable{P:Program}{w:World}{K:PySem.W.Frag}{mg:Str->Option Value}{base:Heap}{k:Nat}{f:Addr}{fd:FuncData}{ps:List Str}{O:bg}
theorem j4(h:cp P w K mg base eG k f fd ps (c7 (bx mg) O)):cp P w K mg base eG k f fd ps (kI (pureOf O)):=h.imp fun vs H Q E q=>by
 obtain⟨Z,ds,own,d,dom,r,e,g⟩:=q;unfold pureOf at e
 by_cases q1:ds.all Dq=true
 ·rw[if_pos q1]at e
  refine⟨[],Z,[],ds,⟨List.nodup_nil,.nil,fun a ha=>by simp at ha,dom⟩,xT q1 r,?_⟩
  cases q2:O ds [] with
  | exc x Ω=>rw[q2]at e;cases e
  | bad=>rw[q2]at e;cases e
  | ok d1 Ω=>
   rw[q2]at e;dsimp only at e
   by_cases hf:eZ d1=true
   ·rw[if_pos hf]at e
    cases e;intro v H' α' Z' gr st rv;refine g v H' Z ⟨fun b o hb=>gr.frm b o hb (by simp),fun _ h=>h,fun _ h=>.inl h,fun a ha => ?_⟩ (.rep (uV hf rv))
    cases q3:H a with
    | none=>exact absurd q3 (dom a ha)
    | some o=>rw[gr.frm a o q3 (by simp)];simp
   ·rw[if_neg hf]at e;cases e
 ·rw[if_neg q1]at e;cases e
end
section
variable{P:Program}{w:World}{K:PySem.W.Frag}{mg:Str->Option Value}{base:Heap}{T:aY}{k:Nat}
end
end Mir
namespace Mir
open PySem PySem.Spec PyProof.Rows L2
section
variable{X:Cx}{pins:List (Addr×Obj)}{σ:L2.St}{s:Shared}
end
variable [aL]
section
variable{κ:Str->Addr->Prop}{α aG:List Addr}{Z Z0:Addr->Prop}{Ω:aF}{H H0 H2:Hp}{ρ:aU}{σ:L2.St}
end
section
variable{P:Program}{w:World}{K:PySem.W.Frag}{mg:Str->Option Value}{base:Heap}{T T2:aY}{k:Nat}
end
section
variable{P:Program}{w:World}{K:PySem.W.Frag}{mg:Str->Option Value}{base:Heap}{T:aY}{k:Nat}
end
end Mir
namespace Mir
open PySem L2
section
variable{α β:Type}{Ω aq:aF}{ρ:aU}{d x y:D}{ma mb mc mi:EM}{as:AM}{a b:SM}
@[simp] theorem aQ{a:α}{f:α->aF->ax β}:(ax.ok a Ω).bind f=f a Ω:=rfl
@[simp] theorem M9{f:α->aF->ax β}:(ax.exc x Ω:ax α).bind f=.exc x Ω:=rfl
@[simp] theorem M_{f:α->aF->ax β}:(ax.bad:ax α).bind f=.bad:=rfl
@[simp] theorem eh{a:α}{k:α->aF->gM}:dC (.ok a Ω) k=k a Ω:=rfl
@[simp] theorem Na{k:α->aF->gM}:dC (.exc x Ω:ax α) k=.exc x Ω:=rfl
@[simp] theorem Nb{k:α->aF->gM}:dC (.bad:ax α) k=.bad:=rfl
@[simp] theorem QD{b:ax D}:lM (.ok d Ω) b=.ok d Ω:=rfl
@[simp] theorem Nc{b:ax D}:lM (.exc d Ω) b=.exc d Ω:=rfl
@[simp] theorem Nd{b:ax D}:lM .bad b=b:=rfl
@[simp] theorem tF{f:D->aF->ax D}:m1 f ma ρ Ω=(ma ρ Ω).bind f:=rfl
@[simp] theorem dm{f:D->D->aF->ax D}:m2 f ma mb ρ Ω=(ma ρ Ω).bind fun x ak=>(mb ρ ak).bind fun y av=>f x y av:=rfl
@[simp] theorem BL{f:List D->aF->ax D}:mN f as ρ Ω=(as ρ Ω).bind f:=rfl
@[simp] theorem j5:aj ρ Ω=.ok [] Ω:=rfl
@[simp] theorem d7:aa ma as ρ Ω=(ma ρ Ω).bind fun x ak=>(as ρ ak).bind fun xs av=>.ok (x::xs) av:=rfl
noncomputable def vr:Option (Option D)->aF->ax D
 | some (some d),Ω=>.ok d Ω
 | _,_=>.bad
@[simp] theorem fV:vr (some (some d)) Ω=.ok d Ω:=rfl
@[simp] theorem fc{i:Nat}:U i ρ Ω=vr ρ[i]? Ω:=by
 unfold U;cases ρ[i]? with
 | none=>rfl
 | some o=>cases o<;>rfl
@[simp] theorem tG:ae d ρ Ω=.ok d Ω:=rfl
@[simp] theorem et{c:Cell}:l5 Ω c=.ok (.ref Ω.length) (Ω++[c]):=rfl
noncomputable def tb(Ω:aF):Option Bool->ax Bool
 | some b=>.ok b Ω
 | none=>.bad
@[simp] theorem og{t:Bool}:tb Ω (some t)=.ok t Ω:=rfl
@[simp] theorem oh:dJ (.ok d Ω)=tb Ω (fm Ω d):=by simp only[dJ];cases fm Ω d<;>rfl
@[simp] theorem da{t:Bool}:fm Ω (.bl t)=some t:=rfl
@[simp] theorem G1:fm Ω .non=some false:=rfl
@[simp] theorem G2{i:Int}:fm Ω (.int i)=some (i != 0):=rfl
noncomputable def E8(t:Option Bool)(a b:ax D):ax D:=match t with
 | some true=>a
 | some false=>b
 | none=>.bad
@[simp] theorem tH{a b:ax D}:Mir.E8 (some true) a b=a:=rfl
@[simp] theorem pY{a b:ax D}:Mir.E8 (some false) a b=b:=rfl
@[simp] theorem iZ:cR ma mb ρ Ω=(ma ρ Ω).bind fun x ak=>Mir.E8 (fm ak x) (mb ρ ak) (.ok x ak):=by
 unfold cR;cases ma ρ Ω with
 | ok x ak=>
  simp only[aQ];cases fm ak x with
  | none=>rfl
  | some t=>cases t<;>rfl
 | exc x ak=>rfl
 | bad=>rfl
@[simp] theorem lD:fE ma mb ρ Ω=(ma ρ Ω).bind fun x ak=>Mir.E8 (fm ak x) (.ok x ak) (mb ρ ak):=by
 unfold fE;cases ma ρ Ω with
 | ok x ak=>
  simp only[aQ];cases fm ak x with
  | none=>rfl
  | some t=>cases t<;>rfl
 | exc x ak=>rfl
 | bad=>rfl
@[simp] theorem j6:bW ma ρ Ω=(dJ (ma ρ Ω)).bind fun t ak=>.ok (.bl (!t)) ak:=rfl
@[simp] theorem Dr:Fg mc ma mb ρ Ω=(dJ (mc ρ Ω)).bind fun t ak=>if t=true then ma ρ ak else mb ρ ak:=rfl
@[simp] theorem Ap{f g:D->aF->ax D}:C3 f g x Ω=lM (f x Ω) (g x Ω):=rfl
@[simp] theorem gW{f g:D->D->aF->ax D}:fD f g x y Ω=lM (f x y Ω) (g x y Ω):=rfl
@[simp] theorem Ks{f g:List D->aF->ax D}{xs:List D}:uJ f g xs Ω=lM (f xs Ω) (g xs Ω):=rfl
@[simp] theorem Kt{f g:EM}:nO f g ρ Ω=lM (f ρ Ω) (g ρ Ω):=rfl
@[simp] theorem Ku{n:Nat}:fj Ω n .non=some .non:=by cases n<;>rfl
@[simp] theorem Ds{n:Nat}{t:Bool}:fj Ω n (.bl t)=some (.bl t):=by cases n<;>rfl
@[simp] theorem Aq{n:Nat}{i:Int}:fj Ω n (.int i)=some (.int i):=by cases n<;>rfl
@[simp] theorem oi{n:Nat}{z:Str}:fj Ω n (.str z)=some (.str z):=by cases n<;>rfl
@[simp] theorem Nf{f:α->Option β}:bT f []=some []:=rfl
noncomputable def oc:Option α->Option (List α)->Option (List α)
 | some y,some ys=>some (y::ys)
 | _,_=>none
@[simp] theorem Kv{y:α}{ys:List α}:oc (some y) (some ys)=some (y::ys):=rfl
@[simp] theorem j7{f:α->Option β}{x:α}{xs:List α}:bT f (x::xs)=oc (f x) (bT f xs):=by
 simp only[bT];cases f x<;>cases bT f xs<;>rfl
theorem oj{γ:Type}{f:β->Option γ}{g:α->β}{h:α->γ}(e:∀ x,f (g x)=some (h x)):∀ xs:List α,bT f (xs.map g)=some (xs.map h)
 | []=>rfl
 | x::xs=>by rw[List.map_cons,j7,e,oj e xs];rfl
@[simp] theorem Ar{n:Nat}{xs:List Str}:bT (fj Ω n) (xs.map .str)=some (xs.map .str):=oj (fun _=>oi) xs
@[simp] theorem om{n:Nat}{xs:List Int}:bT (fj Ω n) (xs.map .int)=some (xs.map .int):=oj (fun _=>Aq) xs
theorem As{n:Nat}{ds es:List D}(h:bT (fj Ω n) ds=some es):fj Ω (n + 1) (.lst ds)=some (.lst es):=by simp only[fj,h,Option.map_some]
theorem gX{n k:Nat}{ds es:List D}(hk:Ω[k]?=some (.lst ds))(h:bT (fj Ω n) ds=some es):fj Ω (n + 1) (.ref k)=some (.lst es):=by simp only[fj,hk,h,Option.map_some]
theorem c8{n k:Nat}{xs:List Str}(hk:Ω[k]?=some (.lst (xs.map .str))):fj Ω (n + 1) (.ref k)=some (L1 xs):=gX hk Ar
@[simp] theorem Ng{n:Nat}{ns:List Int}:fj Ω (n + 1) (SC ns)=some (SC ns):=As om
@[simp] theorem Kw{o:Bool}{i:Int}:fk Ω (.ok (o,.int i))=.ok (.int i) Ω:=rfl
@[simp] theorem rF{o:Bool}{t:Bool}:fk Ω (.ok (o,.bl t))=.ok (.bl t) Ω:=rfl
@[simp] theorem Au{o:Bool}{z:Str}:fk Ω (.ok (o,.str z))=.ok (.str z) Ω:=rfl
@[simp] theorem Kx{o:Bool}:fk Ω (.ok (o,.non))=.ok .non Ω:=rfl
@[simp] theorem Ky:fk Ω .bad=.bad:=rfl
def vN(Ω:aF)(f:List D->Out Rs):Option (List D)->ax D
 | some ds=>fk Ω (f ds)
 | none=>.bad
@[simp] theorem oo{f:List D->Out Rs}{ds:List D}:vN Ω f (some ds)=fk Ω (f ds):=rfl
@[simp] theorem i5{f:List D->Out Rs}{xs:List D}:bo f xs Ω=vN Ω f (bT (fj Ω 8) xs):=by unfold bo;cases bT (fj Ω 8) xs<;>rfl
def v1(Ω:aF)(f:D->Out Rs):Option D->ax D
 | some d=>fk Ω (f d)
 | none=>.bad
@[simp] theorem Kz{f:D->Out Rs}:v1 Ω f (some d)=fk Ω (f d):=rfl
@[simp] theorem KC{f:D->Out Rs}:ji f x Ω=v1 Ω f (fj Ω 8 x):=by unfold ji;cases fj Ω 8 x<;>rfl
def v2(Ω:aF)(f:D->D->Out Rs):Option D->Option D->ax D
 | some d,some e=>fk Ω (f d e)
 | _,_=>.bad
@[simp] theorem gY{f:D->D->Out Rs}{e:D}:v2 Ω f (some d) (some e)=fk Ω (f d e):=rfl
@[simp] theorem j8{f:D->D->Out Rs}:fT f x y Ω=v2 Ω f (fj Ω 8 x) (fj Ω 8 y):=by unfold fT;cases fj Ω 8 x<;>cases fj Ω 8 y<;>rfl
@[simp] theorem G3{z:Str}:pI .len [.str z]=if small z.length=true then .ok (false,.int z.length) else .bad:=rfl
@[simp] theorem pZ{xs:List D}:pI .all [.lst xs]=w6 (fun bs=>bs.all id) (fx xs):=rfl
@[simp] theorem G4{xs:List D}:pI .any [.lst xs]=w6 (fun bs=>bs.any id) (fx xs):=rfl
@[simp] theorem G5{i:Int}:pI .int [.int i]=.ok (false,.int i):=rfl
@[simp] theorem KD{k:Bool}:pI .int [.bl k]=.ok (false,.int (if k then 1 else 0)):=rfl
@[simp] theorem G6{i j:Int}:pI .min [.int i,.int j]=.ok (false,.int (if j < i then j else i)):=rfl
@[simp] theorem G7{F:bg}{xs:List D}:aP F xs Ω=vc (F xs Ω):=rfl
@[simp] theorem Nh:vc (.ok d Ω)=.ok d Ω:=rfl
@[simp] theorem j9{op:CmpOp}:cC op x y Ω=v2 Ω (fun x y=>do let r ← ek op x y;Out.ok (false,D.bl r)) (fj Ω 8 x) (fj Ω 8 y):=by unfold cC;rw[j8]
@[simp] theorem fe:au .Eq x y Ω=cC .Eq x y Ω:=rfl
@[simp] theorem dS:au .NotEq x y Ω=cC .NotEq x y Ω:=rfl
@[simp] theorem Av:au .Lt x y Ω=cC .Lt x y Ω:=rfl
@[simp] theorem KG:au .LtE x y Ω=cC .LtE x y Ω:=rfl
@[simp] theorem KH:au .Gt x y Ω=cC .Gt x y Ω:=rfl
@[simp] theorem KI:au .GtE x y Ω=cC .GtE x y Ω:=rfl
@[simp] theorem j_:au .In x y Ω=lM (cC .In x y Ω) (iz false x y Ω):=rfl
@[simp] theorem dO:au .NotIn x y Ω=lM (cC .NotIn x y Ω) (iz true x y Ω):=rfl
@[simp] theorem KJ:au .Is x y Ω=lM (ft false x y Ω) (cC .Is x y Ω):=rfl
@[simp] theorem Dt:au .IsNot x y Ω=lM (ft true x y Ω) (cC .IsNot x y Ω):=rfl
@[simp] theorem G8{n:Bool}{k:Nat}:ft n (.ref k) .non Ω=.ok (.bl n) Ω:=rfl
@[simp] theorem Fi{n:Bool}{i:Int}:ft n (.int i) y Ω=.bad:=rfl
@[simp] theorem Fj{n:Bool}:ft n .non y Ω=.bad:=rfl
@[simp] theorem G9{n:Bool}{t:Bool}:ft n (.bl t) y Ω=.bad:=rfl
@[simp] theorem Fl{n:Bool}{z:Str}:ft n (.str z) y Ω=.bad:=rfl
@[simp] theorem p7:aJ .Add x y Ω=lM (rn x y Ω) (lM (nQ x y Ω) (fT (fw .Add) x y Ω)):=rfl
@[simp] theorem G_{i:Int}:nQ (.int i) y Ω=.bad:=rfl
@[simp] theorem Ha{z:Str}:nQ (.str z) y Ω=.bad:=rfl
@[simp] theorem Hc{k:Nat}:nQ (.ref k) y Ω=.bad:=rfl
@[simp] theorem Hd{xs ys:List D}:nQ (.tup xs) (.tup ys) Ω=if small (xs.length + ys.length) then .ok (.tup (xs++ys)) Ω else .bad:=rfl
@[simp] theorem He:aJ .Sub x y Ω=fT (fw .Sub) x y Ω:=rfl
@[simp] theorem Fm:aJ .Mult x y Ω=fT (fw .Mult) x y Ω:=rfl
@[simp] theorem Hf:aJ .Mod x y Ω=fT (fw .Mod) x y Ω:=rfl
@[simp] theorem KL:aJ .FloorDiv x y Ω=fT (fw .FloorDiv) x y Ω:=rfl
@[simp] theorem KN{i:Int}:dB Ω (.int i)=none:=rfl
@[simp] theorem KO{z:Str}:dB Ω (.str z)=none:=rfl
@[simp] theorem KP{ds:List D}:dB Ω (.tup ds)=none:=rfl
@[simp] theorem KQ{ds:List D}:dB Ω (.lst ds)=some ds:=rfl
theorem aD{k:Nat}{ds:List D}(h:Ω[k]?=some (.lst ds)):dB Ω (.ref k)=some ds:=by simp only[dB,h]
theorem tI{k:Nat}{ds:List D}(h:Ω[k]?=some (.lst ds)):uL Ω (.ref k)=some (k,ds):=by simp only[uL,h]
def ct(Ω:aF):Option (List D)->Option (List D)->ax D
 | some xs,some ys=>if small (xs.length + ys.length) then .ok (.ref Ω.length) (Ω++[.lst (xs++ys)]) else .bad
 | _,_=>.bad
@[simp] theorem tJ{xs ys:List D}:ct Ω (some xs) (some ys)=if small (xs.length + ys.length) then .ok (.ref Ω.length) (Ω++[.lst (xs++ys)]) else .bad:=rfl
@[simp] theorem QE{o:Option (List D)}:ct Ω none o=.bad:=rfl
@[simp] theorem tK:rn x y Ω=ct Ω (dB Ω x) (dB Ω y):=by unfold rn;cases dB Ω x<;>cases dB Ω y<;>rfl
@[simp] theorem Aw{ds:List D}:eW Ω (.tup ds)=some ds:=rfl
@[simp] theorem aN{k:Nat}:eW Ω (.ref k)=dB Ω (.ref k):=rfl
@[simp] theorem KR{ds:List D}:eW Ω (.lst ds)=some ds:=rfl
def ixs(Ω:aF):Option (List D)->D->ax D
 | some ds,.int i=>match L2.i9 ds i with
  | some d=>.ok d Ω
  | none=>.bad
 | _,_=>.bad
theorem ka:zN x y Ω=ixs Ω (eW Ω x) y:=by unfold zN;cases eW Ω x<;>cases y<;>rfl
theorem rG{ds:List D}{i:Int}(h:L2.i9 ds i=some d):ixs Ω (some ds) (.int i)=.ok d Ω:=by simp only[ixs,h]
theorem bq{k:Nat}{ds:List D}{i:Int}(h:Ω[k]?=some (.lst ds))(hi:L2.i9 ds i=some d):aA (.ref k) (.int i) Ω=.ok d Ω:=by
 unfold aA;rw[gW,ka,aN,aD h,rG hi];rfl
theorem eV{ds:List D}{i:Int}(hi:L2.i9 ds i=some d):aA (.tup ds) (.int i) Ω=.ok d Ω:=by
 unfold aA;rw[gW,ka,Aw,rG hi];rfl
@[simp] theorem KS{xs:List D}:bA xs Ω=if small xs.length then .ok (.ref Ω.length) (Ω++[.lst xs]) else .bad:=rfl
@[simp] theorem KU{xs:List D}:pG xs Ω=if small xs.length then .ok (.tup xs) Ω else .bad:=rfl
def fl(Ω:aF)(Cs:List Str)(f:Str):Option (Nat×Str×List (Str×D))->ax D
 | some (_,C,fs)=>if Cs.contains C then (match fs.lookup f with
  | some d=>.ok d Ω
  | none=>.bad) else .bad
 | none=>.bad
noncomputable def sq(r:gM)(b:SM):gM:=match r with
 | .nx bB aq=>b bB aq
 | r=>r
@[simp] theorem aE:sq (.nx ρ Ω) b=b ρ Ω:=rfl
@[simp] theorem Hg:sq (.rt d Ω) b=.rt d Ω:=rfl
@[simp] theorem QF:sq (.bk ρ Ω) b=.bk ρ Ω:=rfl
@[simp] theorem QG:sq (.ct ρ Ω) b=.ct ρ Ω:=rfl
@[simp] theorem Ni:sq (.exc d Ω) b=.exc d Ω:=rfl
@[simp] theorem Nj:sq .bad b=.bad:=rfl
@[simp] theorem ai:ah a b ρ Ω=sq (a ρ Ω) b:=by unfold ah;cases a ρ Ω<;>rfl
@[simp] theorem lE:ag ρ Ω=.nx ρ Ω:=rfl
@[simp] theorem bD{i:Nat}:ay i ma ρ Ω=dC (ma ρ Ω) fun d ak=>.nx (ρ.set i (some d)) ak:=rfl
@[simp] theorem ff:dZ ma ρ Ω=dC (ma ρ Ω) fun _ ak=>.nx ρ ak:=rfl
@[simp] theorem cU:aH ma ρ Ω=dC (ma ρ Ω) fun d ak=>.rt d ak:=rfl
@[simp] theorem bU:b8 ma a b ρ Ω=dC (dJ (ma ρ Ω)) fun t ak=>if t=true then a ρ ak else b ρ ak:=rfl
@[simp] theorem Ax{is:List Nat}:uP is ma ρ Ω=dC (ma ρ Ω) fun d ak=>match jD is d ρ with | some bB=>.nx bB ak | none=>.bad:=rfl
@[simp] theorem BN{ds:List D}:jZ [] ds ρ=ρ:=by cases ds<;>rfl
@[simp] theorem Ay:eS (.rt d Ω)=.ok d Ω:=rfl
@[simp] theorem KW:eS (.nx ρ Ω)=.ok .non Ω:=rfl
theorem bK{n k:Nat}{c:SM}{ds:List D}(h:ds.length=k):bC n k c ds Ω=eS (c (aS n ds) Ω):=by unfold bC;rw[if_pos h]
@[simp] theorem cm:aZ ma ρ Ω=(ma ρ Ω).bind fun x ak=>srcOf ak x:=rfl
theorem bb{ds:List D}(h:eW Ω x=some ds):srcOf Ω x=.ok (.seq x) Ω:=by unfold srcOf;rw[h]
@[simp] theorem Hh:bt as ρ Ω=(as ρ Ω).bind tm:=rfl
@[simp] theorem KY{j:Int}:tm [.int j] Ω=if hU j then .ok (.ints 0 j.toNat) Ω else .bad:=rfl
@[simp] theorem bV:ia (.seq x) Ω=eW Ω x:=rfl
@[simp] theorem Hi{lo:Int}{n:Nat}:ia (.ints lo n) Ω=some (intsFrom lo n):=rfl
@[simp] theorem dc{put:D->aU->Option aU}{mi:IM}:cD put mi b ρ Ω=dC (mi ρ Ω) fun s ak=>fb put s b fuel 0 ρ ak:=rfl
def BO(r:gM)(I:aU->aF->Prop)(R:gM->Prop):Prop:=match r with
 | .nx ρ Ω=>I ρ Ω
 | .ct ρ Ω=>I ρ Ω
 | .bk ρ Ω=>R (.nx ρ Ω)
 | r=>R r
theorem cw{put:D->aU->Option aU}{src:Src}{b:SM}{ds:List D}(I:Nat->aU->aF->Prop){R:gM->Prop}(Nk:∀ i ρ Ω,I i ρ Ω->ia src Ω=some ds)
  (h:∀ (i:Nat) (d:D) ρ Ω,ds[i]?=some d->I i ρ Ω->∃ yA,put d ρ=some yA/\BO (b yA Ω) (I (i + 1)) R) (hR:∀ ρ Ω,I ds.length ρ Ω->R (.nx ρ Ω)) :
  ∀ (f i:Nat) ρ Ω,ds.length - i < f->i<=ds.length->I i ρ Ω->R (fb put src b f i ρ Ω):=by
 intro f
 induction f with
 | zero=>intro i ρ Ω hf;omega
 | succ f ih=>
  intro i ρ Ω hf hi h0;simp only[fb,Nk i ρ Ω h0]
  by_cases hlt:i < ds.length
  ·have hd:ds[i]?=some ds[i]:=List.getElem?_eq_getElem hlt
   rw[hd];dsimp only;obtain⟨yA,e1,e2⟩:=h i ds[i] ρ Ω hd h0;rw[e1];dsimp only;cases q:b yA Ω with
   | nx bB aq=>rw[q]at e2;exact ih (i + 1) bB aq (by omega) hlt e2
   | ct bB aq=>rw[q]at e2;exact ih (i + 1) bB aq (by omega) hlt e2
   | bk bB aq=>rw[q]at e2;exact e2
   | rt d aq=>rw[q]at e2;exact e2
   | exc x aq=>rw[q]at e2;exact e2
   | bad=>rw[q]at e2;exact e2
  ·have hd:ds[i]?=none:=List.getElem?_eq_none (by omega)
   rw[hd];have:i=ds.length:=by omega
   subst this;exact hR ρ Ω h0
theorem Az{nc:Bool}{mc me:EM}{τ:aU}{src:Src}{ds:List D}{p:D->Bool}{g:D->D}(hs:ia src Ω=some ds)(hc:∀ d∈ds,gK nc mc ([some d]++τ) Ω=.ok (p d) Ω)(he:∀ d∈ds,p d=true->me ([some d]++τ) Ω=.ok (g d) Ω) :
  ∀ (f i:Nat) (acc:List D),ds.length - i < f->i<=ds.length->acc.length + ds.length<=100000 + i->tq nc mc me 0 τ src f i acc Ω=.ok (acc++((ds.drop i).filter p).map g) Ω:=by
 intro f
 induction f with
 | zero=>intro i acc hf;omega
 | succ f ih=>
  intro i acc hf hi ha;simp only[tq,hs]
  by_cases hlt:i < ds.length
  ·have hd:ds[i]?=some ds[i]:=List.getElem?_eq_getElem hlt
   have hm:ds[i]∈ds:=List.getElem_mem hlt;rw[hd];have ht:nX 0 ds[i]=some [some ds[i]]:=rfl;simp only[ht];rw[if_pos (aW (n:=acc.length + 1) (by omega)),hc _ hm,List.drop_eq_getElem_cons hlt,List.filter_cons]
   cases hp:p ds[i] with
   | true=>
    dsimp only;rw[he _ hm hp];dsimp only;rw[ih (i + 1) _ (by omega) hlt (by rw[List.length_append];simp;omega)]
    simp
   | false=>
    dsimp only;rw[ih (i + 1) _ (by omega) hlt (by omega)]
    simp
  ·have hd:ds[i]?=none:=List.getElem?_eq_none (by omega)
   rw[hd,List.drop_of_length_le (by omega)]
   simp
theorem cH{me mc:EM}{nc:Bool}{mi:IM}{cap:List Nat}{src:Src}{ds:List D}{p:D->Bool}{g:D->D}(hi:mi ρ Ω=.ok src aq)(hs:ia src aq=some ds)(hc:∀ d∈ds,gK nc mc ([some d]++dh cap ρ) aq=.ok (p d) aq)(he:∀ d∈ds,p d=true->me ([some d]++dh cap ρ) aq=.ok (g d) aq)(hl:ds.length<=90000) :
  bp me nc mc mi 0 cap ρ Ω=.ok (.ref aq.length) (aq++[.lst ((ds.filter p).map g)]):=by
 unfold bp;rw[hi];dsimp only;rw[Az hs hc he fuel 0 [] (by unfold fuel;omega) (Nat.zero_le _) (by simp;omega)]
 rfl
theorem kb{k:Nat}{c:Cell}{l:aF}(h:Ω[k]?=some c):(Ω++l)[k]?=some c:=by rw[List.getElem?_append_left (List.getElem?_eq_some_iff.mp h).1];exact h
theorem az{c:Cell}{l:aF}:(Ω++c::l)[Ω.length]?=some c:=by rw[List.getElem?_append_right (Nat.le_refl _)];simp
theorem fW{j k:Nat}{c e:Cell}(h:Ω[k]?=some c)(hn:k≠j):(Ω.set j e)[k]?=some c:=by rw[List.getElem?_set_ne (Ne.symm hn)];exact h
theorem cE{k:Nat}{c e:Cell}(h:Ω[k]?=some c):(Ω.set k e)[k]?=some e:=List.getElem?_set_self (List.getElem?_eq_some_iff.mp h).1
theorem dj{k:Nat}{c:Cell}(h:Ω[k]?=some c):k < Ω.length:=(List.getElem?_eq_some_iff.mp h).1
structure ao(fp:List Nat)(Ω aq:aF):Prop where
 len:Ω.length<=aq.length
 get:∀ k c,Ω[k]?=some c->k∉fp->aq[k]?=some c
theorem ao.refl{fp:List Nat}:ao fp Ω Ω:=⟨Nat.le_refl _,fun _ _ h _=>h⟩
theorem ao.trans{fp:List Nat}{ak av aM:aF}(h:ao fp ak av)(h':ao fp av aM):ao fp ak aM:=⟨Nat.le_trans h.len h'.len,fun k c q n=>h'.get k c (h.get k c q n) n⟩
theorem ao.app{fp:List Nat}{l:aF}:ao fp Ω (Ω++l):=⟨by simp,fun k c h _=>kb h⟩
theorem ao.set{fp:List Nat}{j:Nat}{c:Cell}(h:j∈fp):ao fp Ω (Ω.set j c):=⟨by simp,fun k e q n=>fW q fun z=>n (z▸h)⟩
theorem ao.sub{fp fq:List Nat}(h:ao fp Ω aq)(hs:∀ k∈fp,k∈fq):ao fq Ω aq:=⟨h.len,fun k c q n=>h.get k c q fun z=>n (hs k z)⟩
end
section
variable{Ω aq:aF}{ρ:aU}{d x y:D}{k:Nat}{ws:List Str}{w:Str}{L:List (List Str)}{rs:List Nat}
theorem de{ds:List D}(h:Ω[k]?=some (.lst ds)):aX .len [.ref k] Ω=.ok (.int ds.length) Ω:=by
 show lM (xh [.ref k] Ω) _=_
 simp only[xh,aN,aD h];rfl
theorem cP{ds:List D}{d:D}(h:Ω[k]?=some (.lst ds))(hs:ds.length<=1000):bf (.ref k) [d] Ω=.ok .non (Ω.set k (.lst (ds++[d]))):=by
 simp only[bf,tI h];rw[if_pos (aW (by omega))]
theorem df{ds:List D}(h:Ω[k]?=some (.lst ds)):eX Ω (.ref k)=true:=by simp only[eX,aD h];rfl
theorem lF(h:Ω[k]?=some (.lst (ws.map .str))):au .In (.str w) (.ref k) Ω=.ok (.bl (decide (w∈ws))) Ω:=by
 simp[c8 (n:=7) h]
theorem gZ(h:Ω[k]?=some (.lst (ws.map .str))):au .NotIn (.str w) (.ref k) Ω=.ok (.bl (!decide (w∈ws))) Ω:=by
 simp[c8 (n:=7) h]
theorem Hj{α β:Type}[BEq α][LawfulBEq α]{f:α->β}{p:β->Bool}{a:α}(hp:∀ b,p (f b)=(b == a)):∀ (xs:List α),a∈xs->(xs.map f).findIdx? p=some (xs.idxOf a)
 | [],h=>by simp at h
 | b::xs,h=>by
  rw[List.map_cons,List.findIdx?_cons,hp,List.idxOf_cons];cases e:b == a with
  | true=>rfl
  | false=>
   have hm:a∈xs:=by
    rcases List.mem_cons.mp h with z | z
    ·rw[z,beq_self_eq_true]at e;cases e
    ·exact z
   simp[Hj hp xs hm]
theorem rH(h:w∈ws):nv .index (.lst (ws.map .str)) (.tup [.str w])=.ok (false,.int (ws.idxOf w:Nat)):=by
 have e:(ws.map D.str).findIdx? (fun y=>ej y (.str w))=some (ws.idxOf w):=Hj (fun b=>rfl) ws h
 unfold nv;simp only[nL 8 ws,e];rfl
theorem g7(h:Ω[k]?=some (.lst (ws.map .str)))(hw:w∈ws):cq (.ref k) [.str w] Ω=.ok (.int (ws.idxOf w:Nat)) Ω:=by
 have:=rH hw;simp only[cq,j8,c8 (n:=7) h,oi,gY,L1,this];rfl
theorem gO{n:Nat}(hk:Ω[k]?=some (.lst (rs.map .ref)))(h:aR (fun j row=>Ω[j]?=some (.lst (row.map .str))) rs L):fj Ω (n + 2) (.ref k)=some (LL L):=by
 refine gX (es:=L.map L1) hk ?_;clear hk
 induction h with
 | nil=>rfl
 | cons h1 h2 ih=>rw[List.map_cons,j7,c8 h1,ih];rfl
theorem Hk{mc me:EM}{τ:aU}{src:Src}{ds:List D}{g:D->D}(I:aF->Prop)(hs:∀ Ω,I Ω->ia src Ω=some ds)(he:∀ d∈ds,∀ Ω,I Ω->∃ aq,me ([some d]++τ) Ω=.ok (g d) aq/\I aq) :
  ∀ (f i:Nat) (acc:List D) Ω,I Ω->ds.length - i < f->i<=ds.length->acc.length + ds.length<=100000 + i->∃ aq,tq true mc me 0 τ src f i acc Ω=.ok (acc++(ds.drop i).map g) aq/\I aq:=by
 intro f
 induction f with
 | zero=>intro i acc Ω h0 hf;omega
 | succ f ih=>
  intro i acc Ω h0 hf hi ha;simp only[tq,hs Ω h0]
  by_cases hlt:i < ds.length
  ·have hd:ds[i]?=some ds[i]:=List.getElem?_eq_getElem hlt
   have hm:ds[i]∈ds:=List.getElem_mem hlt;rw[hd];have ht:nX 0 ds[i]=some [some ds[i]]:=rfl;obtain⟨ak,e1,h1⟩:=he _ hm Ω h0;have hc:gK true mc ([some ds[i]]++τ) Ω=.ok true Ω:=rfl;simp only[ht];rw[if_pos (aW (n:=acc.length + 1) (by omega)),hc,List.drop_eq_getElem_cons hlt]
   dsimp only;rw[e1];dsimp only;obtain⟨av,e2,h2⟩:=ih (i + 1) (acc++[g ds[i]]) ak h1 (by omega) hlt (by rw[List.length_append];simp;omega)
   exact⟨av,by rw[e2,List.append_assoc];rfl,h2⟩
  ·have hd:ds[i]?=none:=List.getElem?_eq_none (by omega)
   rw[hd,List.drop_of_length_le (by omega)]
   exact⟨Ω,by simp,h0⟩
theorem Du{me mc:EM}{mi:IM}{cap:List Nat}{src:Src}{ds:List D}{g:D->D}(I:aF->Prop)(hi:mi ρ Ω=.ok src aq)(h0:I aq)(hs:∀ Ω,I Ω->ia src Ω=some ds)(he:∀ d∈ds,∀ Ω,I Ω->∃ aq,me ([some d]++dh cap ρ) Ω=.ok (g d) aq/\I aq)(hl:ds.length<=90000) :
  ∃ av,bp me true mc mi 0 cap ρ Ω=.ok (.ref av.length) (av++[.lst (ds.map g)])/\I av:=by
 obtain⟨av,e2,h2⟩:=Hk (mc:=mc) I hs he fuel 0 [] aq h0 (by unfold fuel;omega) (Nat.zero_le _) (by simp;omega)
 refine⟨av,?_,h2⟩;unfold bp;rw[hi];dsimp only;rw[e2];rfl
theorem dE{BI:aF->D->Bool}{f:D->List D->aF->ax D}{mo:EM}{as:AM}(ho:mo ρ Ω=.ok x aq)(h:BI aq x=true):bP BI f mo as ρ Ω=(as ρ aq).bind fun xs av=>f x xs av:=by
 unfold bP;rw[ho]
 show(if BI aq x=true then _ else _)=_
 rw[if_pos h]
end
variable [aL]
section
variable{Ω aq ak av:aF}{ρ:aU}{k q:Nat}{x y:D}
theorem ao.new{fp:List Nat}(h:ao [] Ω ak)(h':ao fp ak av)(hf:∀ j∈fp,Ω.length<=j):ao [] Ω av:=⟨Nat.le_trans h.len h'.len,fun k c e _=>h'.get k c (h.get k c e (by simp)) fun z=>by have:=hf k z;have:=dj e;omega⟩
theorem il.up{fp:List Nat}(h:ao [] Ω aq):ao fp Ω aq:=h.sub (by simp)
@[simp] theorem Hl{z:Str}:aA (.str z) y Ω=v2 Ω qQ (some (.str z)) (fj Ω 8 y):=by
 unfold aA;rw[gW,gW,ka,j8];simp[eW,dB,ixs,GO,C5]
@[simp] theorem Hm{z:Str}{l h:Option Int}:gH (.str z) l h Ω=fk Ω (v9 (.str z) l h):=rfl
@[simp] theorem lG{ma ml mh:EM}{nl nh:Bool}:b_ ma nl ml nh mh ρ Ω=(ma ρ Ω).bind fun x ak=>(gG nl ml ρ ak).bind fun l av=>(gG nh mh ρ av).bind fun h aM=>gH x l h aM:=rfl
@[simp] theorem oq{m:EM}:gG true m ρ Ω=.ok none Ω:=rfl
noncomputable def QH(Ω:aF):D->ax (Option Int)
 | .int i=>.ok (some i) Ω
 | _=>.bad
@[simp] theorem ou{m:EM}:gG false m ρ Ω=(m ρ Ω).bind fun d ak=>QH ak d:=by
 simp only[gG,Bool.false_eq_true,if_false]
 congr 1
@[simp] theorem ow{i:Int}:QH Ω (.int i)=.ok (some i) Ω:=rfl
end
def nC:EM:=bp (m2 aA (U 2) (m2 (aJ .Mod) (m2 (aJ .Add) (U 1) (m2 (aJ .Mult) (U 0) (U 3))) (ae (.int 26)))) true (ae .non) (bt (aa (ae (.int 8)) aj)) 0 [4,3,5]
def nD:EM:=bp (b_ (U 1) true (ae .non) false (m2 (aJ .Add) (U 0) (ae (.int 1)))) true (ae .non) (bt (aa (U 2) aj)) 0 [6]
section
variable{Ω:aF}{F:List D->Out Rs}{δ:List Int->Int->Int->Int}{ns:List Int}
end
section
variable{κ β:Type}[DecidableEq κ]
end
section
variable{Ω aq:aF}{F:List D->Out Rs}{δ:List Int->Int->Int->Int}{ns:List Int}{t:Nat}{kvs:List (List Key×D)}
end
theorem g8{O:bg}{ds:List D}{d:D}{aq:aF}(h1:ds.all Dq=true)(h:O ds []=.ok d aq)(hf:eZ d=true):pureOf O ds=.ok (false,d):=by
 unfold pureOf;rw[if_pos h1,h];dsimp only;rw[if_pos hf]
def Hn:SM:=(ah (ay 3 (m2 (aJ .FloorDiv) (U 3) (ae (.int 840)))) ag)
def Ho:SM:=(b8 (cR (m2 (au .Eq) (m2 (aJ .Mod) (U 0) (ae (.int 2))) (ae (.int 1))) (m2 (au .Gt) (U 0) (m2 (aJ .Pow) (ae (.int 10)) (ae (.int 18)))))
 (ah (cD (bu 4) (bt (aa (U 1) aj)) Hn)
 (ah (aH (m2 (aJ .Mod) (m2 (aJ .Mod) (U 3) (ae (.int 840))) (U 2)))
 ag))
 ag)
def QI:SM:=(ah (ay 5 (mN bA (aa (ae (.int 48271)) (aa (ae (.int 69621)) (aa (ae (.int 40692)) (aa (ae (.int 39373)) (aa (ae (.int 16807)) (aa (ae (.int 30323)) (aa (ae (.int 21403)) (aa (ae (.int 62089)) (aa (ae (.int 45742)) (aa (ae (.int 37907)) (aa (ae (.int 53611)) (aa (ae (.int 28411)) (aa (ae (.int 59393)) (aa (ae (.int 33391)) aj))))))))))))))))
 (ah (ay 6 (m2 (aJ .Mod) (m2 (aJ .Mult) (m2 (aJ .Add) (m2 (aJ .Mod) (U 0) (ae (.int 1000000007))) (ae (.int 11))) (m2 aA (U 5) (m2 (aJ .Mod) (U 1) (ae (.int 14))))) (ae (.int 2147483629))))
 (ah (ay 7 (m2 (aJ .Mod) (m2 (aJ .Mult) (U 6) (m2 (aJ .Add) (U 6) (U 1))) (ae (.int 1999999973))))
 (ah (aH (m2 (aJ .Mod) (m2 (aJ .FloorDiv) (m2 (aJ .Mod) (m2 (aJ .Mult) (U 7) (ae (.int 16807))) (ae (.int 998244353))) (ae (.int 1000))) (U 2)))
 ag))))
def mT:SM:=
 (ah (ay 3 (m2 (aJ .FloorDiv) (U 0) (ae (.int 2))))
 (ah Ho QI))
@[simp] theorem Hq{x y:D}{Ω:aF}:aJ .Pow x y Ω=fT (fw .Pow) x y Ω:=rfl
theorem AA{c t m:Int}(ht:0<=t)(ht':t < 100000)(hm:0 < m):∃ r,0<=r/\r < m/\pureOf (bC 8 3 mT) [.int c,.int t,.int m]=.ok (false,.int r):=by
 have key:∃ r aq,0<=r/\r < m/\bC 8 3 mT [.int c,.int t,.int m] []=.ok (.int r) aq:=by
  rw[bK (by rfl)]
  have e0:aS 8 [D.int c,.int t,.int m]=[some (.int c),some (.int t),some (.int m),none,none,none,none,none]:=rfl;rw[e0];unfold mT;have r1:(ay 3 (m2 (aJ .FloorDiv) (U 0) (ae (.int 2)))) [some (.int c),some (.int t),some (.int m),none,none,none,none,none] []=.nx [some (.int c),some (.int t),some (.int m),some (.int (c / 2)),none,none,none,none] []:=by simp
  rw[ai,r1,aE,ai]
  by_cases hc:c % 2=1/\1000000000000000000 < c
  ·have hin:hU t=true:=dQ (by omega) (by omega)
   have hL:∃ x s4,fb (bu 4) (.ints 0 t.toNat) Hn fuel 0 [some (.int c),some (.int t),some (.int m),some (.int (c / 2)),none,none,none,none] []=.nx [some (.int c),some (.int t),some (.int m),some (.int x),s4,none,none,none] []:=by
    refine cw (R:=fun r=>∃ x s4,r=.nx [some (.int c),some (.int t),some (.int m),some (.int x),s4,none,none,none] []) (ds:=intsFrom 0 t.toNat) (fun _ ρ Ω=>∃ x s4,ρ=[some (.int c),some (.int t),some (.int m),some (.int x),s4,none,none,none]/\Ω=[]) (fun _ _ _ _=>rfl) ?_ ?_ fuel 0 _ _ (by rw[b7];unfold fuel;omega) (Nat.zero_le _) ⟨_,_,rfl,rfl⟩
    ·rintro i d ρ Ω hd ⟨x,s4,rfl,rfl⟩
     refine⟨_,rfl,?_⟩;have e:Hn [some (.int c),some (.int t),some (.int m),some (.int x),some d,none,none,none] []=.nx [some (.int c),some (.int t),some (.int m),some (.int (x / 840)),some d,none,none,none] []:=by simp[Hn]
     show BO (Hn [some (.int c),some (.int t),some (.int m),some (.int x),some d,none,none,none] []) _ _
     rw[e];exact⟨_,_,rfl,rfl⟩
    ·rintro ρ Ω ⟨x,s4,rfl,rfl⟩
     exact⟨x,s4,rfl⟩
   obtain⟨x,s4,hL⟩:=hL;refine⟨x % 840 % m,[],Int.emod_nonneg _ (by omega),Int.emod_lt_of_pos _ hm,?_⟩
   simp[Ho,hc.1,hc.2,hin,hL,hm]
  ·obtain⟨d,hd,e⟩:=CW (xs:=[D.int 48271,.int 69621,.int 40692,.int 39373,.int 16807,.int 30323,.int 21403,.int 62089,.int 45742,.int 37907,.int 53611,.int 28411,.int 59393,.int 33391]) (i:=t % 14) (Int.emod_nonneg _ (by omega)) (Int.emod_lt_of_pos _ (by omega))
   obtain⟨v,rfl⟩:∃ v,d=.int v:=by
    simp only[List.mem_cons,List.not_mem_nil,or_false]at hd;rcases hd with h | h | h | h | h | h | h | h | h | h | h | h | h | h<;>exact⟨_,h⟩
   have hg:([]++[Cell.lst [D.int 48271,.int 69621,.int 40692,.int 39373,.int 16807,.int 30323,.int 21403,.int 62089,.int 45742,.int 37907,.int 53611,.int 28411,.int 59393,.int 33391]]:aF)[0]?=some (.lst [D.int 48271,.int 69621,.int 40692,.int 39373,.int 16807,.int 30323,.int 21403,.int 62089,.int 45742,.int 37907,.int 53611,.int 28411,.int 59393,.int 33391]):=rfl;have hx:=bq hg e;have i1:lU (c % 1000000007 + 11)=true:=jW (by omega) (by omega)
   have i2:lU ((c % 1000000007 + 11) * v % 2147483629)=true:=jW (by omega) (by omega)
   have i3:lU ((c % 1000000007 + 11) * v % 2147483629 * ((c % 1000000007 + 11) * v % 2147483629 + t) % 1999999973)=true:=jW (by omega) (by omega)
   have rI:Ho [some (.int c),some (.int t),some (.int m),some (.int (c / 2)),none,none,none,none] []=.nx [some (.int c),some (.int t),some (.int m),some (.int (c / 2)),none,none,none,none] []:=by
    by_cases h1:c % 2=1
    ·have h2:¬ 1000000000000000000 < c:=fun z=>hc ⟨h1,z⟩
     simp[Ho,h1,h2]
    ·have hb:(c % 2 == 1)=false:=by simpa using h1
     simp[Ho,hb]
   refine⟨(c % 1000000007 + 11) * v % 2147483629 * ((c % 1000000007 + 11) * v % 2147483629 + t) % 1999999973 * 16807 % 998244353 / 1000 % m,([]++[Cell.lst [D.int 48271,.int 69621,.int 40692,.int 39373,.int 16807,.int 30323,.int 21403,.int 62089,.int 45742,.int 37907,.int 53611,.int 28411,.int 59393,.int 33391]]:aF),Int.emod_nonneg _ (by omega),Int.emod_lt_of_pos _ hm,?_⟩
   rw[rI,aE];have r5:(ay 5 (mN bA (aa (ae (.int 48271)) (aa (ae (.int 69621)) (aa (ae (.int 40692)) (aa (ae (.int 39373)) (aa (ae (.int 16807)) (aa (ae (.int 30323)) (aa (ae (.int 21403)) (aa (ae (.int 62089)) (aa (ae (.int 45742)) (aa (ae (.int 37907)) (aa (ae (.int 53611)) (aa (ae (.int 28411)) (aa (ae (.int 59393)) (aa (ae (.int 33391)) aj)))))))))))))))) [some (.int c),some (.int t),some (.int m),some (.int (c / 2)),none,none,none,none] []=.nx [some (.int c),some (.int t),some (.int m),some (.int (c / 2)),none,some (.ref 0),none,none] ([]++[Cell.lst [D.int 48271,.int 69621,.int 40692,.int 39373,.int 16807,.int 30323,.int 21403,.int 62089,.int 45742,.int 37907,.int 53611,.int 28411,.int 59393,.int 33391]]):=rfl;unfold QI;rw[ai,r5,aE];generalize ([]++[Cell.lst [D.int 48271,.int 69621,.int 40692,.int 39373,.int 16807,.int 30323,.int 21403,.int 62089,.int 45742,.int 37907,.int 53611,.int 28411,.int 59393,.int 33391]]:aF)=ak at hx;simp[hx,i1,i2,i3,hm]
 obtain⟨r,aq,h0,h1,e⟩:=key;exact⟨r,h0,h1,g8 rfl e rfl⟩
section
variable{Ω aq:aF}{ρ:aU}{σ:Str->Int}{t kl:Nat}{kvs:List (List Key×D)}{line:List Str}{w x:Str}
theorem AB{ds:List D}{n:Nat}:dq ds none (some (n:Int))=ds.take n:=w8 ds n
theorem rJ{n:Nat}(h:Ω[kl]?=some (.lst (line.map .str))):gH (.ref kl) none (some (n:Int)) Ω=.ok (.ref Ω.length) (Ω++[.lst ((line.take n).map .str)]):=by
 simp only[gH,aD h,et,AB,List.map_take]
@[simp] theorem KZ{ty:Ty}{ds:List D}:bG ty (.tup ds) Ω=.ok (.bl (ty == .tuple)) Ω:=rfl
@[simp] theorem K_{ty:Ty}{z:Str}:bG ty (.str z) Ω=.ok (.bl (ty == .str)) Ω:=rfl
@[simp] theorem La{ty:Ty}:bG ty .non Ω=.ok (.bl false) Ω:=rfl
@[simp] theorem Hr{ds:List D}:aX .len [.tup ds] Ω=.ok (.int ds.length) Ω:=rfl
end
section
variable{Ω aq:aF}{ρ:aU}
theorem Dv{nc:Bool}{mc me:EM}{τ:aU}{src:Src}{ds:List D}{p:D->Bool}{g:D->D}(I:Nat->aF->Prop)(hs:∀ i Ω,I i Ω->ia src Ω=some ds)
  (hc:∀ i d Ω,ds[i]?=some d->I i Ω->∃ aq,gK nc mc ([some d]++τ) Ω=.ok (p d) aq/\I (i + 1) aq/\(p d=true->me ([some d]++τ) aq=.ok (g d) aq)) :
  ∀ (f i:Nat) (acc:List D) (Ω:aF),ds.length - i < f->i<=ds.length->acc.length + ds.length<=100000 + i->I i Ω->∃ aq,tq nc mc me 0 τ src f i acc Ω=.ok (acc++((ds.drop i).filter p).map g) aq/\I ds.length aq:=by
 intro f
 induction f with
 | zero=>intro i acc Ω hf;omega
 | succ f ih=>
  intro i acc Ω hf hi ha h0;simp only[tq,hs i Ω h0]
  by_cases hlt:i < ds.length
  ·have hd:ds[i]?=some ds[i]:=List.getElem?_eq_getElem hlt
   rw[hd];have ht:nX 0 ds[i]=some [some ds[i]]:=rfl;simp only[ht];obtain⟨ak,e1,h1,e2⟩:=hc i ds[i] Ω hd h0;rw[if_pos (aW (n:=acc.length + 1) (by omega)),e1,List.drop_eq_getElem_cons hlt,List.filter_cons]
   cases hp:p ds[i] with
   | true=>
    dsimp only;rw[e2 hp];dsimp only;obtain⟨av,e3,h3⟩:=ih (i + 1) (acc++[g ds[i]]) ak (by omega) hlt (by rw[List.length_append];simp;omega) h1
    exact⟨av,by rw[e3];simp,h3⟩
   | false=>
    dsimp only;obtain⟨av,e3,h3⟩:=ih (i + 1) acc ak (by omega) hlt (by omega) h1
    exact⟨av,by rw[e3];simp,h3⟩
  ·have hd:ds[i]?=none:=List.getElem?_eq_none (by omega)
   rw[hd,List.drop_of_length_le (by omega)]
   have:i=ds.length:=by omega
   subst this;exact⟨Ω,by simp,h0⟩
theorem AD{me mc:EM}{nc:Bool}{mi:IM}{cap:List Nat}{src:Src}{ds:List D}{p:D->Bool}{g:D->D}(I:Nat->aF->Prop)(hi:mi ρ Ω=.ok src aq)(hs:∀ i Ω,I i Ω->ia src Ω=some ds)
  (hc:∀ i d Ω,ds[i]?=some d->I i Ω->∃ aq,gK nc mc ([some d]++dh cap ρ) Ω=.ok (p d) aq/\I (i + 1) aq/\(p d=true->me ([some d]++dh cap ρ) aq=.ok (g d) aq)) (hl:ds.length<=90000) (h0:I 0 aq) :
  ∃ av,bp me nc mc mi 0 cap ρ Ω=.ok (.ref av.length) (av++[.lst ((ds.filter p).map g)])/\I ds.length av:=by
 unfold bp;rw[hi];dsimp only;obtain⟨av,e,h⟩:=Dv I hs hc fuel 0 [] aq (by unfold fuel;omega) (Nat.zero_le _) (by simp;omega) h0
 refine⟨av,?_,h⟩;rw[e];rfl
end
section
variable{Ω aq:aF}{ρ:aU}{σ:Str->Int}{kl fn b:Nat}{line ys:List Str}{w:Str}{M:List (List D->bg)}{fp:List Nat}{I:List Str->aF->Prop}
theorem kc{k j:Nat}{us vs:List Str}(h:Ω[k]?=some (.lst (us.map .str)))(h':Ω[j]?=some (.lst (vs.map .str))):au .Eq (.ref k) (.ref j) Ω=.ok (.bl (decide (us=vs))) Ω:=by
 rw[fe,j9,c8 (n:=7) h,c8 (n:=7) h',gY]
 have e:ek .Eq (L1 us) (L1 vs)=.ok (decide (us=vs)):=by
  rw[wY,pE 7,pE 7]
  show(if (true && true)=true then Out.ok (d_ (us.map .str) (vs.map .str)) else .bad)=_
  rw[nM];rfl
 rw[e];rfl
theorem kd{k j:Nat}{us vs:List Str}(h:Ω[k]?=some (.lst (us.map .str)))(h':Ω[j]?=some (.lst (vs.map .str))):au .NotEq (.ref k) (.ref j) Ω=.ok (.bl (!decide (us=vs))) Ω:=by
 rw[dS,j9,c8 (n:=7) h,c8 (n:=7) h',gY]
 have e:ek .NotEq (L1 us) (L1 vs)=.ok (!decide (us=vs)):=by
  rw[wZ,pE 7,pE 7]
  show(if (true && true)=true then Out.ok (!d_ (us.map .str) (vs.map .str)) else .bad)=_
  rw[nM];rfl
 rw[e];rfl
def wB(M:List (List D->bg)):SM:=(ah (b8 (fE (m2 (au .NotEq) (b_ (U 0) false (U 5) false (m2 (aJ .Add) (U 5) (ae (.int 1)))) (mN bA (aa (U 6) aj))) (m2 (au .NotEq) (Dk M 2 (aa (U 6) (aa (U 1) aj))) (ae (.int 0))))
 (ah (aH (U 5))
 ag)
 ag)
 ag)
theorem xU{i:Nat}{us:List Str}(h:Ω[kl]?=some (.lst (us.map .str))):gH (.ref kl) (some (i:Int)) none Ω=.ok (.ref Ω.length) (Ω++[.lst ((us.drop i).map .str)]):=by
 simp only[gH,aD h,et,nK,List.map_drop]
end
open PySem.Spec PyProof.Rows
section
variable{P:Program}{w:World}{K:PySem.W.Frag}{mg:Str->Option Value}{base:Heap}{T:aY}{k:Nat}
end
section
variable{P:Program}{w:World}{K:PySem.W.Frag}{mg:Str->Option Value}{base:Heap}{k:Nat}
end
section
variable{P:Program}{w:World}{K:PySem.W.Frag}{mg:Str->Option Value}{base:Heap}{k:Nat}
end
structure Dw(K:PySem.W.Frag)(x qual:Str)(st:Stmt)(dV:Value)(f:Addr)(fd:FuncData):Prop where
 ex:∃ (oc:Value) (od:Option Addr) (kV doc pm:Value) (an:Option Addr) (cdv ct:Value) (osl:Array (Option Value)),
  fd=PySem.W.fnOf x qual (cj st) (aV st) (af st) dV kV doc pm an cdv ct/\K.lookup f=some ⟨oc,od,.func fd,osl⟩/\PySem.W.codeIn K cdv qual=true
 kp:PySem.W.keepIn K (.ref f)=true
section
variable{P:Program}{w:World}{K:PySem.W.Frag}{mg:Str->Option Value}{base:Heap}{T:aY}{k:Nat}
theorem oA(W:bJ P w K mg base T k){x qual:Str}{st:Stmt}{dV:Value}{f:Addr}{fd:FuncData}(F:Dw K x qual st dV f fd){N ps td:List Str}{c:SM}(hs:bL N ps (af st)=true)(hc:cV T td st N=some c) :
    cp P w K mg base eG (k + 1) f fd ps (c7 (bx mg) (bC N.length ps.length c)):=by
  obtain⟨oc,od,kV,doc,pm,an,cdv,ct,osl,rfl,lk,hcd⟩:=F.ex;have Sc:=dP hs;refine vE lk hcd Sc (fun vs H Q E h => ?_) fun A outer s H vs Q E hr h => ?_
  · obtain⟨α,Z,Ω,ds,S,r,g⟩:=h
    rw[r.length];unfold bC at g;split at g
    · rename_i hl;exact hl
    · exact g.elim
  · obtain⟨α,Z,Ω,ds,S,r,g⟩:=h
    have G:dN (cx eG P w K mg base N qual (af st) f cdv A outer s H E).jv (bx mg) T k (af st) N:=
      { scope:=rfl,names:=rfl,calm:=rfl,room:=hr,cW:=W.cW,own:=PassesOwn.never,Fh:=fun _ _ _=>.inl rfl,oJ:=Sc.nd,kind:=Sc.kind,jv:=fun _ _ _ h=>h,fld:=W.fld,cst:=W.cst
        iV:=fun x F h=>⟨W.iV x F h⟩,fn:=fun x F h=>⟨W.fn x F h⟩,met:=fun m C F h=>⟨W.met m C F h⟩,cls:=fun C F h=>let ⟨j,h1,h2⟩:=W.cls C F h;⟨j,h1,⟨h2⟩⟩,clo:=W.clo }
    refine⟨Dj (bx mg) jk α Z H c (aS N.length ds) Ω,(d0 (j3 G 30 60) hc α Z H (aS N.length ds) Ω).jv,α,Z,eT S r,?_⟩;unfold bC at g;split at g
    · cases q:c (aS N.length ds) Ω with
      | rt d aq=>rw[q]at g;exact fun v H' α' Z' gr st r=>g v H' α' Z' gr st r
      | nx ρ aq=>rw[q]at g;exact fun σ H' α' Z' S'=>g .non H' α' Z' S'.gr S'.st (ba rfl)
      | bk ρ aq=>rw[q]at g;exact g.elim
      | ct ρ aq=>rw[q]at g;exact g.elim
      | exc x aq=>rw[q]at g;exact g
      | bad=>rw[q]at g;exact g.elim
    · exact g.elim
end
noncomputable def eY(C fld:Str)(d:D):D:=.tup [.str C,.str fld,d]
def oB(C fld:Str)(mv:EM)(m:EM):SM:=fun ρ Ω=>dC (m ρ Ω) fun d ak=>match mv [none,some d] ak with
 | .ok d' av=>.exc (eY C fld d') av
 | _=>.bad
def iC(κ:Str->Addr->Prop)(E:XK):f_:=fun x Ω α Z H=>∃ C fld d,x=eY C fld d/\∀ Ca v dd,κ C Ca->aw α Z H d v->H dd=none->E (.ref Ca) (some dd) (upd H dd (.xd [(fld,v)]))
def mU(κ:Str->Addr->Prop)(F:bg):Sp:=fun vs H Q E=>∃ α Z Ω ds,bO κ α Z Ω H/\aR (aw α Z H) ds vs/\cf κ (iC κ E) α Z H (F ds Ω) Q
def tL(R:List Stmt->Option SM)(T:aY)(td:List Str)(k:Nat)(sc:Scope)(N:List Str)(st:Stmt):Option SM:=match st with
 | .If c a b _=>o2 (cG T k sc N c) (o2 (R a) (R b) Prod.mk) fun x y=>b8 x y.1 y.2
 | .While c b [] _=>o2 (cG T k sc N c) (R b) lq
 | .For (.Name x _) it b [] _=>if isSet it then none else o2 (iX T sc N x) (o2 (gN (cG T k sc N) sc it) (R b) Prod.mk) fun i y=>cD (bu i) y.1 y.2
 | _=>iA T td k sc N 1 st
def jo(hk:Stmt->Option SM)(T:aY)(td:List Str)(k:Nat)(sc:Scope)(N:List Str):Nat->Stmt->Option SM
 | 0,_=>none
 | n + 1,st=>match hk st with
  | some c=>some c
  | none=>tL (cy (jo hk T td k sc N n)) T td k sc N st
section
variable{X:Cx}{κ:Str->Addr->Prop}{Φ:f_}{T:aY}{k:Nat}{sc:Scope}{N td:List Str}{hk:Stmt->Option SM}
theorem tN(G:dN X κ T k sc N)(hh:∀ st c,hk st=some c->lp X κ Φ st c):∀ (n kk:Nat) (st:Stmt) (c:SM),jo hk T td kk sc N n st=some c->lp X κ Φ st c:=by
 intro n kk;have E:∀ e m,cG T kk sc N e=some m->lN X κ e m:=fun e m q=>eU kk X sc N e m G.toGoodO q
 induction n with
 | zero=>intro st c h;cases h
 | succ n ih=>
  intro st c h;have B:∀ ss c,cy (jo hk T td kk sc N n) ss=some c->jm X κ Φ ss c:=fun ss c q=>d0 ih q
  have hN:X.N.Nodup:=by rw[G.names];exact G.oJ
  cases hq:hk st with
  | some c'=>
   replace h:(match hk st with | some c=>some c | none=>tL (cy (jo hk T td kk sc N n)) T td kk sc N st)=some c:=h
   rw[hq]at h;cases h;exact hh _ _ hq
  | none=>
   have D:iA T td kk sc N 1 st=some c->lp X κ Φ st c:=fun q=>j3 G 1 kk st c q
   replace h:(match hk st with | some c=>some c | none=>tL (cy (jo hk T td kk sc N n)) T td kk sc N st)=some c:=h
   rw[hq]at h;replace h:tL (cy (jo hk T td kk sc N n)) T td kk sc N st=some c:=h;cases st with
   | If c0 a b pos=>
    obtain⟨m,y,h1,h2,rfl⟩:=bH h;obtain⟨ca,cb,h3,h4,rfl⟩:=bH h2;exact xD ((E c0 m h1).2.1 Φ) (B a ca h3) (B b cb h4)
   | While c0 b e pos=>
    cases e with
    | nil=>
     obtain⟨m,cb,h1,h2,rfl⟩:=bH h;exact mS G.own ((E c0 m h1).2.1 Φ) (B b cb h2)
    | cons _ _=>exact D h
   | For tg it b e pos=>
    cases e with
    | nil=>
     cases tg with
     | Name x px=>
      replace h:(if isSet it=true then none else o2 (iX T sc N x) (o2 (gN (cG T kk sc N) sc it) (cy (jo hk T td kk sc N n) b) Prod.mk) fun i y=>cD (bu i) y.1 y.2)=some c:=h
      split at h
      ·cases h
      ·rename_i hs
       obtain⟨i,y,h1,h2,rfl⟩:=bH h;obtain⟨mi,cb,h3,h4,rfl⟩:=bH h2;obtain⟨s1,s2,s3⟩:=gU G h1;exact n5 G.own G.calm (ly G.toGoodO E h3 Φ _) (jS hN s1 s2 s3) (xF i) (B b cb h4) (iP (by simpa using hs))
     | _=>exact D h
    | cons _ _=>cases tg<;>exact D h
   | _=>exact D h
end
section
variable{P:Program}{w:World}{K:PySem.W.Frag}{mg:Str->Option Value}{base:Heap}{T:aY}{k:Nat}
theorem bJ.toXt(W:bJ P w K mg base T k):bJ P w K mg base { T with xt:=true } k:=⟨W.cW,W.iV,W.fn,W.cst,W.met,W.cls,W.fld,W.clo⟩
theorem uW{κ:Str->Addr->Prop}{N:List Str}{qual:Str}{scope:Scope}{f:Addr}{cd:Value}{A:Around}{outer:List Env}{s0:Shared}{H0:Hp}{E:XK}
  {C N0 fI c:Addr} {Nl:FuncData} {stI:Stmt} {gp fld sf pn cn:Str} {ve arg:Expr} {np cpos pos:Pos} {m mv:EM} (D:vX K mg C N0 fI c Nl stI gp fld sf pn ve) (hr:bY (k + 2) (A.deeper (envOfC qual scope s0.heap.objs.size f cd)))
  (hg:Gl (cx (jU P w) P w K mg base N qual scope f cd A outer s0 H0 E) cn) (hm:mg cn=some (.ref C)) (p8:κ cn C)
  (harg:bz (cx (jU P w) P w K mg base N qual scope f cd A outer s0 H0 E) κ (iC κ E) arg m)
  (ze:∀ (A':Around) (ot:List Env) (s':Shared) (e:Addr) (H1:Hp) (E':XK),bY k (A'.deeper (envOfC gp (af stI) s'.heap.objs.size fI (.ref c)))->bz ((cx eG P w K mg base [sf,pn] gp (af stI) fI (.ref c) A' ot s' H1 E').jv.mk1 e) κ jk ve mv)
  (hst:starEach [arg] (envOfC qual scope s0.heap.objs.size f cd)=[(false,eval arg (envOfC qual scope s0.heap.objs.size f cd))]) (hdb:(cn == ("__debug__":Str))=false) :
  lp (cx (jU P w) P w K mg base N qual scope f cd A outer s0 H0 E) κ (iC κ E) (.Raise (some (.Call (.Name cn np) [arg] [] cpos)) none pos) (oB cn fld mv m):=by
 intro aG Z0 Lb ρ Ω pins s σ H Dn I hF;obtain⟨α,Z,S,hF⟩:=hF
 refine vZ (k:=k) (te:=tO κ (iC κ E) aG Z0 Lb m ρ Ω) (Arg:=fun v0 H1=>∃ d ak d' av α1 Z1,mv [none,some d] ak=.ok d' av/\cg aG Z0 Lb α1 Z1 H1/\bO κ α1 Z1 ak H1/\aw α1 Z1 H1 d v0/\(∀ H2 α2 Z2,cg aG Z0 Lb α2 Z2 H2->bO κ α2 Z2 av H2->iC κ E (eY cn fld d') av α2 Z2 H2))
  (gm:=fun v0 H1 v H2=>∃ d' av α2 Z2,bO κ α2 Z2 av H2/\aw α2 Z2 H2 d' v/\iC κ E (eY cn fld d') av α2 Z2 H2) D hr hg hm (harg aG Z0 Lb ρ Ω) (fun v0 H1 hA A' ot s' e E' hr' => ?_) hst hdb pins s σ H Dn I ⟨α,Z,S,?_⟩
 ·obtain⟨d,ak,d',av,α1,Z1,e1,g1,s1,r1,h1⟩:=hA
  refine⟨_,ze A' ot s' e H1 E' hr' α1 Z1 H1 [none,some d] ak,α1,Z1,⟨s1,cg.refl s1.has,rfl,fun i dd hi => ?_⟩,?_⟩
  ·match i with
   | 0=>cases hi
   | 1=>cases hi;exact⟨v0,rfl,r1⟩
   | i + 2=>cases hi
  ·rw[e1]
   intro v H2 α2 Z2 g2 s2 r2;exact⟨d',av,α2,Z2,s2,r2,h1 H2 α2 Z2 (g1.trans g2) s2⟩
 ·refine fH.use S hF fun d ak v H1 α1 Z1 e1 g1 S1 r1 f1 => ?_
  cases hv:mv [none,some d] ak with
  | ok d' av=>
   rw[hv]at f1;refine⟨⟨d,ak,d',av,α1,Z1,hv,S1.gr,S1.st,r1,fun H2 α2 Z2 g2 s2=>f1 H2 α2 Z2 g2 s2⟩,?_⟩
   rintro v' H2 dd ⟨d2,aM,α2,Z2,s2,r2,hp⟩ hdd;obtain⟨C',S6,d3,e3,h3⟩:=hp;simp only[eY,Mir.D.tup.injEq,List.cons.injEq,Mir.D.str.injEq,and_true]at e3;obtain⟨rfl,rfl,rfl⟩:=e3;exact h3 C v' dd p8 r2 hdd
  | exc x av=>rw[hv]at f1;exact f1.elim
  | bad=>rw[hv]at f1;exact f1.elim
theorem AE(W:bJ P w K mg base T k)(S7:T.xt=true){x qual:Str}{st:Stmt}{dV:Value}{f:Addr}{fd:FuncData}(F:Dw K x qual st dV f fd){N ps td:List Str}{c:SM}{hk:Stmt->Option SM}(hs:bL N ps (af st)=true)(hc:cy (jo hk T td 60 (af st) N 30) (aV st)=some c)
    (hh:∀ (cdv:Value) (A:Around) (outer:List Env) (s:Shared) (H:Hp) (E:XK),bY (k + 2) (A.deeper (envOfC qual (af st) s.heap.objs.size f cdv))->GoodO (cx (jU P w) P w K mg base N qual (af st) f cdv A outer s H E) (bx mg) T k (af st) N ->
      ∀ st' c',hk st'=some c'->lp (cx (jU P w) P w K mg base N qual (af st) f cdv A outer s H E) (bx mg) (iC (bx mg) E) st' c') :
    cp P w K mg base (jU P w) (k + 3) f fd ps (mU (bx mg) (bC N.length ps.length c)):=by
  obtain⟨oc,od,kV,doc,pm,an,cdv,ct,osl,rfl,lk,hcd⟩:=F.ex;have Sc:=dP hs;refine vE lk hcd Sc (fun vs H Q E h => ?_) fun A outer s H vs Q E hr h => ?_
  · obtain⟨α,Z,Ω,ds,S,r,g⟩:=h
    rw[r.length];unfold bC at g;split at g
    · rename_i hl;exact hl
    · exact g.elim
  · obtain⟨α,Z,Ω,ds,S,r,g⟩:=h
    have G0:GoodO (cx (jU P w) P w K mg base N qual (af st) f cdv A outer s H E) (bx mg) T k (af st) N:=
      { scope:=rfl,names:=rfl,calm:=rfl,room:=hr.mono (by omega),cW:=W.cW,fld:=W.fld,cst:=W.cst
        iV:=fun x F h=>⟨W.iV x F h⟩,fn:=fun x F h=>⟨W.fn x F h⟩,met:=fun m C F h=>⟨W.met m C F h⟩,cls:=fun C F h=>let ⟨j,h1,h2⟩:=W.cls C F h;⟨j,h1,⟨h2⟩⟩,clo:=W.clo }
    have G:dN (cx (jU P w) P w K mg base N qual (af st) f cdv A outer s H E) (bx mg) T k (af st) N:=
      { toGoodO:=G0,own:=PassesOwn.leaving,Fh:=fun _ _ _=>.inl rfl,oJ:=Sc.nd,kind:=Sc.kind,jv:=fun q=>by rw[S7]at q;cases q }
    refine⟨Dj (bx mg) (iC (bx mg) E) α Z H c (aS N.length ds) Ω,d0 (tN G (hh cdv A outer s H E hr G0) 30 60) hc α Z H (aS N.length ds) Ω,α,Z,eT S r,?_⟩;unfold bC at g;split at g
    · cases q:c (aS N.length ds) Ω with
      | rt d aq=>rw[q]at g;exact fun v H' α' Z' gr st r=>g v H' α' Z' gr st r
      | nx ρ aq=>rw[q]at g;exact fun σ H' α' Z' S'=>g .non H' α' Z' S'.gr S'.st (ba rfl)
      | bk ρ aq=>rw[q]at g;exact g.elim
      | ct ρ aq=>rw[q]at g;exact g.elim
      | exc x aq=>rw[q]at g;exact g
      | bad=>rw[q]at g;exact g.elim
    · exact g.elim
end
section
variable{X:Cx}{κ:Str->Addr->Prop}{e:Expr}{es:List Expr}{as:AM}{p pos:Pos}
theorem uX{k:Nat}{x:Str}{G:bg}{f:Addr}{fd:FuncData}{ps:List Str}{E:XK}(F:cp X.prog X.w X.K X.mg X.base (jU X.prog X.w) k f fd ps (mU κ G))(hr:bY k X.A)(hg:Gl X x)(hm:X.mg x=some (.ref f))(hk:PySem.W.keepIn X.K (.ref f)=true)(hb:Binds X.K fd ps [])(hx:Passes (jU X.prog X.w) X E)(hdb:(x == ("__debug__":Str))=false)
  (he:starEach (e::es) X.env=(false,eval e X.env)::starEach es X.env) (hpl:(backTo pos (starEach es X.env)).any (·.1)=false) (ha:qz X κ (iC κ E) (e::es) as) :
  bz X κ (iC κ E) (.Call (.Name x p) (e::es) [] pos) (mN G as):=by
 intro aG Z0 H0 ρ Ω;refine PE.imp (jT F hr hg hm hk hb .nil hx (ha aG Z0 H0 ρ Ω) hdb he hpl) ?_;rintro σ H Q ⟨α,Z,S,g⟩;refine⟨α,Z,S,pF.use g fun xs ak _ vs H1 α1 Z1 g1 s1 r1 k1 => ?_⟩
 show mU κ G (vs++[]) H1 Q E
 rw[List.append_nil];exact⟨α1,Z1,ak,xs,s1,r1,k1⟩
end
def jO(n l:Nat)(b:SM)(cr:SM)(hnd:D->aF->ax D):bg:=fun ds Ω=>if ds.length=l then (match b (aS n ds) Ω with
 | .nx ρ ak=>eS (cr ρ ak)
 | .exc x ak=>vc (hnd x ak)
 | _=>.bad) else .bad
section
variable{P:Program}{w:World}{K:PySem.W.Frag}{mg:Str->Option Value}{base:Heap}{T:aY}{k:Nat}
theorem p9(W:bJ P w K mg base T k){x qual bn cn fld:Str}{nm:Option Str}{st b0:Stmt}{f c C N0 fI B0:Addr}{fd:FuncData}{N ps td:List Str}{i:Nat}{cb cr:SM}{hnd:D->aF->ax D}{R:V->Hp->VK->Prop}
    (F:uk K x qual st f fd) (hcv:fd.code=.ref c) (hs:bL N ps (af st)=true) {body suite rest:List Stmt} {hp hpos pos:Pos}
    (hbd:aV st=.Try body [.ExceptHandler (some (.Name bn hp)) nm (b0::suite) hpos] [] [] pos::rest) (hrest:cy (iA T td 60 (af st) N 30) rest=some cr)
    (S8:mg cn=some (.ref C)) (Tx:nu K C N0 fI) (is:Mq K C) (hmb:mg bn=some (.ref B0)) (hex:PySem.W.exmOne K (.ref C) (.ref B0)=some true) (sb:(af st).names.lookup bn=some .globalImplicit)
    (hi:∀ n,nm=some n->N[i]?=some n) (se:∀ n,nm=some n->(af st).names.lookup n=some .local) (hdb:(bn == ("__debug__":Str))=false)
    (hbody:∀ (A:Around) (outer:List Env) (s:Shared) (H:Hp) (E:XK) (xe:Value->Shared->Prop) (E':XK),bY k (A.deeper (envOfC qual (af st) s.heap.objs.size f (.ref c))) ->
      GoodO ((cx eG P w K mg base N qual (af st) f (.ref c) A outer s H E).wish xe) (bx mg) T k (af st) N->Passes (jU P w) ((cx eG P w K mg base N qual (af st) f (.ref c) A outer s H E).wish xe) E' ->
      jm ((cx eG P w K mg base N qual (af st) f (.ref c) A outer s H E).wish xe) (bx mg) (iC (bx mg) E') body cb)
    (hx:∀ x Ω,(∃ d,x=eY cn fld d)\/hnd x Ω=.bad)
    (Nn:∀ (X:Cx) (e d:Addr) (oe:Obj),X.env.scope=af st->X.mg=mg->X.K=K->X.N=N->JT X e C oe d N0 fI->∃ t,iE X (b0::suite) t/\∀ (D:Ends) (σ:L2.St) (H:Hp) (v:V),(nm.isSome=true->σ[i]?=some (some (.ref e)))->H d=some (.xd [(fld,v)])->R v H D.rt->t D σ H)
    (hR:∀ (α:List Addr) (Z:Addr->Prop) (Ω:aF) (H:Hp) (d:D) (v:V) (r:D) (av:aF) (Q:VK),bO (bx mg) α Z Ω H->aw α Z H d v->hnd (eY cn fld d) Ω=.ok r av->(∀ v' H' α' Z',cg α Z H α' Z' H'->bO (bx mg) α' Z' av H'->aw α' Z' H' r v'->Q v' H')->R v H Q) :
    cp P w K mg base eG (k + 1) f fd ps (c7 (bx mg) (jO N.length ps.length cb cr hnd)):=by
  have Sc:=dP hs;refine F.Se hcv Sc (fun vs H Q E h => ?_) fun A outer s s1 H vs Q E hr h I => ?_
  · obtain⟨α,Z,Ω,ds,S,r,g⟩:=h
    rw[r.length];unfold jO at g;split at g
    · rename_i hl;exact hl
    · exact g.elim
  obtain⟨α,Z,Ω,ds,S0,r,g⟩:=h;unfold jO at g;split at g
  rotate_left
  · exact g.elim
  rw[hbd];have S1:cB (bx mg) α Z H α Z Ω (aS N.length ds) (L2.start N vs) H:=eT S0 r;refine wpAny_execs_cons (wpAny_Try_except ?_);generalize hX:(cx eG P w K mg base N qual (af st) f (.ref c) A outer s H E).jv=X at *;have eP:X.prog=P:=by subst hX;rfl
  have ew:X.w=w:=by subst hX;rfl
  have eA:X.A=A.deeper (envOfC qual (af st) s.heap.objs.size f (.ref c)):=by subst hX;rfl
  have ee:X.env=envOfC qual (af st) s.heap.objs.size f (.ref c):=by subst hX;rfl
  have eN:X.N=N:=by subst hX;rfl
  have em:X.mg=mg:=by subst hX;rfl
  have eK:X.K=K:=by subst hX;rfl
  have ex:X.xe=fun _ _=>False:=by subst hX;rfl
  have est:X.stack=X.env::X.outer:=by subst hX;rfl
  have S9:X.env.frame=some X.env.locals:=by subst hX;rfl
  rw[← eP,← ew,← eA,← ee]
  have G:dN X (bx mg) T k (af st) N:=by
    subst hX
    exact
      { scope:=rfl,names:=rfl,calm:=rfl,room:=hr,cW:=W.cW,own:=PassesOwn.never,Fh:=fun _ _ _=>.inl rfl,oJ:=Sc.nd,kind:=Sc.kind,jv:=fun _ _ _ h=>h,fld:=W.fld,cst:=W.cst
        iV:=fun x F h=>⟨W.iV x F h⟩,fn:=fun x F h=>⟨W.fn x F h⟩,met:=fun m C F h=>⟨W.met m C F h⟩,cls:=fun C F h=>let ⟨j,h1,h2⟩:=W.cls C F h;⟨j,h1,⟨h2⟩⟩,clo:=W.clo }
  let E':XK:=fun cls S_ Ko=>∃ dd v H' α' Z' ak dD,cb (aS N.length ds) Ω=.exc (eY cn fld dD) ak/\cls=.ref C/\S_=some dd/\Ko=upd H' dd (.xd [(fld,v)])/\H' dd=none/\cg α Z H α' Z' H'/\bO (bx mg) α' Z' ak H'/\aw α' Z' H' dD v
  generalize Ta:(fun (e:Value) (s₁:Shared)=>wpAny (model X.prog X.w) X.A (noteFrame e X.env) (fun _ s₂=>wpAny (model X.prog X.w) X.A (setFlight e none) (fun _ s₃=>wpAny (model X.prog X.w) X.A (handleBy e X.env [.ExceptHandler (some (.Name bn hp)) nm (b0::suite) hpos]) (fun fl s'=>match fl with
    | .next=>wpAny (model X.prog X.w) X.A (execs rest X.env) (fun fl s'=>∃ xs v u σ' H',(fl=.ret u\/fl=.next/\u=Value.none)/\Inv (X.fz xs) [] σ' H' s'/\RelV v u/\Q v H') (fun _ _=>False) s'
    | fl=>∃ xs v u σ' H',(fl=.ret u\/fl=.next/\u=Value.none)/\Inv (X.fz xs) [] σ' H' s'/\RelV v u/\Q v H') (fun _ _=>False) s₃) (fun _ _=>False) s₂) (fun _ _=>False) s₁)=xe
  have AF:Passes (jU P w) (X.wish xe) E':=by
    intro pins σ' H1 Np e s2 I1 hT;obtain⟨e,C',d,H2,rfl,Th,hE⟩:=hT;obtain⟨dd,v,H',α',Z',ak,dD,hcb,e1,e2,rfl,hdd,g1,Hs,r1⟩:=hE;cases e1;cases e2;rw[hcb]at g;replace g:cf (bx mg) jk α Z H (vc (hnd (eY cn fld dD) ak)) Q:=g
    show xe (.ref e) s2
    rw[← Ta];have I2:Inv X [] σ' H1 Np:=I1.fh.vT;rw[← eP,← ew]at Th;refine v7 I2 Th est S9 bE (by show X.env.scope.names.lookup bn=_;rw[G.scope];exact sb) (by rw[em];exact hmb) (by rw[eK];exact hex) (by rw[eN];exact Sc.nd) (fun n e=>by rw[eN];exact hi n e) (fun n e=>by rw[G.scope];exact se n e) (fun oe s4 c1 c2 c3 J4 => ?_) hdb
    have J5:=J4.zf;have Nq:JT ((X.o4 e).zf e oe) e C oe d N0 fI:=⟨by simp[Cx.zf],c1,c2,c3,by show nu X.K C N0 fI;rw[eK];exact Tx,by show Mq X.K C;rw[eK];exact is⟩
    obtain⟨t,ht,hq⟩:=Nn ((X.o4 e).zf e oe) e d oe G.scope em eK eN Nq;obtain⟨a1,a2⟩:=Hs.xa (p:=d) (o:=.xd [(fld,v)]) hdd False
    have hrun:=ht [] s4 _ _ { nx:=fun _ _=>False,rt:=Q } J5 (hq _ _ _ v (fun hz=>by
      obtain⟨n,rfl⟩:=Option.isSome_iff_exists.mp hz
      have hlen:i < σ'.length:=by
        rw[I2.len,eN];exact(List.getElem?_eq_some_iff.mp (hi n rfl)).1
      rw[if_pos hz,List.getElem?_set_self hlen]) bE ?_)
    · refine wpAny_mono hrun (fun fl VE hs => ?_) (fun _ _ z=>z)
      cases fl with
      | ret u=>
        obtain⟨v',Gf,H5,J,rv,hQ⟩:=hs;refine⟨Gf,H5,J.Gg,fun JO s6 J6 => ?_⟩
        exact⟨[],v',u,_,_,.inl rfl,by rw[Cx.qP];exact J6,rv,hQ⟩
      | next=>obtain⟨_,_,_,z⟩:=hs;exact z.elim
      | brk=>obtain⟨_,_,_,z⟩:=hs;exact z.elim
      | cont=>obtain⟨_,_,_,z⟩:=hs;exact z.elim
    · cases hn:hnd (eY cn fld dD) ak with
      | ok r2 av=>
        rw[hn]at g;refine hR _ _ ak _ dD v r2 av Q a1 (Hs.dX a2 r1) hn fun v' H5 Kq Z5 g5 s5 r5 => ?_
        exact g v' H5 Kq Z5 ((g1.trans a2).trans g5) s5 r5
      | exc y av=>rw[hn]at g;exact g.elim
      | bad=>rw[hn]at g;exact g.elim
  have G':GoodO (X.wish xe) (bx mg) T k (af st) N:=by
    subst hX
    exact
      { scope:=rfl,names:=rfl,calm:=rfl,room:=hr,cW:=W.cW,fld:=W.fld,cst:=W.cst
        iV:=fun x F h=>⟨W.iV x F h⟩,fn:=fun x F h=>⟨W.fn x F h⟩,met:=fun m C F h=>⟨W.met m C F h⟩,cls:=fun C F h=>let ⟨j,h1,h2⟩:=W.cls C F h;⟨j,h1,⟨h2⟩⟩,clo:=W.clo }
  have hB:jm (X.wish xe) (bx mg) (iC (bx mg) E') body cb:=by
    subst hX;exact hbody A outer s H E xe E' hr G' AF
  refine wpAny_mono (hB α Z H (aS N.length ds) Ω [] s1 _ H { nx:=fun σ' H'=>∃ ρ ak α' Z',cb (aS N.length ds) Ω=.nx ρ ak/\cB (bx mg) α Z H α' Z' ak ρ σ' H',rt:=fun _ _=>False } (I.wish xe) ⟨α,Z,S1,?_⟩) (fun fl s2 hs => ?_) (fun e s2 z=>z)
  · cases hcb:cb (aS N.length ds) Ω with
    | nx ρ ak=>exact fun σ' H' α' Z' S'=>⟨ρ,ak,α',Z',rfl,S'⟩
    | exc y ak=>
      rcases hx y ak with ⟨dD,rfl⟩ | hb
      rotate_left
      · rw[hcb]at g
        replace g:cf (bx mg) jk α Z H (vc (hnd y ak)) Q:=g;rw[hb]at g;exact g.elim
      intro H' α' Z' g1 Np;refine⟨cn,fld,dD,rfl,fun Ca v dd hk r1 hdd=>⟨dd,v,H',α',Z',ak,dD,hcb,?_,rfl,rfl,hdd,g1,Np,r1⟩⟩
      have:mg cn=some (.ref Ca):=hk;rw[S8]at this;cases this;rfl
    | bk ρ ak=>rw[hcb]at g;exact g.elim
    | ct ρ ak=>rw[hcb]at g;exact g.elim
    | rt d ak=>rw[hcb]at g;exact g.elim
    | bad=>rw[hcb]at g;exact g.elim
  · cases fl with
    | next=>
      obtain⟨σ',H',J,ρ,ak,α',Z',hcb,S'⟩:=hs;rw[hcb]at g;replace g:cf (bx mg) jk α Z H (eS (cr ρ ak)) Q:=g;have J:=J.fh;refine wpAny_execs_nil ?_;have hr2:=d0 (Φ:=jk) (j3 (td:=td) G 30 60) hrest α Z H ρ ak [] s2 σ' H' { nx:=fun _ H'=>Q .non H',rt:=Q } J ⟨α',Z',S',?_⟩
      · rw[ex]at hr2
        refine wpAny_mono hr2 (fun fl s3 hs => ?_) (fun _ _ z=>z)
        cases fl with
        | ret u=>
          obtain⟨v,qB,H3,J3,rv,hQ⟩:=hs;exact⟨[],v,u,qB,H3,.inl rfl,by rw[Cx.qP];exact J3,rv,hQ⟩
        | next=>
          obtain⟨qB,H3,J3,hQ⟩:=hs;exact⟨[],.non,.none,qB,H3,.inr ⟨rfl,rfl⟩,by rw[Cx.qP];exact J3,rfl,hQ⟩
        | brk=>obtain⟨_,_,_,z⟩:=hs;exact z.elim
        | cont=>obtain⟨_,_,_,z⟩:=hs;exact z.elim
      · cases q:cr ρ ak with
        | rt d aq=>rw[q]at g;exact fun v H' α' Z' gr st r=>g v H' α' Z' gr st r
        | nx ρ aq=>rw[q]at g;exact fun σ H' α' Z' S'=>g .non H' α' Z' S'.gr S'.st (ba rfl)
        | bk ρ aq=>rw[q]at g;exact g.elim
        | ct ρ aq=>rw[q]at g;exact g.elim
        | exc x aq=>rw[q]at g;exact g
        | bad=>rw[q]at g;exact g.elim
    | ret u=>obtain⟨_,_,_,_,_,z⟩:=hs;exact z.elim
    | brk=>obtain⟨_,_,_,z⟩:=hs;exact z.elim
    | cont=>obtain⟨_,_,_,z⟩:=hs;exact z.elim
end
def jP(x:D)(Ω:aF):ax D:=match dB Ω x with
 | some ds=>l5 Ω (.lst ds.reverse)
 | none=>.bad
def fg(x:D):Out Rs:=match x with
 | .lst ds=>(match dv ds with
  | some xs=>if xs.length<=1000 then .ok (false,.int (unlike xs)) else .bad
  | none=>.bad)
 | _=>.bad
section
variable{X:Cx}{κ:Str->Addr->Prop}{Φ:f_}{e:Expr}{m:EM}{p p' pos pos':Pos}
theorem AG(hc:X.calm=true)(hg:Gl X "list")(hm:X.mg "list"=none)(hg':Gl X "reversed")(hm':X.mg "reversed"=none)(hs:starEach [e] X.env=[(false,eval e X.env)])(he:bz X κ Φ e m) :
  bz X κ Φ (.Call (.Name "list" p) [.Call (.Name "reversed" p') [e] [] pos'] [] pos) (m1 jP m):=
 iR (r:=fun x H1 Q=>∃ l xs,x=.ref l/\L2.Rd H1 l (.lst xs)/\∀ p,H1 p=none->Q (.ref p) (upd H1 p (.lst xs.reverse))) (fun ta pa=>qZ hc hg hm hg' hm' hs pa) he fun dx x α Z Ω H Q S rx g=>by
  unfold jP at g;split at g
  ·rename_i ds hd
   obtain⟨a,ws,rfl,q1,q2⟩:=bF S rx hd;exact⟨a,ws,rfl,q1,eQ S q2.reverse g⟩
  ·exact g.elim
theorem rK(hc:X.calm=true)(hg:Gl X "len")(hm:X.mg "len"=none)(hg':Gl X "set")(hm':X.mg "set"=none)(hs:starEach [e] X.env=[(false,eval e X.env)])(he:bz X κ Φ e m) :
  bz X κ Φ (.Call (.Name "len" p) [.Call (.Name "set" p') [e] [] pos'] [] pos) (m1 (ji fg) m):=
 iR (r:=fun x H1 Q=>∃ Z ds xs,Now Z H1 (.lst ds) x/\dv ds=some xs/\xs.length<=1000/\Q (.int (unlike xs)) H1) (fun ta pa=>uD hc hg hm hg' hm' hs pa) he fun dx x α Z Ω H Q S rx g=>by
  obtain⟨d,own,d',n1,e1,k⟩:=k7 (bw:=false) S rx g;unfold fg at e1;split at e1
  ·rename_i ds
   split at e1
   ·rename_i xs hx
    split at e1
    ·rename_i hl
     cases e1;exact⟨_,ds,xs,n1,hx,hl,k _ H _ (el.refl (cN S)) (.rep (eH rfl))⟩
    ·cases e1
   ·cases e1
  ·cases e1
end
section
variable{P:Program}{w:World}{K:PySem.W.Frag}{mg:Str->Option Value}{base:Heap}{T:aY}{k:Nat}
theorem oC(W:bJ P w K mg base T k){x qual:Str}{st:Stmt}{f:Addr}{fd:FuncData}(F:uk K x qual st f fd){N ps td:List Str}{c:SM}{hk:Stmt->Option SM}(hs:bL N ps (af st)=true)(hc:cy (jo hk T td 60 (af st) N 30) (aV st)=some c)
    (hh:∀ (X:Cx),GoodO X (bx mg) T k (af st) N->(∀ x∈dw,X.mg x=none)->∀ st' c',hk st'=some c'->lp X (bx mg) jk st' c') :
    cp P w K mg base eG (k + 1) f fd ps (c7 (bx mg) (bC N.length ps.length c)):=by
  refine F.ok (dP hs) (fun vs H Q E h => ?_) fun cdv A outer s H vs Q E hr h => ?_
  · obtain⟨α,Z,Ω,ds,S,r,g⟩:=h
    rw[r.length];unfold bC at g;split at g
    · rename_i hl;exact hl
    · exact g.elim
  · obtain⟨α,Z,Ω,ds,S,r,g⟩:=h
    have Sc:=dP hs
    have G:dN (cx eG P w K mg base N qual (af st) f cdv A outer s H E).jv (bx mg) T k (af st) N:=
      { scope:=rfl,names:=rfl,calm:=rfl,room:=hr,cW:=W.cW,own:=PassesOwn.never,Fh:=fun _ _ _=>.inl rfl,oJ:=Sc.nd,kind:=Sc.kind,jv:=fun _ _ _ h=>h,fld:=W.fld,cst:=W.cst
        iV:=fun x F h=>⟨W.iV x F h⟩,fn:=fun x F h=>⟨W.fn x F h⟩,met:=fun m C F h=>⟨W.met m C F h⟩,cls:=fun C F h=>let ⟨j,h1,h2⟩:=W.cls C F h;⟨j,h1,⟨h2⟩⟩,clo:=W.clo }
    refine⟨Dj (bx mg) jk α Z H c (aS N.length ds) Ω,d0 (tN G (hh _ G.toGoodO W.cW) 30 60) hc α Z H (aS N.length ds) Ω,α,Z,eT S r,?_⟩;unfold bC at g;split at g
    · cases q:c (aS N.length ds) Ω with
      | rt d aq=>rw[q]at g;exact fun v H' α' Z' gr st r=>g v H' α' Z' gr st r
      | nx ρ aq=>rw[q]at g;exact fun σ H' α' Z' S'=>g .non H' α' Z' S'.gr S'.st (ba rfl)
      | bk ρ aq=>rw[q]at g;exact g.elim
      | ct ρ aq=>rw[q]at g;exact g.elim
      | exc x aq=>rw[q]at g;exact g
      | bad=>rw[q]at g;exact g.elim
    · exact g.elim
end
section
variable{X:Cx}{κ:Str->Addr->Prop}{Φ:f_}{e:Expr}{es:List Expr}{as:AM}{p pos:Pos}{T:aY}{k:Nat}{sc:Scope}{N:List Str}
theorem uY{j:Nat}{x:Str}{F:bg}{f:Addr}{fd:FuncData}{ps:List Str}{ds:List Value}{sh:List V}{Dd:List D}(F1:cp X.prog X.w X.K X.mg X.base eG j f fd ps (c7 κ F))(hr:bY j X.A)(hg:Gl X x)(hm:X.mg x=some (.ref f))(hk:PySem.W.keepIn X.K (.ref f)=true)(hb:Binds X.K fd ps ds)(hd:Vals sh ds)(hD:∀ α Z H,aR (aw α Z H) Dd sh)(hdb:(x == ("__debug__":Str))=false)
  (he:starEach (e::es) X.env=(false,eval e X.env)::starEach es X.env) (hpl:(backTo pos (starEach es X.env)).any (·.1)=false) (ha:qz X κ Φ (e::es) as) :
  bz X κ Φ (.Call (.Name x p) (e::es) [] pos) (mN (fun xs Ω=>aP F (xs++Dd) Ω) as):=by
 intro aG Z0 H0 ρ Ω;refine PE.imp (jT F1 hr hg hm hk hb hd sD (ha aG Z0 H0 ρ Ω) hdb he hpl) ?_;rintro σ H Q ⟨α,Z,S,g⟩;refine⟨α,Z,S,pF.use g fun xs ak _ vs H1 α1 Z1 g1 s1 r1 k1 => ?_⟩
 exact⟨α1,Z1,ak,xs++Dd,s1,r1.append (hD _ _ _),cf.ok0 k1⟩
noncomputable def Dx:Stmt->Option Expr
 | .Return (some e) _=>some e
 | _=>none
theorem p_{st:Stmt}{x:Expr}(h:Dx st=some x):∃ p,st=.Return (some x) p:=by
 cases st with
 | Return v p=>
  cases v with
  | none=>cases h
  | some e=>cases h;exact⟨p,rfl⟩
 | _=>cases h
def Nr(f:Expr)(p:Pos)(as:List Expr)(ks:List Keyword):Option (Str×Expr):=match f,as,ks with
 | .Name l _,[e],[]=>some (l,e)
 | _,_,_=>none
def Fo:Expr->Option (Str×Expr)
 | .Call f as ks p=>Nr f p as ks
 | _=>none
theorem i6{x:Expr}{l:Str}{e:Expr}(h:Fo x=some (l,e)):∃ q p,x=.Call (.Name l q) [e] [] p:=by
 cases x with
 | Call f as ks p=>
  cases f with
  | Name l' q=>
   cases as with
   | nil=>cases h
   | cons a r=>
    cases r with
    | nil=>
     cases ks with
     | nil=>cases h;exact⟨q,p,rfl⟩
     | cons _ _=>cases h
    | cons _ _=>cases h
  | _=>cases h
 | _=>cases h
noncomputable def Ht:Expr->Option (Expr×Expr)
 | .BoolOp .And [a,b] _=>some (a,b)
 | _=>none
theorem xV{x a b:Expr}(h:Ht x=some (a,b)):∃ p,x=.BoolOp .And [a,b] p:=by
 cases x with
 | BoolOp op es p=>
  cases op with
  | And=>
   cases es with
   | nil=>cases h
   | cons y r=>
    cases r with
    | nil=>cases h
    | cons z t=>
     cases t with
     | nil=>cases h;exact⟨p,rfl⟩
     | cons _ _=>cases h
  | Or=>cases h
 | _=>cases h
def Dy(os:List CmpOp)(bs:List Expr):Option Expr:=match os,bs with
 | [.Eq],[b]=>some b
 | _,_=>none
def vEq:Expr->Option (Expr×Expr)
 | .Compare a os bs _=>(Dy os bs).map fun b=>(a,b)
 | _=>none
theorem xW{os:List CmpOp}{bs:List Expr}{b:Expr}(h:Dy os bs=some b):os=[.Eq]/\bs=[b]:=by
 cases os with
 | nil=>cases h
 | cons o r=>
  cases r with
  | cons _ _=>cases o<;>cases h
  | nil=>
   cases o with
   | Eq=>
    cases bs with
    | nil=>cases h
    | cons y t=>
     cases t with
     | nil=>cases h;exact⟨rfl,rfl⟩
     | cons _ _=>cases h
   | _=>cases h
theorem AH{x a b:Expr}(h:vEq x=some (a,b)):∃ p,x=.Compare a [.Eq] [b] p:=by
 cases x with
 | Compare c os bs p=>
  obtain⟨b',h1,h2⟩:=Option.map_eq_some_iff.mp (show(Dy os bs).map (fun b=>(c,b))=some (a,b) from h)
  cases h2;obtain⟨rfl,rfl⟩:=xW h1;exact⟨p,rfl⟩
 | _=>cases h
theorem fu{α β:Type}{o:Option α}{f:α->Option β}{b:β}(h:o.bind f=some b):∃ a,o=some a/\f a=some b:=Option.bind_eq_some_iff.mp h
def xX(T:aY)(sc:Scope)(N:List Str)(st:Stmt):Option SM:=(Dx st).bind fun x=>(Fo x).bind fun u=>(Fo u.2).bind fun v=>
 if u.1 == ("list":Str) && v.1 == ("reversed":Str) && qy sc u.1 && qy sc v.1 then (cG T 60 sc N v.2).map (fun m=>aH (m1 jP m)) else none
theorem qf(G:GoodO X κ T k sc N)(st:Stmt)(c:SM)(h:xX T sc N st=some c):lp X κ Φ st c:=by
 obtain⟨x,v1,ga⟩:=fu h;obtain⟨⟨l,y⟩,v2,gb⟩:=fu ga;obtain⟨⟨r,e⟩,v3,g⟩:=fu gb;obtain⟨p0,rfl⟩:=p_ v1;obtain⟨p1,p2,rfl⟩:=i6 v2;obtain⟨p3,p4,rfl⟩:=i6 v3;dsimp only at g;split at g
 ·rename_i hc
  simp only[Bool.and_eq_true]at hc;obtain⟨⟨⟨h1,h2⟩,h3⟩,h4⟩:=hc;obtain rfl:=eq_of_beq h1;obtain rfl:=eq_of_beq h2;obtain⟨m,hm,rfl⟩:=cu g;have E:=eU 60 X sc N _ m G hm;exact n4 (AG G.calm (G.gl h3) (G.cW _ (by decide)) (G.gl h4) (G.cW _ (by decide)) (by rw[bZ E.2.2];rfl) (E.1 Φ))
 ·cases g
def BP(T:aY)(sc:Scope)(N:List Str)(st:Stmt):Option SM:=(Dx st).bind fun x=>(Ht x).bind fun ac=>(vEq ac.2).bind fun ub=>(Fo ub.1).bind fun u=>(Fo u.2).bind fun v=>
 if u.1 == ("len":Str) && v.1 == ("set":Str) && qy sc u.1 && qy sc v.1 && !behindInMarks .Eq ub.2 then o2 (cG T 60 sc N ac.1) (o2 (cG T 60 sc N v.2) (cG T 60 sc N ub.2) Prod.mk) fun x y=>aH (cR x (m2 (au .Eq) (m1 (ji fg) y.1) y.2)) else none
theorem xY(G:GoodO X κ T k sc N)(st:Stmt)(c:SM)(h:BP T sc N st=some c):lp X κ Φ st c:=by
 obtain⟨x,v1,ga⟩:=fu h;obtain⟨⟨a,w⟩,v2,gb⟩:=fu ga;obtain⟨⟨u,b⟩,v3,gc⟩:=fu gb;obtain⟨⟨l,y⟩,v4,gd⟩:=fu gc;obtain⟨⟨s,e⟩,v5,g⟩:=fu gd;obtain⟨p0,rfl⟩:=p_ v1;obtain⟨p1,rfl⟩:=xV v2;obtain⟨p2,rfl⟩:=AH v3;obtain⟨p3,p4,rfl⟩:=i6 v4;obtain⟨p5,p6,rfl⟩:=i6 v5;dsimp only at g;split at g
 ·rename_i hc
  simp only[Bool.and_eq_true,Bool.not_eq_true']at hc;obtain⟨⟨⟨⟨h1,h2⟩,h3⟩,h4⟩,h5⟩:=hc;obtain rfl:=eq_of_beq h1;obtain rfl:=eq_of_beq h2;obtain⟨ma,y,q1,q2,rfl⟩:=bH g;obtain⟨me,mb,q3,q4,rfl⟩:=bH q2;have Ea:=eU 60 X sc N _ ma G q1;have Ee:=eU 60 X sc N _ me G q3;have Eb:=eU 60 X sc N _ mb G q4;exact n4 (tj (Ea.1 Φ) (mR (nV G.hu h5 (rK G.calm (G.gl h3) (G.cW _ (by decide)) (G.gl h4) (G.cW _ (by decide)) (by rw[bZ Ee.2.2];rfl) (Ee.1 Φ)) (Eb.1 Φ)).1))
 ·cases g
end
section
variable{P:Program}{w:World}{K:PySem.W.Frag}{mg:Str->Option Value}{base:Heap}{T:aY}{k:Nat}
noncomputable def Hu:Stmt->Option Expr
 | .Raise (some e) none _=>some e
 | _=>none
theorem xZ{st:Stmt}{x:Expr}(h:Hu st=some x):∃ p,st=.Raise (some x) none p:=by
 cases st with
 | Raise v u p=>
  cases v with
  | none=>cases h
  | some e=>
   cases u with
   | none=>cases h;exact⟨p,rfl⟩
   | some _=>cases h
 | _=>cases h
def tP(T:aY)(sc:Scope)(N:List Str)(C fld:Str)(mv:EM)(st:Stmt):Option SM:=(Hu st).bind fun x=>(Fo x).bind fun u=>
 if u.1 == C && qy sc u.1 && !(isStar u.2) then (cG T 60 sc N u.2).map (fun m=>oB C fld mv m) else none
theorem rL{N:List Str}{qual:Str}{scope:Scope}{f:Addr}{cd:Value}{A:Around}{outer:List Env}{s0:Shared}{H0:Hp}{E:XK}
  {C N0 fI c:Addr} {Nl:FuncData} {stI:Stmt} {gp fld sf pn cn:Str} {ve:Expr} {mv:EM} (D:vX K mg C N0 fI c Nl stI gp fld sf pn ve) (hr:bY (k + 2) (A.deeper (envOfC qual scope s0.heap.objs.size f cd))) (hm:mg cn=some (.ref C)) (hdb:(cn == ("__debug__":Str))=false)
  (G:GoodO (cx (jU P w) P w K mg base N qual scope f cd A outer s0 H0 E) (bx mg) T k scope N)
  (ze:∀ (A':Around) (ot:List Env) (s':Shared) (e:Addr) (H1:Hp) (E':XK),bY k (A'.deeper (envOfC gp (af stI) s'.heap.objs.size fI (.ref c)))->bz ((cx eG P w K mg base [sf,pn] gp (af stI) fI (.ref c) A' ot s' H1 E').jv.mk1 e) (bx mg) jk ve mv)
  (st:Stmt) (c':SM) (h:tP T scope N cn fld mv st=some c'):lp (cx (jU P w) P w K mg base N qual scope f cd A outer s0 H0 E) (bx mg) (iC (bx mg) E) st c':=by
 obtain⟨x,v1,ga⟩:=fu h;obtain⟨⟨l,arg⟩,v2,g⟩:=fu ga;obtain⟨p0,rfl⟩:=xZ v1;obtain⟨p1,p2,rfl⟩:=i6 v2;dsimp only at g;split at g
 ·rename_i hc
  simp only[Bool.and_eq_true,Bool.not_eq_true']at hc;obtain⟨⟨h1,h2⟩,h3⟩:=hc;obtain rfl:=eq_of_beq h1;obtain⟨m,q,rfl⟩:=cu g;have Ea:=eU 60 _ scope N _ m G q;exact uW D hr (G.gl h2) hm hm (Ea.1 _) ze (by rw[bZ h3];rfl) hdb
 ·cases g
end
section
variable{P:Program}{w:World}{K:PySem.W.Frag}{mg:Str->Option Value}{base:Heap}
theorem Dz{k:Nat}{f:Addr}{fd:FuncData}{ps:List Str}{κ:Str->Addr->Prop}:cp P w K mg base eG k f fd ps (c7 κ (fun _ _=>.bad)):=
 ⟨fun _ _ _ _ ⟨_,_,_,_,_,_,g⟩=>g.elim,fun _ _ _ _ _ _ _ _ _ _ _ _ _ ⟨_,_,_,_,_,_,g⟩=>g.elim⟩
end
section
variable{X:Cx}{κ:Str->Addr->Prop}{T:aY}{k j:Nat}{sc:Scope}{N:List Str}{f:Addr}{fd:FuncData}{ps:List Str}{MG:bg}{E':XK}{x a y:Str}{p pa py cpos pos:Pos}
theorem DA(G:GoodO X κ T k sc N)(F:cp X.prog X.w X.K X.mg X.base (jU X.prog X.w) k f fd ps (mU κ MG))(hg:qy sc x=true)(hm:X.mg x=some (.ref f))(hk:PySem.W.keepIn X.K (.ref f)=true)(hb:Binds X.K fd ps [])(AF:Passes (jU X.prog X.w) X E')(hdb:(x == ("__debug__":Str))=false)(ha:cG T 60 sc N (.Name a pa)=some (U j)) :
  bz X κ (iC κ E') (.Call (.Name x p) [.Name a pa] [] cpos) (mN MG (aa (U j) aj)):=
 uX F G.room (G.gl hg) hm hk hb AF hdb rfl rfl (k9 ((eU 60 X sc N _ _ G ha).1 _) nP rfl)
theorem BQ{i:Nat}(G:GoodO X κ T k sc N)(F:cp X.prog X.w X.K X.mg X.base (jU X.prog X.w) k f fd ps (mU κ MG))(hg:qy sc x=true)(hm:X.mg x=some (.ref f))(hk:PySem.W.keepIn X.K (.ref f)=true)(hb:Binds X.K fd ps [])(AF:Passes (jU X.prog X.w) X E')(hdb:(x == ("__debug__":Str))=false)(ha:cG T 60 sc N (.Name a pa)=some (U j))
  (hN:N.Nodup) (hi:N[i]?=some y) (hy:sc.names.lookup y=some .local):jm X κ (iC κ E') [.Assign [.Name y py] (.Call (.Name x p) [.Name a pa] [] cpos) pos] (ah (ay i (mN MG (aa (U j) aj))) ag):=
 pP (tB (by rw[G.names];exact hN) (by rw[G.names];exact hi) (.inl (by rw[G.scope];exact hy)) (.inr (by rw[G.scope];exact hy)) rfl (DA G F hg hm hk hb AF hdb ha)) tw
end
end Mir
namespace Mir
open PySem L2
variable [aL]
section
variable{Ω aq:aF}{ρ:aU}
theorem DB{mc me:EM}{τ:aU}{src:Src}{ds:List D}(I:Nat->List D->aF->Prop)(hs:∀ i acc Ω,I i acc Ω->ia src Ω=some ds)(he:∀ i d acc Ω,ds[i]?=some d->I i acc Ω->∃ y aq,me ([some d]++τ) Ω=.ok y aq/\I (i + 1) (acc++[y]) aq) :
  ∀ (f i:Nat) (acc:List D) Ω,I i acc Ω->ds.length - i < f->i<=ds.length->acc.length + ds.length<=100000 + i->∃ ys aq,tq true mc me 0 τ src f i acc Ω=.ok ys aq/\I ds.length ys aq:=by
 intro f
 induction f with
 | zero=>intro i acc Ω h0 hf;omega
 | succ f ih=>
  intro i acc Ω h0 hf hi ha;simp only[tq,hs i acc Ω h0]
  by_cases hlt:i < ds.length
  ·have hd:ds[i]?=some ds[i]:=List.getElem?_eq_getElem hlt
   rw[hd];have ht:nX 0 ds[i]=some [some ds[i]]:=rfl;obtain⟨y,ak,e1,h1⟩:=he i ds[i] acc Ω hd h0;have hc:gK true mc ([some ds[i]]++τ) Ω=.ok true Ω:=rfl;simp only[ht];rw[if_pos (aW (n:=acc.length + 1) (by omega)),hc]
   dsimp only;rw[e1];dsimp only;exact ih (i + 1) (acc++[y]) ak h1 (by omega) hlt (by rw[List.length_append];simp;omega)
  ·have hd:ds[i]?=none:=List.getElem?_eq_none (by omega)
   rw[hd];have:i=ds.length:=by omega
   subst this;exact⟨acc,Ω,rfl,h0⟩
theorem oE{me mc:EM}{mi:IM}{cap:List Nat}{src:Src}{ds:List D}(I:Nat->List D->aF->Prop)(hi:mi ρ Ω=.ok src aq)(h0:I 0 [] aq)(hs:∀ i acc Ω,I i acc Ω->ia src Ω=some ds)(he:∀ i d acc Ω,ds[i]?=some d->I i acc Ω->∃ y aq,me ([some d]++dh cap ρ) Ω=.ok y aq/\I (i + 1) (acc++[y]) aq)(hl:ds.length<=90000) :
  ∃ ys av,bp me true mc mi 0 cap ρ Ω=.ok (.ref av.length) (av++[.lst ys])/\I ds.length ys av:=by
 obtain⟨ys,av,e2,h2⟩:=DB (mc:=mc) I hs he fuel 0 [] aq h0 (by unfold fuel;omega) (Nat.zero_le _) (by simp;omega)
 refine⟨ys,av,?_,h2⟩;unfold bp;rw[hi];dsimp only;rw[e2];rfl
def Lc(Ω:aF)(j:Nat)(row:List Str):Prop:=Ω[j]?=some (.lst (row.map .str))
def l9(Ω:aF)(js:List Nat)(rs:List (List Str)):Prop:=aR (Lc Ω) js rs
structure Rw(Ω:aF)(k:Nat)(js:List Nat)(rs:List (List Str)):Prop where
 ce:Ω[k]?=some (.lst (js.map .ref))
 al:l9 Ω js rs
section
variable{k:Nat}{js:List Nat}{rs:List (List Str)}{row:List Str}{n:Str}
theorem l9.keep:∀ {js:List Nat} {rs:List (List Str)},l9 Ω js rs->∀ {fp:List Nat},ao fp Ω aq->(∀ j∈js,j∉fp)->l9 aq js rs
 | _,_,.nil,_,_,_=>.nil
 | _,_,.cons r t,fp,K,h=>.cons (K.get _ _ r (h _ (by simp))) (l9.keep t K fun j hj=>h j (by simp[hj]))
theorem Rw.keep(R:Rw Ω k js rs)(K:ao [] Ω aq):Rw aq k js rs:=⟨K.get _ _ R.ce (by simp),R.al.keep K (by simp)⟩
theorem Rw.mV(R:Rw Ω k js rs){fp:List Nat}(K:ao fp Ω aq)(hk:k∉fp)(hj:∀ j∈js,j∉fp):Rw aq k js rs:=⟨K.get _ _ R.ce hk,R.al.keep K hj⟩
theorem l9.len(h:l9 Ω js rs):rs.length=js.length:=aR.length h
theorem Rw.len(R:Rw Ω k js rs):rs.length=js.length:=R.al.len
theorem l9.at{i:Nat}{row:List Str}(h:l9 Ω js rs)(hr:rs[i]?=some row):∃ j,js[i]?=some j/\Ω[j]?=some (.lst (row.map .str)):=aR.CZ (R:=Lc Ω) h hr
theorem l9.at'{i j:Nat}(h:l9 Ω js rs)(hj:js[i]?=some j):∃ row,rs[i]?=some row/\Ω[j]?=some (.lst (row.map .str)):=aR.get (R:=Lc Ω) h hj
theorem l9.lt(h:l9 Ω js rs):∀ j∈js,j < Ω.length:=fun j hj=>by
 obtain⟨i,hi⟩:=List.mem_iff_getElem?.mp hj;obtain⟨row,_,h2⟩:=h.at' hi;exact dj h2
theorem gP{js:List Nat}{i:Nat}{d:D}(h:(js.map D.ref)[i]?=some d):∃ j,js[i]?=some j/\d=.ref j:=by
 rw[List.getElem?_map]at h;obtain⟨x,h1,h2⟩:=Option.map_eq_some_iff.mp h;exact⟨x,h1,h2.symm⟩
def Ld:SM:=(ah (b8 (m2 (au .In) (U 1) (b_ (U 3) false (ae (.int 1)) true (ae .non))) (ah (aH (U 2)) ag) ag) ag)
def qh:SM:=(ah (cD (jD [2,3]) (uN (U 0)) Ld) (ah (aH (ae .non)) ag))
theorem lH{j:Nat}(h:Ω[j]?=some (.lst (row.map .str))):gH (.ref j) (some 1) none Ω=.ok (.ref Ω.length) (Ω++[.lst (row.tail.map .str)]):=by
 have e:dq (row.map D.str) (some 1) none=row.tail.map .str:=by
  have:=nK (row.map D.str) 1;rw[show((1:Nat):Int)=1 by rfl]at this
  rw[this,← List.map_drop,List.drop_one]
 simp only[gH,aD h,et,e]
theorem DC{j i:Nat}(h:Ω[j]?=some (.lst (row.map .str))):∃ aq,ao [] Ω aq/\Ld [some (.ref k),some (.str n),some (.int i),some (.ref j)] Ω=if n∈row.tail then .rt (.int i) aq else .nx [some (.ref k),some (.str n),some (.int i),some (.ref j)] aq:=by
 have hs:=lH h;have g1:(Ω++[Cell.lst (row.tail.map .str)])[Ω.length]?=some (.lst (row.tail.map .str)):=az;have K1:ao [] Ω (Ω++[Cell.lst (row.tail.map .str)]):=ao.app;generalize Ω++[Cell.lst (row.tail.map .str)]=ak at *;have hi:=lF (w:=n) g1;refine⟨ak,K1,?_⟩
 by_cases hm:n∈row.tail
 ·rw[if_pos hm,decide_eq_true hm]at *
  simp[Ld,hs,hi,-j_]
 ·rw[if_neg hm,decide_eq_false hm]at *
  simp[Ld,hs,hi,-j_]
theorem x_(R:Rw Ω k js rs)(hl:rs.length<=1000):∃ d aq,bC 4 2 qh [.ref k,.str n] Ω=.ok d aq/\ao [] Ω aq/\((d=.non/\∀ r∈rs,n∉r.tail)\/∃ i:Nat,d=.int i/\∃ r,rs[i]?=some r/\n∈r.tail):=by
 rw[bK (by rfl)]
 have e0:aS 4 [D.ref k,.str n]=[some (.ref k),some (.str n),none,none]:=rfl;rw[e0];have hL:=R.len
 have fJ:uN (U 0) [some (.ref k),some (.str n),none,none] Ω=.ok (.M3 (.ref k)) Ω:=by
  unfold uN;simp[aD R.ce]
 unfold qh;rw[ai,dc,fJ,eh]
 refine cw (R:=fun r=>∃ d aq,eS (sq r _)=.ok d aq/\ao [] Ω aq/\((d=.non/\∀ r∈rs,n∉r.tail)\/∃ i:Nat,d=.int i/\∃ r,rs[i]?=some r/\n∈r.tail)) (ds:=du 0 (js.map .ref))
  (fun i ρ av=>∃ a2 a3,ρ=[some (.ref k),some (.str n),a2,a3]/\(∀ r∈rs.take i,n∉r.tail)/\ao [] Ω av) ?_ ?_ ?_ fuel 0 _ _ (by rw[iN];unfold fuel;simp;omega) (Nat.zero_le _) ⟨none,none,rfl,by simp,ao.refl⟩
 ·rintro i ρ av ⟨_,_,_,_,K⟩
  show(eW av (.ref k)).map (du 0)=_
  rw[aN,aD (R.keep K).ce];rfl
 ·rintro i d ρ av hd ⟨a2,a3,rfl,hz,K⟩
  obtain⟨d',hd',rfl⟩:=jV _ 0 i d hd;obtain⟨j,hj,rfl⟩:=gP hd';obtain⟨row,hr,hrow⟩:=(R.keep K).al.at' hj;rw[Nat.zero_add];refine⟨[some (.ref k),some (.str n),some (.int i),some (.ref j)],rfl,?_⟩;obtain⟨aM,K3,e⟩:=DC (k:=k) (n:=n) (i:=i) hrow;rw[e]
  by_cases hm:n∈row.tail
  ·rw[if_pos hm]
   exact⟨.int i,aM,rfl,K.trans K3,.inr ⟨i,rfl,row,hr,hm⟩⟩
  ·rw[if_neg hm]
   refine⟨_,_,rfl,fun r hr' => ?_,K.trans K3⟩
   rw[List.take_succ,hr]at hr';simp at hr';rcases hr' with h | rfl
   ·exact hz r h
   ·exact hm
 ·rintro ρ av ⟨a2,a3,rfl,hz,K⟩
  rw[iN,List.length_map,← hL,List.take_length]at hz;exact⟨.non,av,rfl,K,.inl ⟨rfl,hz⟩⟩
def Hv(PB:bg):SM:=(ah (b8 (cR (U 1) (m2 (au .Is) (mN (aP PB) (aa (U 0) (aa (m2 aA (U 1) (ae (.int 0))) aj))) (ae .non))) (ah (aH (m2 aA (U 1) (ae (.int 0)))) ag) ag) ag)
def AI(PB:bg):SM:=(ah (cD (bu 1) (aZ (U 0)) (Hv PB)) (ah (aH (ae .non)) ag))
theorem gQ{j:Nat}{ds:List D}(h:Ω[j]?=some (.lst ds)):fm Ω (.ref j)=some (!ds.isEmpty):=by simp only[fm,h]
theorem DD{j:Nat}(R:Rw Ω k js rs)(hl:rs.length<=1000)(h:Ω[j]?=some (.lst (row.map .str))):∃ aq,ao [] Ω aq/\Hv (bC 4 2 qh) [some (.ref k),some (.ref j)] Ω=match freeOf rs row with | some m=>.rt (.str m) aq | none=>.nx [some (.ref k),some (.ref j)] aq:=by
 cases row with
 | nil=>
  have ht:=gQ h;refine⟨Ω,ao.refl,?_⟩;simp[Hv,freeOf,ht]
 | cons m t=>
  have ht:=gQ h;have ht:fm Ω (.ref j)=some true:=ht;have hix:aA (.ref j) (.int 0) Ω=.ok (.str m) Ω:=bq h (L2.a_ (j:=0) rfl);obtain⟨d,ak,e1,K1,hc⟩:=x_ (n:=m) R hl;have h1:=K1.get _ _ h (by simp)
  have Nt:aA (.ref j) (.int 0) ak=.ok (.str m) ak:=bq h1 (L2.a_ (j:=0) rfl);refine⟨ak,K1,?_⟩;generalize bC 4 2 qh=PB at *;rcases hc with ⟨rfl,hz⟩ | ⟨i,rfl,r,hr,hz⟩
  ·rw[iy (by rintro⟨r,hr,hm⟩;exact hz r hr hm)]
   simp[Hv,ht,hix,e1,Nt]
  ·rw[kU ⟨r,List.mem_of_getElem? hr,hz⟩]
   simp[Hv,ht,hix,e1]
theorem DE(R:Rw Ω k js rs)(hl:rs.length<=1000):∃ aq,bC 2 1 (AI (bC 4 2 qh)) [.ref k] Ω=.ok (w9 (free rs)) aq/\ao [] Ω aq:=by
 rw[bK (by rfl)]
 have e0:aS 2 [D.ref k]=[some (.ref k),none]:=rfl;rw[e0];have hL:=R.len;have fJ:aZ (U 0) [some (.ref k),none] Ω=.ok (.seq (.ref k)) Ω:=by simp[bb (x:=.ref k) (by rw[aN,aD R.ce])]
 unfold AI;rw[ai,dc,fJ,eh]
 refine cw (R:=fun r=>∃ aq,eS (sq r _)=.ok (w9 (free rs)) aq/\ao [] Ω aq) (ds:=js.map .ref)
  (fun i ρ av=>∃ a1,ρ=[some (.ref k),a1]/\(rs.take i).findSome? (freeOf rs)=none/\ao [] Ω av) ?_ ?_ ?_ fuel 0 _ _ (by unfold fuel;simp;omega) (Nat.zero_le _) ⟨none,rfl,rfl,ao.refl⟩
 ·rintro i ρ av ⟨_,_,_,K⟩
  rw[bV,aN,aD (R.keep K).ce]
 ·rintro i d ρ av hd ⟨a1,rfl,hz,K⟩
  obtain⟨j,hj,rfl⟩:=gP hd;have R2:=R.keep K;obtain⟨row,hr,hrow⟩:=R2.al.at' hj;refine⟨[some (.ref k),some (.ref j)],rfl,?_⟩;obtain⟨aM,K3,e⟩:=DD R2 hl hrow;rw[e];have ht:rs.take (i + 1)=rs.take i++[row]:=by rw[List.take_succ,hr];rfl
  cases hf:freeOf rs row with
  | some m=>
   refine⟨aM,?_,K.trans K3⟩
   have:free rs=some m:=by
    unfold free
    have hd:rs=rs.take i++(row::rs.drop (i + 1)):=by
     have hlt:i < rs.length:=(List.getElem?_eq_some_iff.mp hr).1;rw[List.getElem?_eq_getElem hlt]at hr;cases hr;rw[← List.drop_eq_getElem_cons hlt,List.take_append_drop]
    conv=>lhs;arg 2;rw[hd]
    rw[List.findSome?_append,hz,List.findSome?_cons,hf];rfl
   rw[this];rfl
  | none=>
   refine⟨_,rfl,?_,K.trans K3⟩;rw[ht,List.findSome?_append,hz,List.findSome?_cons,hf];rfl
 ·rintro ρ av ⟨a1,rfl,hz,K⟩
  rw[List.length_map,← hL,List.take_length]at hz;refine⟨av,?_,K⟩;unfold free;rw[hz];rfl
end
end
section
variable{Ω aq:aF}{ρ:aU}{k:Nat}{js:List Nat}{rs:List (List Str)}{row:List Str}{n:Str}
theorem l9.snoc{j:Nat}(h:l9 Ω js rs)(h1:Ω[j]?=some (.lst (row.map .str))):l9 Ω (js++[j]) (rs++[row]):=aR.append (R:=Lc Ω) h (.cons h1 .nil)
theorem jq{ds:List D}(h:Ω[k]?=some (.lst ds)):aX .list [.ref k] Ω=.ok (.ref Ω.length) (Ω++[.lst ds]):=by
 show pH [.ref k] Ω=_
 simp only[pH,aN,aD h];rfl
theorem lJ{me mc:EM}{mi:IM}{cap:List Nat}{f:List Str->List Str}{P:Nat->Prop}(hi:mi ρ Ω=.ok (.seq (.ref k)) Ω)(R:Rw Ω k js rs)(hl:rs.length<=1000)
  (he:∀ j row ak,ao [] Ω ak->j∈js->row∈rs->ak[j]?=some (.lst (row.map .str))->∃ j' av,me ([some (.ref j)]++dh cap ρ) ak=.ok (.ref j') av/\ao [] ak av/\av[j']?=some (.lst ((f row).map .str))/\P j') :
  ∃ dF av,bp me true mc mi 0 cap ρ Ω=.ok (.ref av.length) (av++[.lst (dF.map .ref)])/\ao [] Ω av/\l9 av dF (rs.map f)/\∀ j∈dF,P j:=by
 have hL:=R.len
 obtain⟨ys,av,e,dF,rfl,h1,h2,h3⟩:=oE (me:=me) (mc:=mc) (cap:=cap) (ds:=js.map .ref) (fun i acc av=>∃ dF,acc=dF.map .ref/\l9 av dF ((rs.take i).map f)/\ao [] Ω av/\∀ j∈dF,P j) hi ⟨[],rfl,.nil,ao.refl,by simp⟩
  (fun i acc av h=>by
   obtain⟨_,_,_,K,_⟩:=h;rw[bV,aN,aD (R.keep K).ce])
  (fun i d acc ak hd h=>by
   obtain⟨dF,rfl,h1,K,h3⟩:=h;obtain⟨j,hj,rfl⟩:=gP hd;obtain⟨row,hr,hrow⟩:=(R.keep K).al.at' hj;obtain⟨j',av,e,K2,h4,h5⟩:=he j row ak K (List.mem_of_getElem? hj) (List.mem_of_getElem? hr) hrow;refine⟨.ref j',av,e,dF++[j'],by simp,?_,K.trans K2,?_⟩
   ·rw[List.take_succ,hr,List.map_append]
    exact(h1.keep K2 (by simp)).snoc h4
   ·intro x hx
    rcases List.mem_append.mp hx with h | h
    ·exact h3 x h
    ·rw[List.mem_singleton.mp h];exact h5) (by simp;omega)
 refine⟨dF,av,e,h2,?_,h3⟩;rw[List.length_map,← hL,List.take_length]at h1;exact h1
def jF(i:Nat):EM:=bp (mN (aX .list) (aa (U 0) aj)) true (ae .non) (aZ (U i)) 0 []
theorem ke{i:Nat}(hi:ρ[i]?=some (some (.ref k)))(R:Rw Ω k js rs)(hl:rs.length<=1000):∃ dF k' aq,jF i ρ Ω=.ok (.ref k') aq/\ao [] Ω aq/\Rw aq k' dF rs/\(∀ j∈dF,Ω.length<=j)/\Ω.length<=k'/\k'∉dF:=by
 have fJ:aZ (U i) ρ Ω=.ok (.seq (.ref k)) Ω:=by
  rw[cm,fc,hi,fV,aQ];exact bb (by rw[aN,aD R.ce])
 obtain⟨dF,av,e,K,h1,h2⟩:=lJ (me:=mN (aX .list) (aa (U 0) aj)) (mc:=ae .non) (cap:=[]) (f:=fun r=>r) (P:=fun j=>Ω.length<=j) fJ R hl (fun j row ak K _ _ h=>by
  refine⟨ak.length,ak++[.lst (row.map .str)],?_,ao.app,az,K.len⟩;have:=jq h;simp[dh,this])
 rw[List.map_id']at h1;refine⟨dF,av.length,_,e,K.trans ao.app,⟨az,h1.keep (fp:=[]) ao.app (by simp)⟩,h2,K.len,fun h => ?_⟩
 have:=h1.lt _ h;omega
def stC:EM:=(Fg (m2 (au .Eq) (b_ (U 0) true (ae .non) false (ae (.int 1))) (mN bA (aa (U 1) aj))) (b_ (U 0) false (ae (.int 1)) true (ae .non)) (U 0))
theorem ya{j:Nat}(h:Ω[j]?=some (.lst (row.map .str))):gH (.ref j) none (some 1) Ω=.ok (.ref Ω.length) (Ω++[.lst ((row.take 1).map .str)]):=rJ (n:=1) h
theorem DF{j:Nat}(h:Ω[j]?=some (.lst (row.map .str))):∃ j' aq,stC [some (.ref j),some (.str n)] Ω=.ok (.ref j') aq/\ao [] Ω aq/\aq[j']?=some (.lst ((cZ n row).map .str))/\(j'=j\/Ω.length<=j'):=by
 have s1:=ya h;have g1:(Ω++[Cell.lst ((row.take 1).map .str)])[Ω.length]?=some (.lst ((row.take 1).map .str)):=az;have K1:ao [] Ω (Ω++[Cell.lst ((row.take 1).map .str)]):=ao.app;generalize Ω++[Cell.lst ((row.take 1).map .str)]=ak at *;have g2:(ak++[Cell.lst [.str n]])[ak.length]?=some (.lst ([n].map .str)):=az;have K2:ao [] ak (ak++[Cell.lst [.str n]]):=ao.app;have AJ:=K2.get _ _ g1 (by simp)
 have h2:=K2.get _ _ (K1.get _ _ h (by simp)) (by simp)
 have hq:=kc AJ g2
 have e0:(m2 (au .Eq) (b_ (U 0) true (ae .non) false (ae (.int 1))) (mN bA (aa (U 1) aj))) [some (.ref j),some (.str n)] Ω=.ok (.bl (decide (row.take 1=[n]))) (ak++[Cell.lst [.str n]]):=by
  simp[s1,aW,hq,-fe]
 generalize ak++[Cell.lst [.str n]]=av at *;have K:=K1.trans K2;have s2:=lH h2;unfold stC;rw[Dr,e0,oh,da,og,aQ]
 by_cases hq:row.take 1=[n]
 ·rw[if_pos (by rw[decide_eq_true hq])]
  refine⟨av.length,av++[.lst (row.tail.map .str)],?_,K.trans ao.app,?_,.inr K.len⟩
  ·simp[s2]
  ·unfold cZ;rw[if_pos hq];exact az
 ·rw[if_neg (by rw[decide_eq_false hq];simp)]
  refine⟨j,av,by simp,K,?_,.inl rfl⟩
  unfold cZ;rw[if_neg hq];exact h2
def FnAt(FN:bg):Prop:=∀ Ω k js rs,Rw Ω k js rs->rs.length<=1000->∃ aq,FN [.ref k] Ω=.ok (w9 (free rs)) aq/\ao [] Ω aq
theorem BR:FnAt (bC 2 1 (AI (bC 4 2 qh))):=fun _ _ _ _ R hl=>DE R hl
def tM:EM:=(mN (aX .any) (aa (U 1) aj))
def stM:EM:=(bp stC true (ae .non) (aZ (U 1)) 0 [3])
def bM(st:SM)(FN:bg):SM:=(ah (ay 3 (mN (aP FN) (aa (U 1) aj)))
 (ah (b8 (m2 (au .Is) (U 3) (ae .non))
 (ah st
 ag)
 ag)
 (ah (dZ (bP eX bf (U 2) (aa (U 3) aj)))
 (ah (ay 1 stM)
 ag))))
def uZ(st:SM)(FN:bg):SM:=
 (ah (ay 1 (jF 0))
 (ah (ay 2 (mN bA aj))
 (ah (lq tM (bM st FN))
 (ah (aH (U 2))
 ag))))
theorem kf(R:Rw Ω k js rs):aX .any [.ref k] Ω=.ok (.bl ((rs.map fun r => !r.isEmpty).any id)) Ω:=by
 show jj .any [.ref k] Ω=_
 unfold jj;rw[i5];have h:=gO (n:=6) (rs:=js) (L:=rs) R.ce R.al;have:bT (fj Ω 8) [.ref k]=some [LL rs]:=by simp[h]
 rw[this,oo];have:pI .any [LL rs]=.ok (false,.bl ((rs.map fun r => !r.isEmpty).any id)):=by simp[LL,any_rows,-List.any_map]
 rw[this,rF]
theorem BS{st:SM}{FN:bg}(hF:FnAt FN){R0:D}{q:Nat}{a3:Option D}{pre:List Str}(R:Rw Ω k js rs)(hr:rs.length<=1000)(hf:free rs=some n)(hq:Ω[q]?=some (.lst (pre.map .str)))(Hw:q≠k)(BU:q∉js)(hp:pre.length<=900) :
  ∃ k' dF aq,bM st FN [some R0,some (.ref k),some (.ref q),a3] Ω=.nx [some R0,some (.ref k'),some (.ref q),some (.str n)] aq/\Rw aq k' dF (rs.map (cZ n))/\aq[q]?=some (.lst ((pre++[n]).map .str))/\q≠k'/\q∉dF/\ao [q] Ω aq:=by
 obtain⟨ak,e1,K1⟩:=hF Ω k js rs R hr;rw[hf]at e1;have q1:=K1.get _ _ hq (by simp)
 have R1:=R.keep K1;have hap:=cP (d:=.str n) q1 (by simp;omega)
 have hL:=df q1;have K2:ao [q] ak (ak.set q (.lst (pre.map .str++[.str n]))):=ao.set (by simp)
 have q2:(ak.set q (.lst (pre.map .str++[.str n])))[q]?=some (.lst ((pre++[n]).map .str)):=by rw[cE q1];simp
 generalize ak.set q (.lst (pre.map .str++[.str n]))=av at *;have R2:Rw av k js rs:=R1.mV K2 (by simpa using Ne.symm Hw) (fun j hj h=>BU (by rw[← List.mem_singleton.mp h];exact hj))
 have fJ:aZ (U 1) [some R0,some (.ref k),some (.ref q),some (.str n)] av=.ok (.seq (.ref k)) av:=by
  rw[cm];exact bb (by rw[aN,aD R2.ce])
 have ql:=dj q2
 obtain⟨dF,aM,e3,K3,h3,h4⟩:=lJ (ρ:=[some R0,some (.ref k),some (.ref q),some (.str n)]) (me:=stC) (mc:=ae .non) (cap:=[3]) (f:=cZ n) (P:=fun j=>j≠q) fJ R2 hr (fun j row aM K hj _ h=>by
  obtain⟨j',cX,e,K4,h4,h5⟩:=DF (n:=n) h;refine⟨j',cX,e,K4,h4,?_⟩;rcases h5 with rfl | h5
  ·exact fun z=>BU (z▸hj)
  ·have:=K.len
   omega)
 have QJ:=K3.len;refine⟨aM.length,dF,aM++[.lst (dF.map .ref)],?_,⟨az,h3.keep (fp:=[]) ao.app (by simp)⟩,kb (K3.get _ _ q2 (by simp)),by omega,fun h=>h4 q h rfl,?_⟩
 ·have e3':stM [some R0,some (.ref k),some (.ref q),some (.str n)] av=.ok (.ref aM.length) (aM++[.lst (dF.map .ref)]):=e3
  have r1:(ay 3 (mN (aP FN) (aa (U 1) aj))) [some R0,some (.ref k),some (.ref q),a3] Ω=.nx [some R0,some (.ref k),some (.ref q),some (.str n)] ak:=by simp[e1,w9]
  have r2:(b8 (m2 (au .Is) (U 3) (ae .non)) (ah st ag) ag) [some R0,some (.ref k),some (.ref q),some (.str n)] ak=.nx [some R0,some (.ref k),some (.ref q),some (.str n)] ak:=by simp
  have r3:(dZ (bP eX bf (U 2) (aa (U 3) aj))) [some R0,some (.ref k),some (.ref q),some (.str n)] ak=.nx [some R0,some (.ref k),some (.ref q),some (.str n)] av:=by
   rw[ff,dE (x:=.ref q) (aq:=ak) (by simp) hL]
   simp[hap]
  unfold bM;rw[ai,r1,aE,ai,r2,aE,ai,r3,aE,ai,bD,e3'];rfl
 ·exact((il.up K1).trans K2).trans (il.up (K3.trans ao.app))
theorem yb{st:SM}{FN:bg}(hF:FnAt FN){R0:D}{rs:List (List Str)}{o:List Str}(M:Mg rs o) :
  ∀ (Ω:aF) (pre:List Str) (q k:Nat) (js:List Nat) (a3:Option D) (m:Nat),Rw Ω k js rs->Ω[q]?=some (.lst (pre.map .str))->q≠k->q∉js->rs.length<=1000->pre.length + o.length<=900->o.length < m ->
   ∃ a1 fK aq,cS tM (bM st FN) m [some R0,some (.ref k),some (.ref q),a3] Ω=.nx [some R0,a1,some (.ref q),fK] aq/\aq[q]?=some (.lst ((pre++o).map .str))/\ao [q] Ω aq:=by
 induction M with
 | @done rs h=>
  intro Ω pre q k js a3 m R hq _ _ _ _ hm;obtain⟨m,rfl⟩:∃ k,m=k + 1:=⟨m - 1,by simp at hm;omega⟩
  refine⟨some (.ref k),a3,Ω,?_,by rw[List.append_nil];exact hq,ao.refl⟩
  have e:=kf R;rw[any_false h]at e;have e':tM [some R0,some (.ref k),some (.ref q),a3] Ω=.ok (.bl false) Ω:=by simp[tM,e]
  simp only[cS,e'];rfl
 | @step rs n o h hf _ ih=>
  intro Ω pre q k js a3 m R hq Hw BU hr hp hm;obtain⟨m,rfl⟩:∃ k,m=k + 1:=⟨m - 1,by simp at hm;omega⟩
  rw[List.length_cons]at hp hm;obtain⟨k',dF,ak,e1,R1,q1,h1,h2,K1⟩:=BS (st:=st) hF (R0:=R0) (a3:=a3) R hr hf hq Hw BU (by omega)
  obtain⟨a1,fK,av,e2,q2,K2⟩:=ih ak (pre++[n]) q k' dF (some (.str n)) m R1 q1 h1 h2 (by simpa using hr) (by simp;omega) (by omega)
  refine⟨a1,fK,av,?_,by rw[q2];simp,K1.trans K2⟩
  have e:=kf R;rw[any_true h]at e;have e':tM [some R0,some (.ref k),some (.ref q),a3] Ω=.ok (.bl true) Ω:=by simp[tM,e]
  simp only[cS,e']
  show(match bM st FN [some R0,some (.ref k),some (.ref q),a3] Ω with | .nx bB aq=>cS tM (bM st FN) m bB aq | .ct bB aq=>cS tM (bM st FN) m bB aq | .bk bB aq=>.nx bB aq | r=>r)=_
  rw[e1];exact e2
def AK(MG:bg):Prop:=∀ (Ω:aF) (k:Nat) (js:List Nat) (rs:List (List Str)) (o:List Str),Rw Ω k js rs->Mg rs o->rs.length<=1000->o.length<=900->∃ q aq,MG [.ref k] Ω=.ok (.ref q) aq/\aq[q]?=some (.lst (o.map .str))/\Ω.length<=q/\ao [] Ω aq
theorem Hx{st:SM}{FN:bg}(hF:FnAt FN):AK (bC 4 1 (uZ st FN)):=by
 intro Ω k js rs o R M hr ho;rw[bK (by rfl)]
 have e0:aS 4 [D.ref k]=[some (.ref k),none,none,none]:=rfl;rw[e0];obtain⟨dF,k',ak,e1,K1,R1,h1,h2,h3⟩:=ke (ρ:=[some (.ref k),none,none,none]) (i:=0) rfl R hr;have r1:(ay 1 (jF 0)) [some (.ref k),none,none,none] Ω=.nx [some (.ref k),some (.ref k'),none,none] ak:=by rw[bD,e1];rfl
 have K2:ao [] ak (ak++[Cell.lst []]):=ao.app;have q2:(ak++[Cell.lst []])[ak.length]?=some (.lst (([]:List Str).map .str)):=az;have r2:(ay 2 (mN bA aj)) [some (.ref k),some (.ref k'),none,none] ak=.nx [some (.ref k),some (.ref k'),some (.ref ak.length),none] (ak++[Cell.lst []]):=by simp[aW]
 have lk:=dj R1.ce;have lj:=R1.al.lt;obtain⟨a1,a3,aM,e3,q3,K3⟩:=yb (st:=st) hF (R0:=.ref k) M (ak++[Cell.lst []]) [] ak.length k' dF none fuel (R1.keep K2) q2 (by omega) (fun h=>by have:=lj _ h;omega) hr (by simpa using ho) (by unfold fuel;omega)
 refine⟨ak.length,aM,?_,q3,K1.len,ao.new (K1.trans K2) K3 (by simpa using K1.len)⟩
 unfold uZ;rw[ai,r1,aE,ai,r2,aE,ai];unfold lq;rw[e3];rfl
def Hy(IM:bg):Prop:=∀ (Ω:aF) (k t:Nat) (js:List Nat) (rs:List (List Str)) (o w:List Str),Rw Ω k js rs->Ω[t]?=some (.lst (w.map .str))->Mg rs o->rs.length<=1000->o.length<=900->∃ aq,IM [.ref k,.ref t] Ω=.ok (.bl (decide (o=w))) aq/\ao [] Ω aq
end
theorem AL:∃ μ,fZ μ (pureOf (bC 8 3 mT)):=by
 have h:∀ c t m:Int,∃ r,0<=t->t < 100000->0 < m->0<=r/\r < m/\pureOf (bC 8 3 mT) [.int c,.int t,.int m]=.ok (false,.int r):=fun c t m=>by
  by_cases hh:0<=t/\t < 100000/\0 < m
  ·obtain⟨r,h1,h2,h3⟩:=AA (c:=c) hh.1 hh.2.1 hh.2.2
   exact⟨r,fun _ _ _=>⟨h1,h2,h3⟩⟩
  ·exact⟨0,fun a b c=>absurd ⟨a,b,c⟩ hh⟩
 exact⟨fun c t m=>(h c t m).choose,fun c t m=>(h c t m).choose_spec⟩
def oF:SM:=
 (ah (b8 (m2 (au .Lt) (U 1) (mN (aX .len) (aa (U 0) aj)))
 (ah (aH (m2 aA (U 0) (U 1)))
 ag)
 ag)
 (ah (aH (ae (.int 0)))
 ag))
theorem Hz(ns:List Int):Dq (SC ns)=true:=by
 show(ns.map D.int).all eZ=true
 rw[List.all_eq_true];intro d hd;obtain⟨i,_,rfl⟩:=List.mem_map.mp hd;rfl
theorem yc:kW (fun ns k=>ns.getD k 0) (pureOf (bC 2 2 oF)):=by
 intro ns k
 have hpl:[SC ns,D.int k].all Dq=true:=by
  simp only[List.all_cons,Hz,List.all_nil];rfl
 have e0:aS 2 [SC ns,D.int k]=[some (SC ns),some (.int k)]:=rfl
 have hlen:aX .len [SC ns] []=.ok (.int ns.length) []:=by
  show ax.ok (D.int ((ns.map D.int).length:Nat)) []=_
  rw[List.length_map]
 refine g8 (aq:=[]) hpl ?_ rfl;rw[bK (by rfl),e0]
 by_cases h:k < ns.length
 ·have hi:(k:Int) < (ns.length:Int):=by omega
  have e:L2.i9 (ns.map D.int) (k:Int)=some (.int (ns.getD k 0)):=L2.a_ (by simp[h])
  have hx:aA (SC ns) (.int k) []=.ok (.int (ns.getD k 0)) []:=by
   unfold aA;rw[gW,gW,ka]
   show lM (ixs [] (some (ns.map D.int)) (.int k)) _=_
   rw[rG e];rfl
  simp[oF,hlen,hi,hx,-List.getD_eq_getElem?_getD]
 ·have hi:¬ (k:Int) < (ns.length:Int):=by omega
  have e:ns.getD k 0=0:=by rw[List.getD_eq_getElem?_getD,List.getElem?_eq_none (by omega)];rfl
  show _=ax.ok (D.int (ns.getD k 0)) []
  rw[e];simp[oF,hlen,hi]
section
variable{Ω aq:aF}{ρ:aU}{F:List D->Out Rs}{μ:Int->Int->Int->Int}{c:Int}{m:Nat}
def yd:SM:=(ah (ay 8 (m2 (aJ .Add) (U 8) (m2 aA (U 2) (m2 (aJ .Mod) (m2 (aJ .Add) (m2 aA (U 4) (U 9)) (m2 (aJ .Mult) (U 3) (mN (aX .int) (aa (m2 (au .Eq) (U 9) (U 6)) aj)))) (ae (.int 26))))))
 ag)
def jC:EM:=(bp (m2 aA (U 1) (U 0)) true (ae .non) (aZ (b_ (U 4) true (ae .non) false (m2 (aJ .Add) (U 3) (ae (.int 1))))) 0 [2])
def jI(F:List D->Out Rs):SM:=(b8 (cR (m2 (au .Eq) (mN (bo F) (aa (U 0) (aa (ae (.int 10)) (aa (ae (.int 4)) aj)))) (ae (.int 1))) (m2 (au .Lt) (U 1) (ae (.int 9))))
 (ah (ay 8 (bP xk lh (ae (.str "")) (aa jC aj)))
 ag)
 ag)
def qj(F:List D->Out Rs):SM:=
 (ah (ay 8 (ae (.str "")))
 (ah (cD (bu 9) (bt (aa (U 5) aj)) yd)
 (ah (jI F)
 (ah (dZ (bP eX bf (U 7) (aa (U 8) aj)))
 ag))))
def HD(F:List D->Out Rs):EM:=(bp (mN (bo F) (aa (U 1) (aa (U 0) (aa (ae (.int 26)) aj)))) true (ae .non) (bt (aa (ae (.int 8)) aj)) 0 [0])
def DG(F:List D->Out Rs):SM:=
 (ah (ay 2 (ae (.str "abcdefghijklmnopqrstuvwxyz")))
 (ah (ay 4 (HD F))
 (ah (ay 5 (m2 (aJ .Add) (ae (.int 1)) (mN (bo F) (aa (U 0) (aa (ae (.int 8)) (aa (ae (.int 8)) aj))))))
 (ah (ay 6 (mN (bo F) (aa (U 0) (aa (ae (.int 9)) (aa (U 5) aj)))))
 (ah (ay 7 (mN bA aj))
 (ah (cD (bu 3) (bt (aa (U 1) aj)) (qj F))
 (ah (ay 10 (mN (bo F) (aa (U 0) (aa (ae (.int 11)) (aa (U 1) aj)))))
 (ah (aH (m2 (aJ .Add) (b_ (U 7) false (U 10) true (ae .non)) (b_ (U 7) true (ae .non) false (U 10))))
 ag))))))))
abbrev NV(c:Int)(m k b sz at' q:Nat)(a8 a9:Option D):aU:=[some (.int c),some (.int m),some (.str abc),some (.int k),some (.ref b),some (.int sz),some (.int at'),some (.ref q),a8,a9,none]
theorem DH(hμ:fZ μ F){k at' sz i b q:Nat}{z:Str}(hb:Ω[b]?=some (.lst (bs μ c)))(hk:k < 1000)(hi:i < 8)(hz:z.length<=100) :
  yd (NV c m k b sz at' q (some (.str z)) (some (.int i))) Ω=.nx (NV c m k b sz at' q (some (.str (z++gu (97 + ((μ c i 26 + if i=at' then (k:Int) else 0) % 26).toNat)))) (some (.int i))) Ω:=by
 have e:L2.i9 (bs μ c) (i:Int)=some (.int (μ c i 26)):=L2.a_ (by simp[bs,hi])
 have hx1:=bq hb e;have h64:lU (k:Int)=true:=jW (by omega) (by omega)
 have hs:∀ q,small (z.length + (gu q).length)=true:=fun q=>aW (by rw[kT];omega)
 have hx:=sX (q:=(μ c i 26 + if i=at' then (k:Int) else 0) % 26) (Int.emod_nonneg _ (by omega)) (Int.emod_lt_of_pos _ (by omega))
 have hmul:(k:Int) * (if ((i:Int) == (at':Int))=true then 1 else 0)=if i=at' then (k:Int) else 0:=by
  by_cases h:i=at'
  ·subst h;simp
  ·have:((i:Int) == (at':Int))=false:=by simp;omega
   rw[this];simp[h]
 have r1:(mN (aX .int) (aa (m2 (au .Eq) (U 9) (U 6)) aj)) (NV c m k b sz at' q (some (.str z)) (some (.int i))) Ω=.ok (.int (if ((i:Int) == (at':Int))=true then 1 else 0)) Ω:=by
  have:aX .int [.bl ((i:Int) == (at':Int))] Ω=.ok (.int (if ((i:Int) == (at':Int))=true then 1 else 0)) Ω:=by
   show jj .int [.bl ((i:Int) == (at':Int))] Ω=_
   unfold jj;rw[i5];simp
  simp[NV,-beq_iff_eq]at this ⊢;exact this
 have r2:(m2 (aJ .Mult) (U 3) (mN (aX .int) (aa (m2 (au .Eq) (U 9) (U 6)) aj))) (NV c m k b sz at' q (some (.str z)) (some (.int i))) Ω=.ok (.int (if i=at' then (k:Int) else 0)) Ω:=by
  rw[dm,show U 3 (NV c m k b sz at' q (some (.str z)) (some (.int i))) Ω=.ok (.int k) Ω from rfl,aQ,r1,aQ,← hmul]
  generalize (if ((i:Int) == (at':Int))=true then (1:Int) else 0)=u
  simp[h64]
 have r3:(m2 (aJ .Add) (m2 aA (U 4) (U 9)) (m2 (aJ .Mult) (U 3) (mN (aX .int) (aa (m2 (au .Eq) (U 9) (U 6)) aj)))) (NV c m k b sz at' q (some (.str z)) (some (.int i))) Ω=.ok (.int (μ c i 26 + if i=at' then (k:Int) else 0)) Ω:=by
  rw[dm,show m2 aA (U 4) (U 9) (NV c m k b sz at' q (some (.str z)) (some (.int i))) Ω=.ok (.int (μ c i 26)) Ω from hx1,aQ,r2,aQ]
  simp
 generalize (μ c i 26 + if i=at' then (k:Int) else 0)=u at *
 have r4:(m2 aA (U 2) (m2 (aJ .Mod) (m2 (aJ .Add) (m2 aA (U 4) (U 9)) (m2 (aJ .Mult) (U 3) (mN (aX .int) (aa (m2 (au .Eq) (U 9) (U 6)) aj)))) (ae (.int 26)))) (NV c m k b sz at' q (some (.str z)) (some (.int i))) Ω=.ok (.str (gu (97 + (u % 26).toNat))) Ω:=by
  rw[dm,show U 2 (NV c m k b sz at' q (some (.str z)) (some (.int i))) Ω=.ok (.str abc) Ω from rfl,aQ,dm,r3]
  simp[hx]
 generalize (97 + (u % 26).toNat)=v at *;have hs':=hs v;unfold yd;rw[ai,bD,dm,show U 8 (NV c m k b sz at' q (some (.str z)) (some (.int i))) Ω=.ok (.str z) Ω from rfl,aQ,r4,aQ]
 simp[hs']
theorem ye(hμ:fZ μ F){k at' sz b q:Nat}{a9:Option D}(hb:Ω[b]?=some (.lst (bs μ c)))(hk:k < 1000)(hsz:sz<=8)(hat:at' < sz) :
  ∃ (z:Str) (oM:Option D),z.length=sz/\z.cps.toList[at']?=some (97 + ((μ c at' 26 + k) % 26).toNat) /\
   fb (bu 9) (.ints 0 sz) yd fuel 0 (NV c m k b sz at' q (some (.str "")) a9) Ω=.nx (NV c m k b sz at' q (some (.str z)) oM) Ω:=by
 refine cw (R:=fun r=>∃ (z:Str) (oM:Option D),z.length=sz/\z.cps.toList[at']?=some (97 + ((μ c at' 26 + k) % 26).toNat)/\r=.nx (NV c m k b sz at' q (some (.str z)) oM) Ω) (ds:=intsFrom 0 sz)
  (fun i ρ av=>∃ (z:Str) (oM:Option D),z.length=i/\(at' < i->z.cps.toList[at']?=some (97 + ((μ c at' 26 + k) % 26).toNat))/\ρ=NV c m k b sz at' q (some (.str z)) oM/\av=Ω) (fun _ _ _ _=>rfl) ?_ ?_ fuel 0 _ _ (by rw[b7];unfold fuel;omega) (Nat.zero_le _) ⟨"",a9,by decide,fun h=>by omega,rfl,rfl⟩
 ·rintro i d ρ av hd ⟨z,oM,hz,qk,rfl,rfl⟩
  obtain⟨rfl,hlt⟩:=dR hd;rw[show(0:Int) + (i:Int)=(i:Int) by omega]
  refine⟨NV c m k b sz at' q (some (.str z)) (some (.int i)),rfl,?_⟩;rw[DH hμ hb hk (by omega) (by omega)]
  refine⟨_,_,by rw[Str.length_append,kT];omega,fun hai => ?_,rfl,rfl⟩
  rw[Str.cps_append,Array.toList_append]
  by_cases ha:at' < i
  ·rw[List.getElem?_append_left (by rw[← str_len];omega)]
   exact qk ha
  ·obtain rfl:at'=i:=by omega
   rw[List.getElem?_append_right (by rw[← str_len];omega),← str_len,hz,Nat.sub_self,if_pos rfl]
   rfl
 ·rintro ρ av ⟨z,oM,hz,qk,rfl,rfl⟩
  rw[b7]at hz qk;exact⟨z,oM,hz,qk hat,rfl⟩
theorem join_ones(f:Nat->Nat)(k:Nat)(hk:k < 1000):∃ S:Str,S.length=k + 1/\nv .join (.str "") (.tup [L1 ((List.range (k + 1)).map fun i=>gu (f i))])=.ok (false,.str S):=by
 let ys:List Str:=(List.range (k + 1)).map fun (i:Nat)=>gu (f i)
 have gen:∀ xs:List Str,dv (xs.map .str)=some xs:=fun xs=>by
  induction xs with
  | nil=>rfl
  | cons x xs ih=>simp[dv,ih]
 have hst:=gen ys;have hyl:ys.length=k + 1:=by simp[ys]
 have hsum:(ys.map (·.length)).sum=k + 1:=by
  have:ys.map (·.length)=List.replicate ys.length 1:=by
   apply List.eq_replicate_iff.mpr;refine⟨by simp,fun b hb => ?_⟩
   obtain⟨y,hy,rfl⟩:=List.mem_map.mp hb;obtain⟨i,_,rfl⟩:=List.mem_map.mp hy;exact kT
  rw[this,hyl];simp
 have hjl:(Txt.join "" ys).length=k + 1:=by
  show(Builtin.Str.glued "" ys).length=_
  rw[size_glued,hsum,show("":Str).length=0 by decide];simp
 refine⟨Txt.join "" ys,hjl,?_⟩
 show nv .join (.str "") (.tup [.lst (ys.map .str)])=_
 unfold nv;simp only[hst];rw[if_pos];rw[Bool.and_eq_true,decide_eq_true_eq,decide_eq_true_eq];exact⟨by decide,by omega⟩
theorem HE(hμ:fZ μ F){k at' sz b q:Nat}{z:Str}{a9:Option D}(hb:Ω[b]?=some (.lst (bs μ c)))(hm:m<=24)(hk:k < m)(hz:z.length<=8)(qk:z.cps.toList[at']?=some (97 + ((μ c at' 26 + k) % 26).toNat)) :
  ∃ (z':Str) (aq:aF),Nm μ c m at' k z'/\jI F (NV c m k b sz at' q (some (.str z)) a9) Ω=.nx (NV c m k b sz at' q (some (.str z')) a9) aq/\ao [] Ω aq:=by
 obtain⟨w0,w1,hw1⟩:=hμ c 10 4 (by omega) (by omega) (by omega)
 by_cases hj:μ c 10 4=1/\m < 9
 ·have hm9:(m:Int) < 9:=by omega
  have Nu:dq (bs μ c) none (some ((k:Int) + 1))=(List.range (k + 1)).map fun (i:Nat)=>.int (μ c i 26):=by
   rw[show(k:Int) + 1=((k + 1:Nat):Int) by omega,w8,bs,← List.map_take,List.take_range,Nat.min_eq_left (by omega)]
  have hsl:gH (.ref b) none (some ((k:Int) + 1)) Ω=.ok (.ref Ω.length) (Ω++[.lst ((List.range (k + 1)).map fun (i:Nat)=>.int (μ c i 26))]):=by
   simp only[gH,aD hb,et,Nu]
  have g1:(Ω++[Cell.lst ((List.range (k + 1)).map fun (i:Nat)=>D.int (μ c i 26))])[Ω.length]?=some (.lst ((List.range (k + 1)).map fun (i:Nat)=>.int (μ c i 26))):=az
  have K1:ao [] Ω (Ω++[Cell.lst ((List.range (k + 1)).map fun (i:Nat)=>D.int (μ c i 26))]):=ao.app
  generalize Ω++[Cell.lst ((List.range (k + 1)).map fun (i:Nat)=>D.int (μ c i 26))]=ak at *
  have fJ:(aZ (b_ (U 4) true (ae .non) false (m2 (aJ .Add) (U 3) (ae (.int 1))))) (NV c m k b sz at' q (some (.str z)) a9) Ω=.ok (.seq (.ref Ω.length)) ak:=by
   have:=bb (x:=.ref Ω.length) (Ω:=ak) (by rw[aN,aD g1])
   simp[hsl,this]
  have hc:=cH (me:=m2 aA (U 1) (U 0)) (nc:=true) (mc:=ae .non) (cap:=[2]) (p:=fun _=>true) (g:=fun d=>match d with | .int j=>.str (gu (97 + j.toNat)) | _=>.non) fJ (by rw[bV,aN,aD g1]) (fun d hd=>rfl) (fun d hd _=>by
   obtain⟨i,hi,rfl⟩:=List.mem_map.mp hd;have hi0:i < k + 1:=by simpa using hi
   have hi':i < 8:=by omega
   obtain⟨q0,q1,_⟩:=hμ c i 26 (by omega) (by omega) (by omega)
   have hab:=sX q0 q1;simp[dh,hab]) (by simp;omega)
  rw[List.filter_eq_self.mpr (by simp),List.map_map]at hc
  have hmm:((List.range (k + 1)).map ((fun d:D=>match d with | .int j=>D.str (gu (97 + j.toNat)) | _=>.non) ∘ fun (i:Nat)=>D.int (μ c i 26)))=((List.range (k + 1)).map fun i=>gu (97 + (μ c (i:Nat) 26).toNat)).map .str:=by
   rw[List.map_map];rfl
  rw[hmm]at hc;obtain⟨S,hS,hjn⟩:=join_ones (fun i=>97 + (μ c (i:Nat) 26).toNat) k (by omega)
  have g2:(ak++[Cell.lst (((List.range (k + 1)).map fun i=>gu (97 + (μ c (i:Nat) 26).toNat)).map .str)])[ak.length]?=some (.lst (((List.range (k + 1)).map fun i=>gu (97 + (μ c (i:Nat) 26).toNat)).map .str)):=az
  have K2:ao [] ak (ak++[Cell.lst (((List.range (k + 1)).map fun i=>gu (97 + (μ c (i:Nat) 26).toNat)).map .str)]):=ao.app
  generalize ((List.range (k + 1)).map fun i=>gu (97 + (μ c (i:Nat) 26).toNat))=ys at *
  generalize ak++[Cell.lst (ys.map .str)]=av at *;have hr:=c8 (n:=7) g2;have hc':jC (NV c m k b sz at' q (some (.str z)) a9) Ω=.ok (.ref ak.length) av:=hc;refine⟨S,av,⟨by omega,by rw[if_pos hj];exact hS⟩,?_,K1.trans K2⟩
  have ra:(ay 8 (bP xk lh (ae (.str "")) (aa jC aj))) (NV c m k b sz at' q (some (.str z)) a9) Ω=.nx (NV c m k b sz at' q (some (.str S)) a9) av:=by
   rw[bD,dE (x:=.str "") (aq:=Ω) rfl rfl,d7,hc'];simp only[aQ,j5,lh,j8,oi,hr,gY,hjn,Au];rfl
  have rt:(cR (m2 (au .Eq) (mN (bo F) (aa (U 0) (aa (ae (.int 10)) (aa (ae (.int 4)) aj)))) (ae (.int 1))) (m2 (au .Lt) (U 1) (ae (.int 9)))) (NV c m k b sz at' q (some (.str z)) a9) Ω=.ok (.bl true) Ω:=by
   simp[hw1,hj.1,hm9]
  unfold jI;rw[bU,rt];simp only[oh,da,og,eh,if_true,ai,ra,aE,lE]
 ·refine⟨z,Ω,⟨hz,by rw[if_neg hj];exact qk⟩,?_,ao.refl⟩
  by_cases h1:μ c 10 4=1
  ·have hm9:¬ (m:Int) < 9:=fun h=>hj ⟨h1,by omega⟩
   simp[jI,hw1,h1,hm9]
  ·have hb:(μ c 10 4 == 1)=false:=by simpa using h1
   simp[jI,hw1,hb]
theorem AN(hμ:fZ μ F){k at' sz b q:Nat}{ws:List Str}{a8 a9:Option D}(hb:Ω[b]?=some (.lst (bs μ c)))(hq:Ω[q]?=some (.lst (ws.map .str)))(hm:m<=24)(hk:k < m)(hsz:sz<=8)(hat:at' < sz)(hw:ws.length<=900) :
  ∃ (z:Str) (Nv oM:Option D) (aq:aF),Nm μ c m at' k z/\qj F (NV c m k b sz at' q a8 a9) Ω=.nx (NV c m k b sz at' q Nv oM) aq/\aq[q]?=some (.lst ((ws++[z]).map .str))/\ao [q] Ω aq:=by
 obtain⟨z,oM,hz,qk,e⟩:=ye (m:=m) (q:=q) (a9:=a9) hμ hb (k:=k) (by omega) hsz hat
 obtain⟨z',ak,hn,e1,K1⟩:=HE (sz:=sz) (q:=q) (a9:=oM) hμ hb hm hk (by omega) qk
 have hin:hU (sz:Int)=true:=dQ (by omega) (by omega)
 have q1:=K1.get _ _ hq (by simp)
 have hap:=cP (d:=.str z') q1 (by simp;omega)
 have hL:=df q1;refine⟨z',some (.str z'),oM,ak.set q (.lst (ws.map .str++[.str z'])),hn,?_,by rw[cE q1];simp,(il.up K1).trans (ao.set (by simp))⟩
 have r1:(ay 8 (ae (.str ""))) (NV c m k b sz at' q a8 a9) Ω=.nx (NV c m k b sz at' q (some (.str "")) a9) Ω:=rfl
 have r2:(cD (bu 9) (bt (aa (U 5) aj)) yd) (NV c m k b sz at' q (some (.str "")) a9) Ω=.nx (NV c m k b sz at' q (some (.str z)) oM) Ω:=by
  rw[dc];have:bt (aa (U 5) aj) (NV c m k b sz at' q (some (.str "")) a9) Ω=.ok (.ints 0 sz) Ω:=by simp[hin]
  rw[this,eh,e]
 have r4:(dZ (bP eX bf (U 7) (aa (U 8) aj))) (NV c m k b sz at' q (some (.str z')) oM) ak=.nx (NV c m k b sz at' q (some (.str z')) oM) (ak.set q (.lst (ws.map .str++[.str z']))):=by
  rw[ff,dE (x:=.ref q) (aq:=ak) (by simp) hL]
  simp[hap]
 unfold qj;rw[ai,r1,aE,ai,r2,aE,ai,e1,aE,ai,r4];rfl
def HF(N:bg):Prop:=∀ (Ω:aF) (c:Int) (m:Nat),2<=m->m<=24->∃ (xs:List Str) (q:Nat) (aq:aF),xs.Nodup/\xs.length=m/\N [.int c,.int m] Ω=.ok (.ref q) aq/\aq[q]?=some (.lst (xs.map .str))/\ao [] Ω aq
theorem HG(hμ:fZ μ F):HF (bC 11 2 (DG F)):=by
 intro Ω c m hm2 hm;rw[bK (by rfl)]
 have e0:aS 11 [D.int c,.int m]=[some (.int c),some (.int m),none,none,none,none,none,none,none,none,none]:=rfl;rw[e0];obtain⟨a0,a1,ha⟩:=hμ c 8 8 (by omega) (by omega) (by omega)
 obtain⟨b0,b1,hb⟩:=hμ c 9 (1 + μ c 8 8) (by omega) (by omega) (by omega)
 obtain⟨t0,t1,ht⟩:=hμ c 11 (m:Int) (by omega) (by omega) (by omega)
 obtain⟨sz,hsz⟩:∃ sz:Nat,(sz:Int)=1 + μ c 8 8:=⟨(1 + μ c 8 8).toNat,by omega⟩
 obtain⟨at',hat⟩:∃ at':Nat,(at':Int)=μ c 9 (1 + μ c 8 8):=⟨(μ c 9 (1 + μ c 8 8)).toNat,by omega⟩
 obtain⟨tn,htn⟩:∃ tn:Nat,(tn:Int)=μ c 11 (m:Int):=⟨(μ c 11 (m:Int)).toNat,by omega⟩
 have Nw:hU 8=true:=dQ (by omega) (by omega)
 have hin:hU (m:Int)=true:=dQ (by omega) (by omega)
 have hbs:=cH (Ω:=Ω) (aq:=Ω) (ρ:=[some (.int c),some (.int m),some (.str abc),none,none,none,none,none,none,none,none]) (me:=mN (bo F) (aa (U 1) (aa (U 0) (aa (ae (.int 26)) aj)))) (nc:=true) (mc:=ae .non) (mi:=bt (aa (ae (.int 8)) aj)) (cap:=[0]) (src:=.ints 0 8) (ds:=intsFrom 0 8) (p:=fun _=>true) (g:=fun d=>match d with | .int j=>.int (μ c j 26) | _=>.non)
  (by simp[Nw]) rfl (fun d hd=>rfl) (fun d hd _=>by
   obtain⟨i,hi⟩:=List.mem_iff_getElem?.mp hd;obtain⟨rfl,hlt⟩:=dR hi;obtain⟨_,_,q⟩:=hμ c (0 + (i:Int)) 26 (by omega) (by omega) (by omega)
   generalize (0 + (i:Int))=j at *;simp[dh,q]) (by rw[b7];omega)
 rw[List.filter_eq_self.mpr (by simp),mL,List.map_map]at hbs
 have hbs:HD F [some (.int c),some (.int m),some (.str abc),none,none,none,none,none,none,none,none] Ω=.ok (.ref Ω.length) (Ω++[.lst (bs μ c)]):=hbs;have g1:(Ω++[Cell.lst (bs μ c)])[Ω.length]?=some (.lst (bs μ c)):=az;have K1:ao [] Ω (Ω++[Cell.lst (bs μ c)]):=ao.app;have r1:(ay 2 (ae (.str "abcdefghijklmnopqrstuvwxyz"))) [some (.int c),some (.int m),none,none,none,none,none,none,none,none,none] Ω=.nx [some (.int c),some (.int m),some (.str abc),none,none,none,none,none,none,none,none] Ω:=rfl
 have r2:(ay 4 (HD F)) [some (.int c),some (.int m),some (.str abc),none,none,none,none,none,none,none,none] Ω=.nx [some (.int c),some (.int m),some (.str abc),none,some (.ref Ω.length),none,none,none,none,none,none] (Ω++[Cell.lst (bs μ c)]):=by
  rw[bD,hbs];rfl
 have GL:=dj g1;generalize Ω++[Cell.lst (bs μ c)]=ak at *
 have r3:(ay 5 (m2 (aJ .Add) (ae (.int 1)) (mN (bo F) (aa (U 0) (aa (ae (.int 8)) (aa (ae (.int 8)) aj)))))) [some (.int c),some (.int m),some (.str abc),none,some (.ref Ω.length),none,none,none,none,none,none] ak=.nx [some (.int c),some (.int m),some (.str abc),none,some (.ref Ω.length),some (.int sz),none,none,none,none,none] ak:=by
  rw[hsz];simp[ha]
 have r4:(ay 6 (mN (bo F) (aa (U 0) (aa (ae (.int 9)) (aa (U 5) aj))))) [some (.int c),some (.int m),some (.str abc),none,some (.ref Ω.length),some (.int sz),none,none,none,none,none] ak=.nx [some (.int c),some (.int m),some (.str abc),none,some (.ref Ω.length),some (.int sz),some (.int at'),none,none,none,none] ak:=by
  rw[hat,hsz];simp[hb]
 have g2:(ak++[Cell.lst []])[ak.length]?=some (.lst (([]:List Str).map .str)):=az;have K2:ao [] ak (ak++[Cell.lst []]):=ao.app;have r5:(ay 7 (mN bA aj)) [some (.int c),some (.int m),some (.str abc),none,some (.ref Ω.length),some (.int sz),some (.int at'),none,none,none,none] ak=.nx [some (.int c),some (.int m),some (.str abc),none,some (.ref Ω.length),some (.int sz),some (.int at'),some (.ref ak.length),none,none,none] (ak++[Cell.lst []]):=by simp[aW]
 have AJ:=K2.get _ _ g1 (by simp)
 have AO:=K1.trans K2;generalize Tb:ak++[Cell.lst []]=av at *
 have hL:∃ (ws:List Str) (a3 a8 a9:Option D) (aM:aF),ws.length=m/\(∀ j z,ws[j]?=some z->Nm μ c m at' j z)/\fb (bu 3) (.ints 0 m) (qj F) fuel 0 [some (.int c),some (.int m),some (.str abc),none,some (.ref Ω.length),some (.int sz),some (.int at'),some (.ref ak.length),none,none,none] av=.nx [some (.int c),some (.int m),some (.str abc),a3,some (.ref Ω.length),some (.int sz),some (.int at'),some (.ref ak.length),a8,a9,none] aM/\aM[ak.length]?=some (.lst (ws.map .str))/\ao [ak.length] av aM:=by
  refine cw (R:=fun r=>∃ (ws:List Str) (a3 a8 a9:Option D) (aM:aF),ws.length=m/\(∀ j z,ws[j]?=some z->Nm μ c m at' j z)/\r=.nx [some (.int c),some (.int m),some (.str abc),a3,some (.ref Ω.length),some (.int sz),some (.int at'),some (.ref ak.length),a8,a9,none] aM/\aM[ak.length]?=some (.lst (ws.map .str))/\ao [ak.length] av aM) (ds:=intsFrom 0 m)
   (fun i ρ aM=>∃ (ws:List Str) (a3 a8 a9:Option D),ws.length=i/\(∀ j z,ws[j]?=some z->Nm μ c m at' j z)/\ρ=[some (.int c),some (.int m),some (.str abc),a3,some (.ref Ω.length),some (.int sz),some (.int at'),some (.ref ak.length),a8,a9,none]/\aM[ak.length]?=some (.lst (ws.map .str))/\ao [ak.length] av aM) (fun _ _ _ _=>rfl) ?_ ?_ fuel 0 _ _ (by rw[b7];unfold fuel;omega) (Nat.zero_le _) ⟨[],none,none,none,rfl,fun j z h=>by simp at h,rfl,g2,ao.refl⟩
  ·rintro i d ρ aM hd ⟨ws,a3,a8,a9,hw,hnm,rfl,hq,K⟩
   obtain⟨rfl,hlt⟩:=dR hd;rw[show(0:Int) + (i:Int)=(i:Int) by omega]
   refine⟨NV c m i Ω.length sz at' ak.length a8 a9,rfl,?_⟩;obtain⟨z,Nv,oM,cX,hz,e,hq',K'⟩:=AN (a8:=a8) (a9:=a9) hμ (K.get _ _ AJ (by simp;omega)) hq hm hlt (show sz<=8 by omega) (show at' < sz by omega) (by omega)
   rw[e];refine⟨ws++[z],some (.int i),Nv,oM,by rw[List.length_append,List.length_singleton];omega,fun j y hj => ?_,rfl,hq',K.trans K'⟩
   by_cases hjl:j < ws.length
   ·rw[List.getElem?_append_left hjl]at hj
    exact hnm j y hj
   ·rw[List.getElem?_append_right (by omega)]at hj
    have hj0:j - ws.length=0:=by
     have:=(List.getElem?_eq_some_iff.mp hj).1;simp at this;omega
    rw[hj0]at hj;have hy:z=y:=by simpa using hj
    subst hy;obtain rfl:j=i:=by omega
    exact hz
  ·rintro ρ aM ⟨ws,a3,a8,a9,hw,hnm,rfl,hq,K⟩
   rw[b7]at hw;exact⟨ws,a3,a8,a9,aM,hw,hnm,rfl,hq,K⟩
 obtain⟨ws,a3,a8,a9,aM,hw,hnm,eL,hq,K3⟩:=hL
 have hnd:ws.Nodup:=by
  refine List.pairwise_iff_getElem.mpr fun i j hi hj hij heq => ?_
  have:=GJ (m:=m) (by omega) (by omega) hm (hnm i _ (List.getElem?_eq_getElem hi)) (hnm j _ (List.getElem?_eq_getElem hj)) heq
  omega
 have hperm:(ws.drop tn++ws.take tn).Perm ws:=by
  have:=(List.perm_append_comm (l₁:=ws.drop tn) (l₂:=ws.take tn));rwa[List.take_append_drop]at this
 have r6:(cD (bu 3) (bt (aa (U 1) aj)) (qj F)) [some (.int c),some (.int m),some (.str abc),none,some (.ref Ω.length),some (.int sz),some (.int at'),some (.ref ak.length),none,none,none] av=.nx [some (.int c),some (.int m),some (.str abc),a3,some (.ref Ω.length),some (.int sz),some (.int at'),some (.ref ak.length),a8,a9,none] aM:=by
  rw[dc];have:bt (aa (U 1) aj) [some (.int c),some (.int m),some (.str abc),none,some (.ref Ω.length),some (.int sz),some (.int at'),some (.ref ak.length),none,none,none] av=.ok (.ints 0 m) av:=by simp[hin]
  rw[this,eh,eL]
 have r7:(ay 10 (mN (bo F) (aa (U 0) (aa (ae (.int 11)) (aa (U 1) aj))))) [some (.int c),some (.int m),some (.str abc),a3,some (.ref Ω.length),some (.int sz),some (.int at'),some (.ref ak.length),a8,a9,none] aM=.nx [some (.int c),some (.int m),some (.str abc),a3,some (.ref Ω.length),some (.int sz),some (.int at'),some (.ref ak.length),a8,a9,some (.int tn)] aM:=by
  rw[htn];simp[ht]
 have s1:=xU (i:=tn) hq;have g3:(aM++[Cell.lst ((ws.drop tn).map .str)])[aM.length]?=some (.lst ((ws.drop tn).map .str)):=az;have K4:ao [] aM (aM++[Cell.lst ((ws.drop tn).map .str)]):=ao.app;have Tc:=K4.get _ _ hq (by simp)
 generalize aM++[Cell.lst ((ws.drop tn).map .str)]=cX at *;have s2:=rJ (n:=tn) Tc;have g4:(cX++[Cell.lst ((ws.take tn).map .str)])[cX.length]?=some (.lst ((ws.take tn).map .str)):=az;have K5:ao [] cX (cX++[Cell.lst ((ws.take tn).map .str)]):=ao.app;have Td:=K5.get _ _ g3 (by simp)
 generalize cX++[Cell.lst ((ws.take tn).map .str)]=gf at *;have hsm:small (((ws.drop tn).map D.str).length + ((ws.take tn).map D.str).length)=true:=aW (by simp;omega)
 refine⟨ws.drop tn++ws.take tn,gf.length,gf++[.lst ((ws.drop tn).map .str++(ws.take tn).map .str)],hperm.nodup_iff.mpr hnd,by rw[hperm.length_eq];exact hw,?_,by rw[List.map_append];exact az,ao.new AO (K3.trans (il.up ((K4.trans K5).trans ao.app))) (by simpa using K1.len)⟩
 unfold DG;rw[ai,r1,aE,ai,r2,aE,ai,r3,aE,ai,r4,aE,ai,r5,aE,ai,r6,aE,ai,r7,aE]
 have rr:(m2 (aJ .Add) (b_ (U 7) false (U 10) true (ae .non)) (b_ (U 7) true (ae .non) false (U 10))) [some (.int c),some (.int m),some (.str abc),a3,some (.ref Ω.length),some (.int sz),some (.int at'),some (.ref ak.length),a8,a9,some (.int tn)] aM=.ok (.ref gf.length) (gf++[.lst ((ws.drop tn).map .str++(ws.take tn).map .str)]):=by
  simp only[dm,lG,fc,List.getElem?_cons_zero,List.getElem?_cons_succ,fV,aQ,ou,oq,ow,s1,s2,p7,tK,aD Td,aD g4,tJ];rw[if_pos hsm];rfl
 rw[ai,cU,rr];rfl
end
section
variable{Ω aq:aF}{ρ:aU}{F C:List D->Out Rs}{μ:Int->Int->Int->Int}{κ:List Int->Nat->Int}{c:Int}{m:Nat}
def Le(F:List D->Out Rs):EM:=(mN (bo F) (aa (U 0) (aa (m2 (aJ .Add) (U 1) (U 5)) (aa (mN (aX .len) (aa (U 3) aj)) aj))))
def yf(F:List D->Out Rs):SM:=(ah (dZ (bP eX bf (U 4) (aa (bP eX gJ (U 3) (aa (Le F) aj)) aj))) ag)
def DI(F:List D->Out Rs):SM:=
 (ah (ay 3 (mN (aX .list) (aa (U 2) aj)))
 (ah (ay 4 (mN bA aj))
 (ah (cD (bu 5) (bt (aa (mN (aX .len) (aa (U 2) aj)) aj)) (yf F))
 (ah (aH (U 4))
 ag))))
theorem u0{k n:Nat}{ds:List D}{d:D}{i:Int}(h:Ω[k]?=some (.lst ds))(hi:L2.sr ds.length i=some n)(hd:ds[n]?=some d)(Nx:hU i=true):gJ (.ref k) [.int i] Ω=.ok d (Ω.set k (.lst (ds.eraseIdx n))):=by
 simp only[gJ,tI h,Nx,if_true,hi,hd]
theorem DJ(hμ:fZ μ F){t:Int}{x p f i:Nat}{ps fs:List Str}(hp:Ω[p]?=some (.lst (ps.map .str)))(hf:Ω[f]?=some (.lst (fs.map .str)))(hpf:p≠f)(ht:0<=t)(ht':t < 1000)(hi:i < 1000)(hl:0 < ps.length)(hl':ps.length<=900)(hfl:fs.length<=900) :
  ∃ (q:Nat) (hq:q < ps.length) (aq:aF),yf F [some (.int c),some (.int t),some (.ref x),some (.ref p),some (.ref f),some (.int i)] Ω=.nx [some (.int c),some (.int t),some (.ref x),some (.ref p),some (.ref f),some (.int i)] aq/\aq[p]?=some (.lst ((ps.eraseIdx q).map .str))/\aq[f]?=some (.lst ((fs++[ps[q]]).map .str))/\ao [p,f] Ω aq:=by
 obtain⟨m0,m1,hm⟩:=hμ c (t + (i:Int)) (ps.length:Int) (by omega) (by omega) (by omega)
 generalize μ c (t + (i:Int)) (ps.length:Int)=q at *;have hq:q.toNat < ps.length:=by omega
 have hix:L2.sr (ps.map D.str).length q=some q.toNat:=by
  unfold L2.sr;rw[if_pos m0,if_pos (by simpa using m1)]
 have Nx:hU q=true:=dQ (by omega) (by omega)
 have hd:(ps.map D.str)[q.toNat]?=some (.str ps[q.toNat]):=by simp[hq]
 have HH:=u0 hp hix hd Nx;rw[mM]at HH;have hlen:=de hp;rw[List.length_map]at hlen
 have e1:Le F [some (.int c),some (.int t),some (.ref x),some (.ref p),some (.ref f),some (.int i)] Ω=.ok (.int q) Ω:=by
  simp[Le,hlen,hm]
 have K1:ao [p,f] Ω (Ω.set p (.lst ((ps.eraseIdx q.toNat).map .str))):=ao.set (by simp)
 have p1:(Ω.set p (.lst ((ps.eraseIdx q.toNat).map .str)))[p]?=some (.lst ((ps.eraseIdx q.toNat).map .str)):=cE hp;have f1:(Ω.set p (.lst ((ps.eraseIdx q.toNat).map .str)))[f]?=some (.lst (fs.map .str)):=fW hf (Ne.symm hpf)
 have e2:(bP eX gJ (U 3) (aa (Le F) aj)) [some (.int c),some (.int t),some (.ref x),some (.ref p),some (.ref f),some (.int i)] Ω=.ok (.str ps[q.toNat]) (Ω.set p (.lst ((ps.eraseIdx q.toNat).map .str))):=by
  rw[dE (x:=.ref p) (aq:=Ω) (by simp) (df hp),d7,e1]
  exact HH
 generalize Ω.set p (.lst ((ps.eraseIdx q.toNat).map .str))=ak at *;have hap:=cP (d:=.str ps[q.toNat]) f1 (by simp;omega)
 refine⟨q.toNat,hq,ak.set f (.lst (fs.map .str++[.str ps[q.toNat]])),?_,fW p1 hpf,by rw[cE f1];simp,K1.trans (ao.set (by simp))⟩
 unfold yf;rw[ai,ff,dE (x:=.ref f) (aq:=Ω) (by simp) (df hf),d7,e2]
 simp only[aQ,j5,hap,eh,aE,lE]
def DK(S:bg):Prop:=∀ (Ω:aF) (c t:Int) (x:Nat) (xs:List Str),0<=t->t < 1000->xs.length<=900->Ω[x]?=some (.lst (xs.map .str))->∃ (ys:List Str) (q:Nat) (aq:aF),ys.Perm xs/\S [.int c,.int t,.ref x] Ω=.ok (.ref q) aq/\aq[q]?=some (.lst (ys.map .str))/\ao [] Ω aq
theorem HI(hμ:fZ μ F):DK (bC 6 3 (DI F)):=by
 intro Ω c t x xs ht ht' hx hX;rw[bK (by rfl)]
 have e0:aS 6 [D.int c,.int t,.ref x]=[some (.int c),some (.int t),some (.ref x),none,none,none]:=rfl;rw[e0];have hl:=jq hX;have g1:(Ω++[Cell.lst (xs.map .str)])[Ω.length]?=some (.lst (xs.map .str)):=az;have K1:ao [] Ω (Ω++[Cell.lst (xs.map .str)]):=ao.app;have Te:=K1.get _ _ hX (by simp)
 have r1:(ay 3 (mN (aX .list) (aa (U 2) aj))) [some (.int c),some (.int t),some (.ref x),none,none,none] Ω=.nx [some (.int c),some (.int t),some (.ref x),some (.ref Ω.length),none,none] (Ω++[Cell.lst (xs.map .str)]):=by simp[hl]
 have xl:=dj hX;generalize Ω++[Cell.lst (xs.map .str)]=ak at *;have g2:(ak++[Cell.lst []])[ak.length]?=some (.lst (([]:List Str).map .str)):=az;have K2:ao [] ak (ak++[Cell.lst []]):=ao.app;have r2:(ay 4 (mN bA aj)) [some (.int c),some (.int t),some (.ref x),some (.ref Ω.length),none,none] ak=.nx [some (.int c),some (.int t),some (.ref x),some (.ref Ω.length),some (.ref ak.length),none] (ak++[Cell.lst []]):=by simp[aW]
 have AJ:=K2.get _ _ g1 (by simp)
 have hX2:=K2.get _ _ Te (by simp)
 have pl:=dj g1;generalize ak++[Cell.lst []]=av at *;have hlen:=de hX2;rw[List.length_map]at hlen;have hin:hU (xs.length:Int)=true:=dQ (by omega) (by omega)
 have hL:∃ (fs:List Str) (a5:Option D) (aM:aF),fs.Perm xs/\fb (bu 5) (.ints 0 xs.length) (yf F) fuel 0 [some (.int c),some (.int t),some (.ref x),some (.ref Ω.length),some (.ref ak.length),none] av=.nx [some (.int c),some (.int t),some (.ref x),some (.ref Ω.length),some (.ref ak.length),a5] aM/\aM[ak.length]?=some (.lst (fs.map .str))/\ao [Ω.length,ak.length] av aM:=by
  refine cw (R:=fun r=>∃ (fs:List Str) (a5:Option D) (aM:aF),fs.Perm xs/\r=.nx [some (.int c),some (.int t),some (.ref x),some (.ref Ω.length),some (.ref ak.length),a5] aM/\aM[ak.length]?=some (.lst (fs.map .str))/\ao [Ω.length,ak.length] av aM) (ds:=intsFrom 0 xs.length)
   (fun i ρ aM=>∃ (ps fs:List Str) (a5:Option D),(fs++ps).Perm xs/\fs.length=i/\ρ=[some (.int c),some (.int t),some (.ref x),some (.ref Ω.length),some (.ref ak.length),a5]/\aM[Ω.length]?=some (.lst (ps.map .str))/\aM[ak.length]?=some (.lst (fs.map .str))/\ao [Ω.length,ak.length] av aM) (fun _ _ _ _=>rfl) ?_ ?_ fuel 0 _ _ (by rw[b7];unfold fuel;omega) (Nat.zero_le _) ⟨xs,[],none,by simp,rfl,rfl,AJ,g2,ao.refl⟩
  ·rintro i d ρ aM hd ⟨ps,fs,a5,hp,hfl,rfl,h1,h2,K⟩
   obtain⟨rfl,hlt⟩:=dR hd;rw[show(0:Int) + (i:Int)=(i:Int) by omega]
   have hpl:fs.length + ps.length=xs.length:=by have:=hp.length_eq;rwa[List.length_append]at this
   refine⟨[some (.int c),some (.int t),some (.ref x),some (.ref Ω.length),some (.ref ak.length),some (.int i)],rfl,?_⟩;obtain⟨q,hq,cX,e,h3,h4,K'⟩:=DJ (c:=c) (x:=x) hμ h1 h2 (by omega) ht ht' (show i < 1000 by omega) (by omega) (by omega) (by omega)
   rw[e];refine⟨ps.eraseIdx q,fs++[ps[q]],some (.int i),?_,by rw[List.length_append,List.length_singleton];omega,rfl,h3,h4,K.trans K'⟩
   refine List.Perm.trans ?_ hp;rw[List.append_assoc];exact List.Perm.append_left fs (kX ps q hq)
  ·rintro ρ aM ⟨ps,fs,a5,hp,hfl,rfl,h1,h2,K⟩
   rw[b7]at hfl
   have hps:ps=[]:=by
    have:=hp.length_eq;rw[List.length_append]at this;exact List.eq_nil_of_length_eq_zero (by omega)
   subst hps;exact⟨fs,a5,aM,by simpa using hp,rfl,h2,K⟩
 obtain⟨fs,a5,aM,hp,eL,h2,K3⟩:=hL;refine⟨fs,ak.length,aM,hp,?_,h2,ao.new (K1.trans K2) K3 (by simp;omega)⟩
 have r3:(cD (bu 5) (bt (aa (mN (aX .len) (aa (U 2) aj)) aj)) (yf F)) [some (.int c),some (.int t),some (.ref x),some (.ref Ω.length),some (.ref ak.length),none] av=.nx [some (.int c),some (.int t),some (.ref x),some (.ref Ω.length),some (.ref ak.length),a5] aM:=by
  rw[dc];have:bt (aa (mN (aX .len) (aa (U 2) aj)) aj) [some (.int c),some (.int t),some (.ref x),some (.ref Ω.length),some (.ref ak.length),none] av=.ok (.ints 0 xs.length) av:=by simp[hlen,hin]
  rw[this,eh,eL]
 unfold DI;rw[ai,r1,aE,ai,r2,aE,ai,r3];rfl
def QK:EM:=(m2 aA (U 2) (U 0))
def Ny(F:List D->Out Rs):EM:=(m2 (au .Lt) (mN (bo F) (aa (U 1) (aa (m2 (aJ .Add) (ae (.int 1)) (U 0)) (aa (ae (.int 4)) aj)))) (U 3))
def Nz:IM:=(bt (aa (mN (aX .len) (aa (U 1) aj)) aj))
def DL(F:List D->Out Rs):SM:=
 (ah (ay 2 (m2 (aJ .Add) (ae (.int 1)) (mN (bo F) (aa (U 0) (aa (ae (.int 0)) (aa (ae (.int 4)) aj))))))
 (ah (aH (bp QK false (Ny F) Nz 0 [0,1,2]))
 ag))
def HJ(P:bg):Prop:=∀ (Ω:aF) (c:Int) (x:Nat) (xs:List Str),xs.length<=900->Ω[x]?=some (.lst (xs.map .str))->∃ ys:List Str,ys.Sublist xs/\P [.int c,.ref x] Ω=.ok (.ref Ω.length) (Ω++[.lst (ys.map .str)])
theorem HK(hμ:fZ μ F):HJ (bC 3 2 (DL F)):=by
 intro Ω c x xs hx hX;rw[bK (by rfl)]
 have e0:aS 3 [D.int c,.ref x]=[some (.int c),some (.ref x),none]:=rfl;rw[e0];obtain⟨a0,a1,ha⟩:=hμ c 0 4 (by omega) (by omega) (by omega)
 have hin:hU (xs.length:Int)=true:=dQ (by omega) (by omega)
 have hlen:=de hX;rw[List.length_map]at hlen
 have hc:=cH (Ω:=Ω) (aq:=Ω) (ρ:=[some (.int c),some (.ref x),some (.int (1 + μ c 0 4))]) (me:=QK) (nc:=false) (mc:=Ny F) (mi:=Nz) (cap:=[0,1,2]) (src:=.ints 0 xs.length) (ds:=intsFrom 0 xs.length)
  (p:=fun d=>match d with | .int j=>decide (μ c (1 + j) 4 < 1 + μ c 0 4) | _=>false) (g:=fun d=>match d with | .int j=>.str (xs.getD j.toNat "") | _=>.non)
  (by simp[Nz,hlen,hin]) rfl (fun d hd=>by
   obtain⟨i,hi⟩:=List.mem_iff_getElem?.mp hd;obtain⟨rfl,hlt⟩:=dR hi;obtain⟨_,_,q⟩:=hμ c (1 + (0 + (i:Int))) 4 (by omega) (by omega) (by omega)
   generalize (0 + (i:Int))=j at *;simp[gK,Ny,dh,q]) (fun d hd _=>by
   obtain⟨i,hi⟩:=List.mem_iff_getElem?.mp hd;obtain⟨rfl,hlt⟩:=dR hi;rw[show(0:Int) + (i:Int)=(i:Int) by omega]
   have e:L2.i9 (xs.map D.str) (i:Int)=some (.str (xs.getD i "")):=L2.a_ (by simp[hlt])
   exact bq hX e) (by rw[b7];omega)
 refine⟨((List.range xs.length).filter fun (i:Nat)=>decide (μ c (1 + (i:Int)) 4 < 1 + μ c 0 4)).map fun i=>xs.getD i "",uG xs "" _,?_⟩
 rw[mL,List.filter_map,List.map_map]at hc;have e1:(ay 2 (m2 (aJ .Add) (ae (.int 1)) (mN (bo F) (aa (U 0) (aa (ae (.int 0)) (aa (ae (.int 4)) aj)))))) [some (.int c),some (.ref x),none] Ω=.nx [some (.int c),some (.ref x),some (.int (1 + μ c 0 4))] Ω:=by simp[ha]
 unfold DL;rw[ai,e1,aE,ai,cU,hc];simp only[eh,Hg,Ay,List.map_map];rfl
def NA(F C:List D->Out Rs)(S N:bg):SM:=
 (ah (aH (mN (aP S) (aa (mN (bo C) (aa (U 0) (aa (ae (.int 2)) aj))) (aa (ae (.int 0)) (aa (mN (aP N) (aa (mN (bo C) (aa (U 0) (aa (ae (.int 1)) aj))) (aa (U 2) aj))) aj)))))
 ag)
def AQ(F C:List D->Out Rs)(S N:bg):SM:=
 (ah (ay 1 (mN (bo C) (aa (U 0) (aa (ae (.int 0)) aj))))
 (ah (ay 2 (m2 (aJ .Add) (ae (.int 2)) (mN (bo F) (aa (U 1) (aa (ae (.int 0)) (aa (ae (.int 7)) aj))))))
 (ah (b8 (m2 (au .Eq) (mN (bo F) (aa (U 1) (aa (ae (.int 1)) (aa (ae (.int 12)) aj)))) (ae (.int 5)))
 (ah (ay 2 (ae (.int 24)))
 ag)
 ag)
 (NA F C S N))))
def HL(O:bg):Prop:=∀ (Ω:aF) ns,∃ (xs:List Str) (q:Nat) (aq:aF),xs.Nodup/\2<=xs.length/\xs.length<=24/\O [SC ns] Ω=.ok (.ref q) aq/\aq[q]?=some (.lst (xs.map .str))/\ao [] Ω aq
theorem HM{S N:bg}(hμ:fZ μ F)(p8:kW κ C)(hS:DK S)(hN:HF N):HL (bC 3 1 (AQ F C S N)):=by
 intro Ω ns;rw[bK (by rfl)]
 have e0:aS 3 [SC ns]=[some (SC ns),none,none]:=rfl;rw[e0];obtain⟨a0,a1,ha⟩:=hμ (κ ns 0) 0 7 (by omega) (by omega) (by omega)
 obtain⟨b0,b1,hb⟩:=hμ (κ ns 0) 1 12 (by omega) (by omega) (by omega)
 have k0:C [SC ns,.int 0]=.ok (false,.int (κ ns 0)):=p8 ns 0;have k1:C [SC ns,.int 1]=.ok (false,.int (κ ns 1)):=p8 ns 1;have k2:C [SC ns,.int 2]=.ok (false,.int (κ ns 2)):=p8 ns 2
 have main:∀ m:Nat,2<=m->m<=24->∃ (xs:List Str) (q:Nat) (aq:aF),xs.Nodup/\2<=xs.length/\xs.length<=24/\eS (NA F C S N [some (SC ns),some (.int (κ ns 0)),some (.int m)] Ω)=.ok (.ref q) aq/\aq[q]?=some (.lst (xs.map .str))/\ao [] Ω aq:=by
  intro m h2 Tf;obtain⟨xs,q,ak,x1,x2,x3,x4,K1⟩:=hN Ω (κ ns 1) m h2 Tf;obtain⟨ys,q',av,y1,y2,y3,K2⟩:=hS ak (κ ns 2) 0 q xs (by omega) (by omega) (by omega) x4
  refine⟨ys,q',av,y1.nodup_iff.mpr x1,by rw[y1.length_eq];omega,by rw[y1.length_eq];omega,?_,y3,K1.trans K2⟩
  simp[NA,k1,k2,x3,y2]
 have r1:(ay 1 (mN (bo C) (aa (U 0) (aa (ae (.int 0)) aj)))) [some (SC ns),none,none] Ω=.nx [some (SC ns),some (.int (κ ns 0)),none] Ω:=by simp[k0]
 have r2:(ay 2 (m2 (aJ .Add) (ae (.int 2)) (mN (bo F) (aa (U 1) (aa (ae (.int 0)) (aa (ae (.int 7)) aj)))))) [some (SC ns),some (.int (κ ns 0)),none] Ω=.nx [some (SC ns),some (.int (κ ns 0)),some (.int (2 + μ (κ ns 0) 0 7))] Ω:=by simp[ha]
 by_cases h5:μ (κ ns 0) 1 12=5
 ·obtain⟨xs,q,aq,x1,x2,x3,x4,x5⟩:=main 24 (by omega) (by omega)
  refine⟨xs,q,aq,x1,x2,x3,?_,x5⟩;rw[← x4];have r3:(b8 (m2 (au .Eq) (mN (bo F) (aa (U 1) (aa (ae (.int 1)) (aa (ae (.int 12)) aj)))) (ae (.int 5))) (ah (ay 2 (ae (.int 24))) ag) ag) [some (SC ns),some (.int (κ ns 0)),some (.int (2 + μ (κ ns 0) 0 7))] Ω=.nx [some (SC ns),some (.int (κ ns 0)),some (.int 24)] Ω:=by simp[hb,h5]
  unfold AQ;rw[ai,r1,aE,ai,r2,aE,ai,r3,aE];rfl
 ·obtain⟨xs,q,aq,x1,x2,x3,x4,x5⟩:=main (2 + μ (κ ns 0) 0 7).toNat (by omega) (by omega)
  refine⟨xs,q,aq,x1,x2,x3,?_,x5⟩;rw[show(((2 + μ (κ ns 0) 0 7).toNat:Nat):Int)=2 + μ (κ ns 0) 0 7 by omega]at x4
  rw[← x4];have Tg:(μ (κ ns 0) 1 12 == 5)=false:=by simpa using h5
  have r3:(b8 (m2 (au .Eq) (mN (bo F) (aa (U 1) (aa (ae (.int 1)) (aa (ae (.int 12)) aj)))) (ae (.int 5))) (ah (ay 2 (ae (.int 24))) ag) ag) [some (SC ns),some (.int (κ ns 0)),some (.int (2 + μ (κ ns 0) 0 7))] Ω=.nx [some (SC ns),some (.int (κ ns 0)),some (.int (2 + μ (κ ns 0) 0 7))] Ω:=by simp[hb,Tg]
  unfold AQ;rw[ai,r1,aE,ai,r2,aE,ai,r3,aE]
def NB(C:List D->Out Rs)(P:bg):EM:=(mN (aP P) (aa (mN (bo C) (aa (U 2) (aa (m2 (aJ .Add) (ae (.int 3)) (U 0)) aj))) (aa (U 1) aj)))
def NC(C:List D->Out Rs)(P:bg):SM:=
 (ah (aH (bp (NB C P) true (ae .non) (bt (aa (mN (aX .min) (aa (U 4) (aa (U 2) aj))) aj)) 0 [1,0]))
 ag)
def DM(F C:List D->Out Rs)(P:bg):SM:=
 (ah (ay 3 (mN (bo C) (aa (U 0) (aa (ae (.int 0)) aj))))
 (ah (ay 4 (m2 (aJ .Add) (ae (.int 1)) (mN (bo F) (aa (U 3) (aa (ae (.int 2)) (aa (ae (.int 6)) aj))))))
 (ah (b8 (cR (m2 (au .Eq) (mN (bo F) (aa (U 3) (aa (ae (.int 3)) (aa (ae (.int 8)) aj)))) (ae (.int 3))) (m2 (au .Lt) (mN (aX .len) (aa (U 1) aj)) (ae (.int 9))))
 (ah (ay 4 (ae (.int 12)))
 ag)
 ag)
 (NC C P))))
def HN(W:bg):Prop:=∀ (Ω:aF) ns (x:Nat) (xs:List Str) (m:Nat),m<=12->xs.length<=24->Ω[x]?=some (.lst (xs.map .str))->∃ (rs:List (List Str)) (k:Nat) (js:List Nat) (aq:aF),(∀ r∈rs,r.Sublist xs)/\rs.length<=m/\W [SC ns,.ref x,.int m] Ω=.ok (.ref k) aq/\Rw aq k js rs/\ao [] Ω aq
theorem ND{j m:Int}(h0:0<=j)(hm:0<=m):∃ r:Int,aX .min [.int j,.int m] Ω=.ok (.int r) Ω/\0<=r/\r<=m:=by
 refine⟨if m < j then m else j,?_,?_,?_⟩
 ·show jj .min [.int j,.int m] Ω=_
  unfold jj;rw[i5];simp
 ·split<;>omega
 ·split<;>omega
theorem HP{P:bg}(hμ:fZ μ F)(p8:kW κ C)(hP:HJ P):HN (bC 5 3 (DM F C P)):=by
 intro Ω ns x xs mm hmm hx hX;rw[bK (by rfl)]
 have e0:aS 5 [SC ns,.ref x,.int mm]=[some (SC ns),some (.ref x),some (.int mm),none,none]:=rfl;rw[e0];obtain⟨a0,a1,ha⟩:=hμ (κ ns 0) 2 6 (by omega) (by omega) (by omega)
 obtain⟨b0,b1,hb⟩:=hμ (κ ns 0) 3 8 (by omega) (by omega) (by omega)
 have k0:C [SC ns,.int 0]=.ok (false,.int (κ ns 0)):=p8 ns 0;have hlen:=de hX;rw[List.length_map]at hlen
 have main:∀ n:Int,0<=n->n<=12->∃ (rs:List (List Str)) (k:Nat) (js:List Nat) (aq:aF),(∀ r∈rs,r.Sublist xs)/\rs.length<=mm/\eS (NC C P [some (SC ns),some (.ref x),some (.int mm),some (.int (κ ns 0)),some (.int n)] Ω)=.ok (.ref k) aq/\Rw aq k js rs/\ao [] Ω aq:=by
  intro n h0 h12;obtain⟨n',hm,hn0,hnm⟩:=ND (Ω:=Ω) (m:=(mm:Int)) h0 (by omega)
  have hin:hU n'=true:=dQ (by omega) (by omega)
  have fJ:(bt (aa (mN (aX .min) (aa (U 4) (aa (U 2) aj))) aj)) [some (SC ns),some (.ref x),some (.int mm),some (.int (κ ns 0)),some (.int n)] Ω=.ok (.ints 0 n'.toNat) Ω:=by simp[hm,hin]
  obtain⟨ys,av,e,js,rs,rfl,h1,h2,h3,K⟩:=oE (me:=NB C P) (mc:=ae .non) (cap:=[1,0]) (ds:=intsFrom 0 n'.toNat) (fun i acc av=>∃ js rs,acc=js.map .ref/\l9 av js rs/\rs.length=i/\(∀ r∈rs,r.Sublist xs)/\ao [] Ω av) fJ ⟨[],[],rfl,.nil,rfl,by simp,ao.refl⟩
   (fun _ _ _ _=>rfl) (fun i d acc av hd h=>by
    obtain⟨js,rs,rfl,h1,h2,h3,K⟩:=h;obtain⟨rfl,hlt⟩:=dR hd;have kk:C [SC ns,.int (3 + (i:Int))]=.ok (false,.int (κ ns (3 + i))):=by have:=p8 ns (3 + i);rwa[show((3 + i:Nat):Int)=3 + (i:Int) by omega]at this
    obtain⟨ys,hy,e⟩:=hP av (κ ns (3 + i)) x xs (by omega) (K.get _ _ hX (by simp))
    rw[show(0:Int) + (i:Int)=(i:Int) by omega]
    refine⟨.ref av.length,av++[.lst (ys.map .str)],by simp[NB,dh,kk,e],js++[av.length],rs++[ys],by simp,(h1.keep (fp:=[]) ao.app (by simp)).snoc az,by simp[h2],?_,K.trans ao.app⟩
    intro r hr;rcases List.mem_append.mp hr with h | h
    ·exact h3 r h
    ·rw[List.mem_singleton.mp h];exact hy) (by rw[b7];omega)
  rw[b7]at h2;refine⟨rs,av.length,js,av++[.lst (js.map .ref)],h3,by omega,?_,⟨az,h1.keep (fp:=[]) ao.app (by simp)⟩,K.trans ao.app⟩
  unfold NC;rw[ai,cU,e];rfl
 have r1:(ay 3 (mN (bo C) (aa (U 0) (aa (ae (.int 0)) aj)))) [some (SC ns),some (.ref x),some (.int mm),none,none] Ω=.nx [some (SC ns),some (.ref x),some (.int mm),some (.int (κ ns 0)),none] Ω:=by simp[k0]
 have r2:(ay 4 (m2 (aJ .Add) (ae (.int 1)) (mN (bo F) (aa (U 3) (aa (ae (.int 2)) (aa (ae (.int 6)) aj)))))) [some (SC ns),some (.ref x),some (.int mm),some (.int (κ ns 0)),none] Ω=.nx [some (SC ns),some (.ref x),some (.int mm),some (.int (κ ns 0)),some (.int (1 + μ (κ ns 0) 2 6))] Ω:=by simp[ha]
 have r3:∃ n:Int,0<=n/\n<=12/\(b8 (cR (m2 (au .Eq) (mN (bo F) (aa (U 3) (aa (ae (.int 3)) (aa (ae (.int 8)) aj)))) (ae (.int 3))) (m2 (au .Lt) (mN (aX .len) (aa (U 1) aj)) (ae (.int 9)))) (ah (ay 4 (ae (.int 12))) ag) ag) [some (SC ns),some (.ref x),some (.int mm),some (.int (κ ns 0)),some (.int (1 + μ (κ ns 0) 2 6))] Ω=.nx [some (SC ns),some (.ref x),some (.int mm),some (.int (κ ns 0)),some (.int n)] Ω:=by
  by_cases h3:μ (κ ns 0) 3 8=3
  ·by_cases h9:(xs.length:Int) < 9
   ·exact⟨12,by omega,by omega,by simp[hb,h3,hlen,h9]⟩
   ·exact⟨1 + μ (κ ns 0) 2 6,by omega,by omega,by simp[hb,h3,hlen,h9]⟩
  ·have hb3:(μ (κ ns 0) 3 8 == 3)=false:=by simpa using h3
   exact⟨1 + μ (κ ns 0) 2 6,by omega,by omega,by simp[hb,hb3]⟩
 obtain⟨n,n0,n1,r3⟩:=r3;obtain⟨rs,k,js,aq,x1,x2,x3,x4,x5⟩:=main n n0 n1;refine⟨rs,k,js,aq,x1,x2,?_,x4,x5⟩;rw[← x3];unfold DM;rw[ai,r1,aE,ai,r2,aE,ai,r3,aE]
end
section
variable{Ω aq:aF}{ρ:aU}{k:Nat}{js:List Nat}{rs:List (List Str)}{row:List Str}{n:Str}
def HQ:SM:=(ah (b8 (m2 (au .NotIn) (U 3) (U 1))
 (ah (dZ (bP eX bf (U 1) (aa (U 3) aj)))
 ag)
 ag)
 ag)
def NF:SM:=(ah (cD (bu 3) (aZ (U 2)) HQ) ag)
def DN:SM:=
 (ah (ay 1 (mN bA aj))
 (ah (cD (bu 2) (aZ (U 0)) NF)
 (ah (aH (U 1))
 ag)))
theorem DO{q j:Nat}{ws:List Str}{a3:Option D}(hq:Ω[q]?=some (.lst (ws.map .str)))(hj:Ω[j]?=some (.lst (row.map .str)))(BU:q≠j)(hn:ws.Nodup)(hl:ws.length + row.length<=900) :
  ∃ (us:List Str) (fK:Option D) (aq:aF),NF [some (.ref k),some (.ref q),some (.ref j),a3] Ω=.nx [some (.ref k),some (.ref q),some (.ref j),fK] aq/\us.Nodup/\(∀ x,x∈us↔x∈ws\/x∈row)/\us.length<=ws.length + row.length/\aq[q]?=some (.lst (us.map .str))/\ao [q] Ω aq:=by
 have fJ:aZ (U 2) [some (.ref k),some (.ref q),some (.ref j),a3] Ω=.ok (.seq (.ref j)) Ω:=by
  rw[cm];exact bb (by rw[aN,aD hj])
 unfold NF;rw[ai,dc,fJ,eh]
 refine cw (R:=fun r=>∃ (us:List Str) (fK:Option D) (aq:aF),sq r _=.nx [some (.ref k),some (.ref q),some (.ref j),fK] aq/\us.Nodup/\(∀ x,x∈us↔x∈ws\/x∈row)/\us.length<=ws.length + row.length/\aq[q]?=some (.lst (us.map .str))/\ao [q] Ω aq) (ds:=row.map .str)
  (fun i ρ av=>∃ (us:List Str) (fK:Option D),ρ=[some (.ref k),some (.ref q),some (.ref j),fK]/\us.Nodup/\(∀ x,x∈us↔x∈ws\/x∈row.take i)/\us.length<=ws.length + i/\av[q]?=some (.lst (us.map .str))/\ao [q] Ω av) ?_ ?_ ?_ fuel 0 _ _ (by unfold fuel;simp;omega) (Nat.zero_le _) ⟨ws,a3,rfl,hn,by simp,by simp,hq,ao.refl⟩
 ·rintro i ρ av ⟨_,_,_,_,_,_,_,K⟩
  rw[bV,aN,aD (K.get _ _ hj (by simpa using Ne.symm BU))]
 ·rintro i d ρ av hd ⟨us,fK,rfl,hu,hm,Fp,h1,K⟩
  rw[List.getElem?_map]at hd;obtain⟨x,hx,rfl⟩:=Option.map_eq_some_iff.mp hd;have VF:i < row.length:=(List.getElem?_eq_some_iff.mp hx).1;refine⟨[some (.ref k),some (.ref q),some (.ref j),some (.str x)],rfl,?_⟩;have hin:=gZ (w:=x) h1;have ht:row.take (i + 1)=row.take i++[x]:=by rw[List.take_succ,hx];rfl
  by_cases Lf:x∈us
  ·have e:HQ [some (.ref k),some (.ref q),some (.ref j),some (.str x)] av=.nx [some (.ref k),some (.ref q),some (.ref j),some (.str x)] av:=by
    simp[HQ,hin,Lf,-dO]
   rw[e];refine⟨us,_,rfl,hu,fun y => ?_,by omega,h1,K⟩
   rw[ht,hm,List.mem_append,List.mem_singleton];constructor
   ·rintro(h | h)
    ·exact .inl h
    ·exact .inr (.inl h)
   ·rintro(h | h | h)
    ·exact .inl h
    ·exact .inr h
    ·subst h;exact(hm y).mp Lf
  ·have hap:=cP (d:=.str x) h1 (by simp;omega)
   have hL:=df h1
   have e:HQ [some (.ref k),some (.ref q),some (.ref j),some (.str x)] av=.nx [some (.ref k),some (.ref q),some (.ref j),some (.str x)] (av.set q (.lst (us.map .str++[.str x]))):=by
    have ea:(dZ (bP eX bf (U 1) (aa (U 3) aj))) [some (.ref k),some (.ref q),some (.ref j),some (.str x)] av=.nx [some (.ref k),some (.ref q),some (.ref j),some (.str x)] (av.set q (.lst (us.map .str++[.str x]))):=by
     rw[ff,dE (x:=.ref q) (aq:=av) (by simp) hL]
     simp[hap]
    unfold HQ;rw[ai,bU];have ec:(m2 (au .NotIn) (U 3) (U 1)) [some (.ref k),some (.ref q),some (.ref j),some (.str x)] av=.ok (.bl true) av:=by simp[hin,Lf,-dO]
    rw[ec];simp only[oh,da,og,eh,if_true,ai,ea,aE,lE]
   rw[e];refine⟨us++[x],_,rfl,?_,fun y => ?_,by simp;omega,by rw[cE h1];simp,K.trans (ao.set (by simp))⟩
   ·rw[List.nodup_append]
    refine⟨hu,by simp,fun a ha b hb hab => ?_⟩
    rw[List.mem_singleton.mp hb]at hab;exact Lf (hab▸ha)
   ·rw[ht,List.mem_append,hm,List.mem_append,List.mem_singleton,or_assoc]
 ·rintro ρ av ⟨us,fK,rfl,hu,hm,Fp,h1,K⟩
  rw[List.length_map]at hm Fp;rw[List.take_length]at hm;exact⟨us,fK,av,rfl,hu,hm,Fp,h1,K⟩
def yg(A:bg):Prop:=∀ (Ω:aF) (k:Nat) (js:List Nat) (rs:List (List Str)),Rw Ω k js rs->rs.length<=12->(∀ r∈rs,r.length<=24)->∃ (us:List Str) (q:Nat) (aq:aF),us.Nodup/\(∀ x,x∈us↔∃ r∈rs,x∈r)/\A [.ref k] Ω=.ok (.ref q) aq/\aq[q]?=some (.lst (us.map .str))/\ao [] Ω aq
theorem HR:yg (bC 4 1 DN):=by
 intro Ω k js rs R hl hr;rw[bK (by rfl)]
 have e0:aS 4 [D.ref k]=[some (.ref k),none,none,none]:=rfl;rw[e0];have hL:=R.len;have g1:(Ω++[Cell.lst []])[Ω.length]?=some (.lst (([]:List Str).map .str)):=az;have K1:ao [] Ω (Ω++[Cell.lst []]):=ao.app;have r1:(ay 1 (mN bA aj)) [some (.ref k),none,none,none] Ω=.nx [some (.ref k),some (.ref Ω.length),none,none] (Ω++[Cell.lst []]):=by simp[aW]
 have R1:=R.keep K1;have kl:=dj R.ce;have jl:=R.al.lt;generalize Ω++[Cell.lst []]=ak at *
 have fJ:aZ (U 0) [some (.ref k),some (.ref Ω.length),none,none] ak=.ok (.seq (.ref k)) ak:=by
  rw[cm];exact bb (by rw[aN,aD R1.ce])
 have kp:∀ av,ao [Ω.length] ak av->Rw av k js rs:=fun av K=>R1.mV K (by simp;omega) (fun j hj h=>by have:=jl j hj;have:=List.mem_singleton.mp h;omega)
 unfold DN;rw[ai,r1,aE,ai,dc,fJ,eh]
 refine cw (R:=fun r=>∃ (us:List Str) (q:Nat) (aq:aF),us.Nodup/\(∀ x,x∈us↔∃ r∈rs,x∈r)/\eS (sq r _)=.ok (.ref q) aq/\aq[q]?=some (.lst (us.map .str))/\ao [] Ω aq) (ds:=js.map .ref)
  (fun i ρ av=>∃ (us:List Str) (a2 a3:Option D),ρ=[some (.ref k),some (.ref Ω.length),a2,a3]/\us.Nodup/\(∀ x,x∈us↔∃ r∈rs.take i,x∈r)/\us.length<=24 * i/\av[Ω.length]?=some (.lst (us.map .str))/\ao [Ω.length] ak av) ?_ ?_ ?_ fuel 0 _ _ (by unfold fuel;simp;omega) (Nat.zero_le _) ⟨[],none,none,rfl,List.nodup_nil,by simp,by simp,g1,ao.refl⟩
 ·rintro i ρ av ⟨_,_,_,_,_,_,_,_,K⟩
  rw[bV,aN,aD (kp _ K).ce]
 ·rintro i d ρ av hd ⟨us,a2,a3,rfl,hu,hm,Fp,h1,K⟩
  obtain⟨j,hj,rfl⟩:=gP hd;obtain⟨row,HS,hrow⟩:=(kp _ K).al.at' hj;have hil:i < rs.length:=(List.getElem?_eq_some_iff.mp HS).1;have hrl:=hr row (List.mem_of_getElem? HS);refine⟨[some (.ref k),some (.ref Ω.length),some (.ref j),a3],rfl,?_⟩;have:=jl j (List.mem_of_getElem? hj);obtain⟨vs,fK,aM,e,v1,v2,v3,v4,K3⟩:=DO (k:=k) (a3:=a3) h1 hrow (by omega) hu (by omega)
  rw[e];refine⟨vs,some (.ref j),fK,rfl,v1,fun x => ?_,by omega,v4,K.trans K3⟩
  rw[v2,hm,List.take_succ,HS];simp only[List.mem_append,Option.toList_some,List.mem_singleton];constructor
  ·rintro(⟨r,hr,hx⟩ | hx)
   ·exact⟨r,.inl hr,hx⟩
   ·exact⟨row,.inr rfl,hx⟩
  ·rintro⟨r,hr | rfl,hx⟩
   ·exact .inl ⟨r,hr,hx⟩
   ·exact .inr hx
 ·rintro ρ av ⟨us,a2,a3,rfl,hu,hm,Fp,h1,K⟩
  rw[List.length_map,← hL,List.take_length]at hm;exact⟨us,Ω.length,av,hu,hm,rfl,h1,ao.new K1 K (by simp)⟩
theorem rM{rs:List (List Str)}{o:List Str}(M:Mg rs o):∀ r∈rs,r.Sublist o:=by
 induction M with
 | done h=>intro r hr;rw[h r hr];exact List.nil_sublist _
 | @step rs n o hne hf _ ih=>
  intro r hr;have h:=ih _ (List.mem_map.mpr ⟨r,hr,rfl⟩);unfold cZ at h;split at h
  ·rename_i he
   cases r with
   | nil=>simp at he
   | cons x t=>
    have:x=n:=by simpa using he
    subst this;exact h.cons_cons _
  ·exact h.cons _
theorem DP{o row:List Str}(hn:o.Nodup)(hs:row.Sublist o):(row.map fun x=>((o.idxOf x:Nat):Int)).Pairwise (· <= ·):=by
 have h1:(o.map fun x=>((o.idxOf x:Nat):Int)).Pairwise (· <= ·):=by
  refine List.pairwise_iff_getElem.mpr fun i j hi hj hij => ?_
  simp only[List.getElem_map];rw[hn.idxOf_getElem,hn.idxOf_getElem];omega
 exact h1.sublist (hs.map _)
theorem sorted_strs{xs:List Str}(h:xs.length < 64):fP (xs.map .str)=.ok ((xs.mergeSort bN).map .str):=by
 unfold fP;rw[if_neg (by simp;omega)]
 cases xs with
 | nil=>simp[jx]
 | cons x xs=>
  have:jx ((x::xs).map .str)=none:=rfl
  have gen:∀ xs:List Str,dv (xs.map .str)=some xs:=fun xs=>by
   induction xs with
   | nil=>rfl
   | cons x xs ih=>simp[dv,ih]
  rw[this,gen]
theorem sorted_ints{xs:List Int}(h:xs.length < 64):fP (xs.map .int)=.ok ((xs.mergeSort fun a b=>decide (a<=b)).map .int):=by
 unfold fP;rw[if_neg (by simp;omega)]
 have gen:∀ xs:List Int,jx (xs.map .int)=some xs:=fun xs=>by
  induction xs with
  | nil=>rfl
  | cons x xs ih=>simp[jx,ih]
 rw[gen]
theorem lK{xs:List Str}(hk:Ω[k]?=some (.lst (xs.map .str)))(h:xs.length < 64):fG [.ref k] Ω=.ok (.ref Ω.length) (Ω++[.lst ((xs.mergeSort bN).map .str)]):=by
 simp only[fG,aD hk,sorted_strs h,et]
theorem rN{xs:List Int}(hk:Ω[k]?=some (.lst (xs.map .int)))(h:xs.length < 64)(hs:xs.Pairwise (· <= ·)):fG [.ref k] Ω=.ok (.ref Ω.length) (Ω++[.lst (xs.map .int)]):=by
 have:=pw (List.Perm.refl xs) hs;simp only[fG,aD hk,sorted_ints h,et,← this]
theorem u3{xs ys:List Str}(h:xs.Perm ys):xs.mergeSort bN=ys.mergeSort bN:=
 List.Perm.eq_of_pairwise (le:=fun a b=>bN a b=true) (fun a b _ _ h1 h2=>kO h1 h2) (List.pairwise_mergeSort e_ gy xs) (List.pairwise_mergeSort e_ gy ys) (((List.mergeSort_perm xs bN).trans h).trans (List.mergeSort_perm ys bN).symm)
theorem AR{j:Nat}{xs:List Int}(h:Ω[k]?=some (.lst (xs.map .int)))(h':Ω[j]?=some (.lst (xs.map .int))):au .NotEq (.ref k) (.ref j) Ω=.ok (.bl false) Ω:=by
 have o1:(xs.map D.int).all (aK 7)=true:=by
  rw[List.all_eq_true];intro d hd;obtain⟨x,_,rfl⟩:=List.mem_map.mp hd;simp
 have o2:d_ (xs.map D.int) (xs.map D.int)=true:=by
  clear h h' o1
  induction xs with
  | nil=>rfl
  | cons x xs ih=>simp only[List.map_cons,kS,eq_int,beq_self_eq_true,Bool.true_and];exact ih
 simp[gX (n:=7) h om,gX (n:=7) h' om,o1,o2]
end
section
variable{Ω aq:aF}{ρ:aU}{k:Nat}{js:List Nat}{rs:List (List Str)}{row:List Str}{n:Str}
def Lg:EM:=(fE (bW (m1 (bG .list) (U 0))) (bW (mN (aX .all) (aa (bp (m1 (bG .str) (U 0)) true (ae .non) (aZ (U 0)) 0 []) aj))))
def Lh(A:bg):EM:=(m2 (au .NotEq) (mN fG (aa (U 0) aj)) (mN fG (aa (mN (aP A) (aa (U 1) aj)) aj)))
def NG:EM:=(bp (bP eX cq (U 1) (aa (U 0) aj)) true (ae .non) (aZ (U 2)) 0 [0])
def NH:SM:=(ah (ay 3 NG)
 (ah (b8 (m2 (au .NotEq) (U 3) (mN fG (aa (U 3) aj)))
 (ah (aH (ae (.bl false)))
 ag)
 ag)
 ag))
def DQ(A:bg):SM:=
 (ah (b8 Lg
 (ah (aH (ae (.bl false)))
 ag)
 ag)
 (ah (b8 (Lh A)
 (ah (aH (ae (.bl false)))
 ag)
 ag)
 (ah (cD (bu 2) (aZ (U 1)) NH)
 (ah (aH (ae (.bl true)))
 ag))))
theorem oG{j:Nat}{t:Ty}{ds:List D}(h:Ω[j]?=some (.lst ds)):bG t (.ref j) Ω=.ok (.bl (t == .list)) Ω:=by
 unfold bG;rw[Ap];simp only[Dh,h];rfl
theorem BV{α:Type}{m:Nat}(xs:List α):bT (fj Ω m) (xs.map fun _=>D.bl true)=some (xs.map fun _=>D.bl true):=oj (fun _=>Ds) xs
theorem DR{f:Nat}{o:List Str}{a1 a2 a3:Option D}(hf:Ω[f]?=some (.lst (o.map .str)))(hl:o.length<=900):∃ aq,Lg [some (.ref f),a1,a2,a3] Ω=.ok (.bl false) aq/\ao [] Ω aq:=by
 have fJ:aZ (U 0) [some (.ref f),a1,a2,a3] Ω=.ok (.seq (.ref f)) Ω:=by
  rw[cm];exact bb (by rw[aN,aD hf])
 have hc:=cH (me:=m1 (bG .str) (U 0)) (nc:=true) (mc:=ae .non) (cap:=[]) (ds:=o.map .str) (p:=fun _=>true) (g:=fun _=>.bl true) fJ (by rw[bV,aN,aD hf]) (fun d hd=>rfl) (fun d hd _=>by
  obtain⟨x,_,rfl⟩:=List.mem_map.mp hd;simp[dh]) (by simp;omega)
 rw[List.filter_eq_self.mpr (by simp),List.map_map]at hc
 have g1:(Ω++[Cell.lst (o.map ((fun _=>D.bl true) ∘ D.str))])[Ω.length]?=some (.lst (o.map ((fun _=>D.bl true) ∘ D.str))):=az
 have K1:ao [] Ω (Ω++[Cell.lst (o.map ((fun _=>D.bl true) ∘ D.str))]):=ao.app
 generalize Ω++[Cell.lst (o.map ((fun _=>D.bl true) ∘ D.str))]=ak at *
 have hall:aX .all [.ref Ω.length] ak=.ok (.bl true) ak:=by
  show jj .all [.ref Ω.length] ak=_
  unfold jj;rw[i5];have hr:=gX (n:=7) g1 (BV o);have:bT (fj ak 8) [.ref Ω.length]=some [.lst (o.map fun _=>D.bl true)]:=by rw[j7,hr];rfl
  rw[this,oo,pZ,nJ (p:=fun _=>true)]
  have:(o.map fun _=>true).all id=true:=by simp
  show fk ak (.ok (false,.bl ((o.map fun _=>true).all id)))=_
  rw[this,rF]
 have hi:=oG (t:=.list) hf;refine⟨ak,?_,K1⟩
 have e1:(bW (m1 (bG .list) (U 0))) [some (.ref f),a1,a2,a3] Ω=.ok (.bl false) Ω:=by
  rw[j6,tF,show U 0 [some (.ref f),a1,a2,a3] Ω=.ok (.ref f) Ω from rfl,aQ,hi]
  rfl
 have e2:(bW (mN (aX .all) (aa (bp (m1 (bG .str) (U 0)) true (ae .non) (aZ (U 0)) 0 []) aj))) [some (.ref f),a1,a2,a3] Ω=.ok (.bl false) ak:=by
  rw[j6,BL,d7,hc,aQ,j5,aQ,aQ,hall];rfl
 unfold Lg;rw[lD,e1,aQ,da,pY,e2]
theorem DS{A:bg}(hA:yg A){f:Nat}{o:List Str}{a2 a3:Option D}(hf:Ω[f]?=some (.lst (o.map .str)))(R:Rw Ω k js rs)(M:Mg rs o)(hl:rs.length<=12)(hr:∀ r∈rs,r.length<=24)(ho:o.length < 64):∃ aq,Lh A [some (.ref f),some (.ref k),a2,a3] Ω=.ok (.bl false) aq/\ao [] Ω aq:=by
 have s1:=lK hf ho;have g1:(Ω++[Cell.lst ((o.mergeSort bN).map .str)])[Ω.length]?=some (.lst ((o.mergeSort bN).map .str)):=az;have K1:ao [] Ω (Ω++[Cell.lst ((o.mergeSort bN).map .str)]):=ao.app;generalize Ω++[Cell.lst ((o.mergeSort bN).map .str)]=ak at *;obtain⟨us,q,av,u1,u2,e2,q2,K2⟩:=hA ak k js rs (R.keep K1) hl hr
 have hp:o.Perm us:=(List.perm_ext_iff_of_nodup (kY M) u1).mpr fun x=>by
  rw[u2];exact⟨fun hx=>rk M x hx,fun ⟨r,hr,hx⟩=>(rM M r hr).subset hx⟩
 have s2:=lK q2 (by rw[← hp.length_eq];exact ho)
 rw[← u3 hp]at s2;have g2:(av++[Cell.lst ((o.mergeSort bN).map .str)])[av.length]?=some (.lst ((o.mergeSort bN).map .str)):=az;have K3:ao [] av (av++[Cell.lst ((o.mergeSort bN).map .str)]):=ao.app;have AJ:=K3.get _ _ (K2.get _ _ g1 (by simp)) (by simp)
 generalize av++[Cell.lst ((o.mergeSort bN).map .str)]=aM at *;have hn:=kd AJ g2;rw[decide_eq_true rfl]at hn;refine⟨aM,?_,(K1.trans K2).trans K3⟩;simp[Lh,s1,e2,s2,hn,-dS]
theorem DT{f j:Nat}{o:List Str}{a3:Option D}(hf:Ω[f]?=some (.lst (o.map .str)))(hj:Ω[j]?=some (.lst (row.map .str)))(hn:o.Nodup)(hs:row.Sublist o)(ho:o.length < 64) :
  ∃ (fK:Option D) (aq:aF),NH [some (.ref f),some (.ref k),some (.ref j),a3] Ω=.nx [some (.ref f),some (.ref k),some (.ref j),fK] aq/\ao [] Ω aq:=by
 have fJ:aZ (U 2) [some (.ref f),some (.ref k),some (.ref j),a3] Ω=.ok (.seq (.ref j)) Ω:=by
  rw[cm];exact bb (by rw[aN,aD hj])
 have hrl:row.length<=o.length:=hs.length_le
 have hc:=cH (me:=bP eX cq (U 1) (aa (U 0) aj)) (nc:=true) (mc:=ae .non) (cap:=[0]) (ds:=row.map .str) (p:=fun _=>true) (g:=fun d=>match d with | .str x=>.int (o.idxOf x:Nat) | _=>.non) fJ (by rw[bV,aN,aD hj]) (fun d hd=>rfl) (fun d hd _=>by
  obtain⟨x,hx,rfl⟩:=List.mem_map.mp hd;have hi:=g7 hf (hs.subset hx);rw[dE (x:=.ref f) (aq:=Ω) (by simp[dh]) (df hf)]
  simp[hi]) (by simp;omega)
 rw[List.filter_eq_self.mpr (by simp),List.map_map]at hc
 have hm:(row.map ((fun d:D=>match d with | .str x=>D.int (o.idxOf x:Nat) | _=>.non) ∘ D.str))=(row.map fun x=>((o.idxOf x:Nat):Int)).map .int:=by rw[List.map_map];rfl
 rw[hm]at hc;have Ti:=DP hn hs;have hpl:(row.map fun x=>((o.idxOf x:Nat):Int)).length < 64:=by simp;omega
 generalize (row.map fun x=>((o.idxOf x:Nat):Int))=is at *
 have hc:NG [some (.ref f),some (.ref k),some (.ref j),a3] Ω=.ok (.ref Ω.length) (Ω++[Cell.lst (is.map .int)]):=hc;have g1:(Ω++[Cell.lst (is.map .int)])[Ω.length]?=some (.lst (is.map .int)):=az;have K1:ao [] Ω (Ω++[Cell.lst (is.map .int)]):=ao.app;generalize Ω++[Cell.lst (is.map .int)]=ak at *;have s1:=rN g1 hpl Ti;have g2:(ak++[Cell.lst (is.map .int)])[ak.length]?=some (.lst (is.map .int)):=az;have K2:ao [] ak (ak++[Cell.lst (is.map .int)]):=ao.app;have AJ:=K2.get _ _ g1 (by simp)
 generalize ak++[Cell.lst (is.map .int)]=av at *;have hne:=AR AJ g2;refine⟨some (.ref Ω.length),av,?_,K1.trans K2⟩;have r1:(ay 3 NG) [some (.ref f),some (.ref k),some (.ref j),a3] Ω=.nx [some (.ref f),some (.ref k),some (.ref j),some (.ref Ω.length)] ak:=by rw[bD,hc];rfl
 unfold NH;rw[ai,r1,aE];simp[s1,hne,-dS]
def HU(I:bg):Prop:=∀ (Ω:aF) (f k:Nat) (js:List Nat) (rs:List (List Str)) (o:List Str),Rw Ω k js rs->Ω[f]?=some (.lst (o.map .str))->Mg rs o->rs.length<=12->(∀ r∈rs,r.length<=24)->o.length < 64->∃ aq,I [.ref f,.ref k] Ω=.ok (.bl true) aq/\ao [] Ω aq
theorem HV{A:bg}(hA:yg A):HU (bC 4 2 (DQ A)):=by
 intro Ω f k js rs o R hf M hl hr ho;rw[bK (by rfl)]
 have e0:aS 4 [D.ref f,.ref k]=[some (.ref f),some (.ref k),none,none]:=rfl;rw[e0];have hL:=R.len;obtain⟨ak,e1,K1⟩:=DR (a1:=some (.ref k)) (a2:=none) (a3:=none) hf (by omega)
 obtain⟨av,e2,K2⟩:=DS hA (a2:=none) (a3:=none) (K1.get _ _ hf (by simp)) (R.keep K1) M hl hr ho
 have R2:=(R.keep K1).keep K2;have f2:=K2.get _ _ (K1.get _ _ hf (by simp)) (by simp)
 have r1:(b8 Lg (ah (aH (ae (.bl false))) ag) ag) [some (.ref f),some (.ref k),none,none] Ω=.nx [some (.ref f),some (.ref k),none,none] ak:=by rw[bU,e1];rfl
 have r2:(b8 (Lh A) (ah (aH (ae (.bl false))) ag) ag) [some (.ref f),some (.ref k),none,none] ak=.nx [some (.ref f),some (.ref k),none,none] av:=by rw[bU,e2];rfl
 have fJ:aZ (U 1) [some (.ref f),some (.ref k),none,none] av=.ok (.seq (.ref k)) av:=by
  rw[cm];exact bb (by rw[aN,aD R2.ce])
 unfold DQ;rw[ai,r1,aE,ai,r2,aE,ai,dc,fJ,eh];refine cw (R:=fun r=>∃ aq,eS (sq r _)=.ok (.bl true) aq/\ao [] Ω aq) (ds:=js.map .ref) (fun i ρ aM=>∃ a2 a3,ρ=[some (.ref f),some (.ref k),a2,a3]/\ao [] av aM) ?_ ?_ ?_ fuel 0 _ _ (by unfold fuel;simp;omega) (Nat.zero_le _) ⟨none,none,rfl,ao.refl⟩
 ·rintro i ρ aM ⟨_,_,_,K⟩
  rw[bV,aN,aD (R2.keep K).ce]
 ·rintro i d ρ aM hd ⟨a2,a3,rfl,K⟩
  obtain⟨j,hj,rfl⟩:=gP hd;obtain⟨row,HS,hrow⟩:=(R2.keep K).al.at' hj;refine⟨[some (.ref f),some (.ref k),some (.ref j),a3],rfl,?_⟩;obtain⟨fK,cX,e,K4⟩:=DT (k:=k) (a3:=a3) (K.get _ _ f2 (by simp)) hrow (kY M) (rM M row (List.mem_of_getElem? HS)) ho
  rw[e];exact⟨_,_,rfl,K.trans K4⟩
 ·rintro ρ aM ⟨a2,a3,rfl,K⟩
  exact⟨aM,rfl,(K1.trans K2).trans K⟩
theorem tQ{j:Nat}{is:List Nat}(R:Rw Ω k js rs)(R':Rw Ω j is rs):au .NotEq (.ref k) (.ref j) Ω=.ok (.bl false) Ω:=by
 rw[dS,j9,gO (n:=6) (rs:=js) (L:=rs) R.ce R.al,gO (n:=6) (rs:=is) (L:=rs) R'.ce R'.al,gY]
 have e:ek .NotEq (LL rs) (LL rs)=.ok false:=by
  rw[wZ,BC 6,BD];simp
 rw[e];rfl
end
end Mir
namespace Mir
open PySem
inductive Sk:List (List Str)->Prop
 | stuck {rs}:(∃ r∈rs,r≠[])->free rs=none->Sk rs
 | step {rs n}:(∃ r∈rs,r≠[])->free rs=some n->Sk (rs.map (cZ n))->Sk rs
noncomputable def tot(rs:List (List Str)):Nat:=(rs.map List.length).sum
theorem mW(n:Str)(r:List Str):(cZ n r).length<=r.length:=by
 unfold cZ;split
 ·rw[List.length_tail];omega
 ·omega
theorem yh(n:Str):∀ rs:List (List Str),tot (rs.map (cZ n))<=tot rs
 | []=>Nat.le_refl _
 | r::rs=>by
  have h1:=mW n r;have h2:=yh n rs;simp only[tot,List.map_cons,List.sum_cons]at *;omega
theorem rO{n:Str}:∀ {rs:List (List Str)},(∃ r∈rs,∃ t,r=n::t)->tot (rs.map (cZ n)) < tot rs
 | [],⟨r,h,_⟩=>by simp at h
 | r0::rs,⟨r,h,t,e⟩=>by
  have h1:=mW n r0;have h2:=yh n rs;rcases List.mem_cons.mp h with rfl | h
  ·subst e
   have h3:(cZ n (n::t)).length=t.length:=by unfold cZ;rw[if_pos (by simp)];rfl
   simp only[tot,List.map_cons,List.sum_cons,List.length_cons]at *;omega
  ·have h3:=rO ⟨r,h,t,e⟩
   simp only[tot,List.map_cons,List.sum_cons]at *;omega
theorem yi:∀ (m:Nat) (rs:List (List Str)),tot rs < m->(∃ o,Mg rs o/\o.length<=tot rs)\/Sk rs:=by
 intro m
 induction m with
 | zero=>intro rs h;omega
 | succ m ih=>
  intro rs h
  by_cases hn:∃ r∈rs,r≠[]
  ·cases hf:free rs with
   | none=>exact .inr (.stuck hn hf)
   | some n=>
    have hl:=rO (jX hf).1;rcases ih (rs.map (cZ n)) (by omega) with ⟨o,M,h2⟩ | S
    ·exact .inl ⟨n::o,.step hn hf M,by simp;omega⟩
    ·exact .inr (.step hn hf S)
  ·refine .inl ⟨[],.done fun r hr => ?_,by simp⟩
   by_cases q:r=[]
   ·exact q
   ·exact absurd ⟨r,hr,q⟩ hn
section
variable{f:Str->Str}{rs:List (List Str)}
end
theorem gR:∀ (xs ys:List Str),xs.Nodup->(∀ x∈xs,x∈ys)->xs.length<=ys.length
 | [],_,_,_=>Nat.zero_le _
 | x::xs,ys,hn,hs=>by
  have hx:=hs x (by simp)
  have hn':=List.nodup_cons.mp hn
  have:=gR xs (ys.erase x) hn'.2 fun y hy=>by
   have hne:y≠x:=fun q=>hn'.1 (q▸hy)
   exact(List.mem_erase_of_ne hne).mpr (hs y (by simp[hy]))
  rw[List.length_erase_of_mem hx]at this;have:=List.length_pos_of_mem hx;simp only[List.length_cons];omega
abbrev ib:=Str×Str×Nat
structure vd(left:List (List Str))(met:List Str)(steps:List ib)(name:Str):Prop where
 sec:steps.map (·.2.1)=met
 fst:steps.map (·.1)=(met++[name]).tail
 u4:∀ s∈steps,∃ t,left[s.2.2]?=some (s.1::t)/\s.2.1∈t
 nd:met.Nodup
 hds:∀ m∈met++[name],∃ r∈left,∃ t,r=m::t
section
variable{left:List (List Str)}{met:List Str}{steps:List ib}{name h:Str}{t:List Str}{p:Nat}
theorem vd.step(c:vd left met steps name)(hn:name∉met)(hp:left[p]?=some (h::t))(ht:name∈t):vd left (met++[name]) (steps++[(h,name,p)]) h where
 sec:=by rw[List.map_append,c.sec];rfl
 fst:=by
  rw[List.map_append,c.fst];cases met<;>simp
 u4:=fun s hs=>by
  rcases List.mem_append.mp hs with hs | hs
  ·exact c.u4 s hs
  ·rw[List.mem_singleton.mp hs];exact⟨t,hp,ht⟩
 nd:=List.nodup_append.mpr ⟨c.nd,by simp,fun a ha b hb=>by rw[List.mem_singleton.mp hb];exact fun q=>hn (q▸ha)⟩
 hds:=fun m hm=>by
  rcases List.mem_append.mp hm with hm | hm
  ·exact c.hds m hm
  ·rw[List.mem_singleton.mp hm];exact⟨_,List.mem_of_getElem? hp,t,rfl⟩
theorem vd.le(c:vd left met steps name):met.length<=left.length:=by
 have h1:=gR met (left.map fun r=>r.headD "") c.nd fun m hm=>by
  obtain⟨r,h1,t,rfl⟩:=c.hds m (by simp[hm])
  exact List.mem_map.mpr ⟨_,h1,rfl⟩
 simpa using h1
theorem vd.len(c:vd left met steps name):steps.length=met.length:=by rw[← c.sec,List.length_map]
structure tS(left:List (List Str))(ss:List ib):Prop where
 ex:∃ n R,ss.map (·.1)=n::R/\ss.map (·.2.1)=R++[n]/\(n::R).Nodup
 u4:∀ s∈ss,∃ t,left[s.2.2]?=some (s.1::t)/\s.2.1∈t
theorem vd.ring(c:vd left met steps name)(hm:name∈met):tS left (steps.drop (met.idxOf name)).reverse:=by
 have hj:=List.idxOf_lt_length_of_mem hm;have hg:met[met.idxOf name]=name:=List.getElem_idxOf hj;have hd:met.drop (met.idxOf name)=name::met.drop (met.idxOf name + 1):=by rw[List.drop_eq_getElem_cons hj,hg]
 generalize met.idxOf name=j at *;have hnd:(name::met.drop (j + 1)).Nodup:=by rw[← hd];exact c.nd.sublist (List.drop_sublist _ _)
 have h1:(steps.drop j).map (·.1)=met.drop (j + 1)++[name]:=by
  rw[List.map_drop,c.fst,List.drop_tail,List.drop_append_of_le_length (by omega)]
 have h2:(steps.drop j).map (·.2.1)=name::met.drop (j + 1):=by rw[List.map_drop,c.sec,hd]
 refine⟨⟨name,(met.drop (j + 1)).reverse,?_,?_,?_⟩,fun s hs=>c.u4 s (List.mem_of_mem_drop (List.mem_reverse.mp hs))⟩
 ·rw[List.map_reverse,h1,List.reverse_append];rfl
 ·rw[List.map_reverse,h2,List.reverse_cons]
 ·have:=List.nodup_cons.mp hnd
  exact List.nodup_cons.mpr ⟨by simpa using this.1,List.pairwise_reverse.mpr (this.2.imp Ne.symm)⟩
end
open L2
variable [aL]
noncomputable def aO(s:ib):D:=.tup [.str s.1,.str s.2.1,.int s.2.2]
def AS(PB:bg):Prop:=∀ (Ω:aF) (k:Nat) (js:List Nat) (rs:List (List Str)) (n:Str),Rw Ω k js rs->rs.length<=1000->∃ d aq,PB [.ref k,.str n] Ω=.ok d aq/\ao [] Ω aq/\((d=.non/\∀ r∈rs,n∉r.tail)\/∃ i:Nat,d=.int i/\∃ r,rs[i]?=some r/\n∈r.tail)
theorem HW:AS (bC 4 2 qh):=fun _ _ _ _ _ R hl=>x_ R hl
section
variable{Ω aq:aF}{ρ:aU}{k:Nat}{js:List Nat}{rs:List (List Str)}{row:List Str}{n:Str}
def NI:EM:=(bp (m2 aA (U 0) (ae (.int 0))) false (U 0) (aZ (U 0)) 0 [])
def tR:EM:=(m2 (au .NotIn) (U 2) (U 3))
def hR:EM:=(m2 aA (m2 aA (U 0) (U 5)) (ae (.int 0)))
def bR(PB:bg):SM:=
 (ah (dZ (bP eX bf (U 3) (aa (U 2) aj)))
 (ah (ay 5 (mN (aP PB) (aa (U 0) (aa (U 2) aj))))
 (ah (dZ (bP eX bf (U 4) (aa (mN pG (aa hR (aa (U 2) (aa (U 5) aj)))) aj)))
 (ah (ay 2 hR)
 ag))))
def AU(PB:bg):SM:=
 (ah (ay 1 NI)
 (ah (ay 2 (m2 aA (U 1) (ae (.int 0))))
 (ah (ay 3 (mN bA aj))
 (ah (ay 4 (mN bA aj))
 (ah (lq tR (bR PB))
 (ah (aH (m1 jP (b_ (U 4) false (bP eX cq (U 3) (aa (U 2) aj)) true (ae .non))))
 ag))))))
theorem qo{p:Nat}{h:Str}{t:List Str}(R:Rw Ω k js rs)(hp:rs[p]?=some (h::t)){a1 a2 a3 a4:Option D}:hR [some (.ref k),a1,a2,a3,a4,some (.int p)] Ω=.ok (.str h) Ω:=by
 obtain⟨j,hj,hrow⟩:=R.al.at hp;have h1:aA (.ref k) (.int p) Ω=.ok (.ref j) Ω:=bq R.ce (L2.a_ (by rw[List.getElem?_map,hj];rfl))
 have h2:aA (.ref j) (.int 0) Ω=.ok (.str h) Ω:=bq hrow (L2.a_ (j:=0) rfl);simp[hR,h1,h2]
theorem HX{PB:bg}(hP:AS PB){R1 a5:Option D}{qm qs:Nat}{met:List Str}{steps:List ib}{name:Str}(R:Rw Ω k js rs)(hl:rs.length<=1000)(hm:Ω[qm]?=some (.lst (met.map .str)))(hq:Ω[qs]?=some (.lst (steps.map aO)))
  (d1:qm≠qs) (d2:qm≠k) (d3:qs≠k) (d4:qm∉js) (d5:qs∉js) (hb:∃ r∈rs,name∈r.tail) (l1:met.length<=1000) (l2:steps.length<=1000) :
  ∃ (p:Nat) (h:Str) (t:List Str) (aq:aF),rs[p]?=some (h::t)/\name∈t/\bR PB [some (.ref k),R1,some (.str name),some (.ref qm),some (.ref qs),a5] Ω=.nx [some (.ref k),R1,some (.str h),some (.ref qm),some (.ref qs),some (.int p)] aq /\
   Rw aq k js rs/\aq[qm]?=some (.lst ((met++[name]).map .str))/\aq[qs]?=some (.lst ((steps++[(h,name,p)]).map aO))/\ao [qm,qs] Ω aq:=by
 have a1:=cP (d:=.str name) hm (by simp;omega)
 have i1:=df hm;have K1:ao [qm] Ω (Ω.set qm (.lst (met.map .str++[.str name]))):=ao.set (by simp)
 have m1:(Ω.set qm (.lst (met.map .str++[.str name])))[qm]?=some (.lst ((met++[name]).map .str)):=by rw[cE hm];simp
 have q1:(Ω.set qm (.lst (met.map .str++[.str name])))[qs]?=some (.lst (steps.map aO)):=K1.get _ _ hq (by simpa using Ne.symm d1)
 have r1:(dZ (bP eX bf (U 3) (aa (U 2) aj))) [some (.ref k),R1,some (.str name),some (.ref qm),some (.ref qs),a5] Ω=.nx [some (.ref k),R1,some (.str name),some (.ref qm),some (.ref qs),a5] (Ω.set qm (.lst (met.map .str++[.str name]))):=by
  rw[ff,dE (x:=.ref qm) (aq:=Ω) (by simp) i1]
  simp[a1]
 generalize Ω.set qm (.lst (met.map .str++[.str name]))=ak at *;have Li:Rw ak k js rs:=R.mV K1 (by simpa using Ne.symm d2) (fun j hj h=>d4 (by rw[← List.mem_singleton.mp h];exact hj))
 obtain⟨d,av,e2,K2,hd⟩:=hP ak k js rs name Li hl;rcases hd with ⟨_,hz⟩ | ⟨p,rfl,r,hp,hn⟩
 ·obtain⟨r,h1,h2⟩:=hb
  exact absurd h2 (hz r h1)
 cases r with
 | nil=>simp at hn
 | cons h t=>
 have r2:(ay 5 (mN (aP PB) (aa (U 0) (aa (U 2) aj)))) [some (.ref k),R1,some (.str name),some (.ref qm),some (.ref qs),a5] ak=.nx [some (.ref k),R1,some (.str name),some (.ref qm),some (.ref qs),some (.int p)] av:=by simp[e2]
 have R2:=Li.keep K2;have m2:=K2.get _ _ m1 (by simp)
 have q2:=K2.get _ _ q1 (by simp)
 have hh:hR [some (.ref k),R1,some (.str name),some (.ref qm),some (.ref qs),some (.int p)] av=.ok (.str h) av:=qo R2 hp;have a3:=cP (d:=aO (h,name,p)) q2 (by simp;omega)
 have i3:=df q2;have K3:ao [qs] av (av.set qs (.lst (steps.map aO++[aO (h,name,p)]))):=ao.set (by simp)
 have q3:(av.set qs (.lst (steps.map aO++[aO (h,name,p)])))[qs]?=some (.lst ((steps++[(h,name,p)]).map aO)):=by rw[cE q2];simp
 have m3:=K3.get _ _ m2 (by simpa using d1)
 have r3:(dZ (bP eX bf (U 4) (aa (mN pG (aa hR (aa (U 2) (aa (U 5) aj)))) aj))) [some (.ref k),R1,some (.str name),some (.ref qm),some (.ref qs),some (.int p)] av=.nx [some (.ref k),R1,some (.str name),some (.ref qm),some (.ref qs),some (.int p)] (av.set qs (.lst (steps.map aO++[aO (h,name,p)]))):=by
  rw[ff,dE (x:=.ref qs) (aq:=av) (by simp) i3]
  have e:(aa (mN pG (aa hR (aa (U 2) (aa (U 5) aj)))) aj) [some (.ref k),R1,some (.str name),some (.ref qm),some (.ref qs),some (.int p)] av=.ok [aO (h,name,p)] av:=by
   simp[hh,aW,aO]
  rw[e];simp[a3]
 generalize av.set qs (.lst (steps.map aO++[aO (h,name,p)]))=aM at *;have R3:Rw aM k js rs:=R2.mV K3 (by simpa using Ne.symm d3) (fun j hj h=>d5 (by rw[← List.mem_singleton.mp h];exact hj))
 have hh3:hR [some (.ref k),R1,some (.str name),some (.ref qm),some (.ref qs),some (.int p)] aM=.ok (.str h) aM:=qo R3 hp;refine⟨p,h,t,aM,hp,hn,?_,R3,m3,q3,?_⟩
 ·unfold bR
  rw[ai,r1,aE,ai,r2,aE,ai,r3,aE,ai,bD,hh3];rfl
 ·exact((K1.sub (by simp)).trans (il.up K2)).trans (K3.sub (by simp))
theorem DU{PB:bg}(hP:AS PB){R1:Option D}{qm qs:Nat}(hl:rs.length<=900)(hst:∀ h,(∃ r∈rs,∃ t,r=h::t)->∃ r∈rs,h∈r.tail)(d1:qm≠qs)(d2:qm≠k)(d3:qs≠k)(d4:qm∉js)(d5:qs∉js) :
  ∀ (m:Nat) (Ω:aF) (met:List Str) (steps:List ib) (name:Str) (a5:Option D),Rw Ω k js rs->Ω[qm]?=some (.lst (met.map .str))->Ω[qs]?=some (.lst (steps.map aO))->vd rs met steps name->rs.length - met.length < m ->
   ∃ (yj:List Str) (oH:List ib) (name':Str) (i7:Option D) (aq:aF),cS tR (bR PB) m [some (.ref k),R1,some (.str name),some (.ref qm),some (.ref qs),a5] Ω=.nx [some (.ref k),R1,some (.str name'),some (.ref qm),some (.ref qs),i7] aq /\
    vd rs yj oH name'/\name'∈yj/\aq[qm]?=some (.lst (yj.map .str))/\aq[qs]?=some (.lst (oH.map aO))/\ao [qm,qs] Ω aq:=by
 intro m
 induction m with
 | zero=>intro Ω met steps name a5 R hm hq c h;omega
 | succ m ih=>
  intro Ω met steps name a5 R hm hq c hlt;have hn:=gZ (w:=name) hm
  have ht:tR [some (.ref k),R1,some (.str name),some (.ref qm),some (.ref qs),a5] Ω=.ok (.bl (!decide (name∈met))) Ω:=by
   simp[tR,hn,-dO]
  by_cases hmem:name∈met
  ·rw[decide_eq_true hmem]at ht
   refine⟨met,steps,name,a5,Ω,?_,c,hmem,hm,hq,ao.refl⟩;simp only[cS,ht];rfl
  ·rw[decide_eq_false hmem]at ht
   have hc:=c.le;have hlen:=c.len;obtain⟨p,h,t,ak,hp,hn1,e1,Li,m1,q1,K1⟩:=HX hP (R1:=R1) (a5:=a5) R (by omega) hm hq d1 d2 d3 d4 d5 (hst name (c.hds name (by simp))) (by omega) (by omega)
   have c1:=c.step hmem hp hn1;have hc1:=c1.le;rw[List.length_append]at hc1;simp at hc1;obtain⟨yj,oH,name',i7,av,e2,c2,h2,m2,q2,K2⟩:=ih ak _ _ h (some (.int p)) Li m1 q1 c1 (by rw[List.length_append];simp;omega)
   refine⟨yj,oH,name',i7,av,?_,c2,h2,m2,q2,K1.trans K2⟩;simp only[cS,ht]
   show(match bR PB [some (.ref k),R1,some (.str name),some (.ref qm),some (.ref qs),a5] Ω with | .nx bB aq=>cS tR (bR PB) m bB aq | .ct bB aq=>cS tR (bR PB) m bB aq | .bk bB aq=>.nx bB aq | r=>r)=_
   rw[e1];exact e2
theorem DV{a1 a2 a3 a4 a5:Option D}(R:Rw Ω k js rs)(hl:rs.length<=1000):NI [some (.ref k),a1,a2,a3,a4,a5] Ω=.ok (.ref Ω.length) (Ω++[.lst (((rs.filter fun r => !r.isEmpty).map fun r=>r.headD "").map .str)]):=by
 have fJ:aZ (U 0) [some (.ref k),a1,a2,a3,a4,a5] Ω=.ok (.seq (.ref k)) Ω:=by
  rw[cm];exact bb (by rw[aN,aD R.ce])
 have hL:=R.len
 have key:∀ d∈js.map D.ref,∃ (j:Nat) (row:List Str),d=.ref j/\Ω[j]?=some (.lst (row.map .str)):=fun d hd=>by
  obtain⟨j,hj,rfl⟩:=List.mem_map.mp hd;obtain⟨i,hi⟩:=List.mem_iff_getElem?.mp hj;obtain⟨row,_,h2⟩:=R.al.at' hi;exact⟨j,row,rfl,h2⟩
 have hc:=cH (me:=m2 aA (U 0) (ae (.int 0))) (nc:=false) (mc:=U 0) (cap:=[]) (ds:=js.map .ref) (p:=fun d=>(fm Ω d).getD false) (g:=fun d=>match aA d (.int 0) Ω with | .ok x _=>x | _=>.non) fJ (by rw[bV,aN,aD R.ce]) (fun d hd=>by
  obtain⟨j,row,rfl,h⟩:=key d hd;have:=gQ h;simp[gK,dh,this]) (fun d hd hp=>by
  obtain⟨j,row,rfl,h⟩:=key d hd;have ht:=gQ h;cases row with
  | nil=>simp[ht]at hp
  | cons x t=>
   have hix:aA (.ref j) (.int 0) Ω=.ok (.str x) Ω:=bq h (L2.a_ (j:=0) rfl);simp[dh,hix]) (by simp;omega)
 refine hc.trans ?_
 congr 4
 have:∀ {js:List Nat} {rs:List (List Str)},l9 Ω js rs->((js.map D.ref).filter fun d=>(fm Ω d).getD false).map (fun d=>match aA d (.int 0) Ω with | .ok x _=>x | _=>.non)=((rs.filter fun r => !r.isEmpty).map fun r=>r.headD "").map .str:=by
  intro js rs h
  induction h with
  | nil=>rfl
  | @cons j row js rs r t ih=>
   have r:Ω[j]?=some (.lst (row.map .str)):=r;have ht:=gQ r;rw[List.map_cons,List.filter_cons,List.filter_cons];cases row with
   | nil=>
    have ht:fm Ω (.ref j)=some false:=ht;rw[ht];exact ih
   | cons x u=>
    have ht:fm Ω (.ref j)=some true:=ht;have hix:aA (.ref j) (.int 0) Ω=.ok (.str x) Ω:=bq r (L2.a_ (j:=0) rfl);rw[ht];simp only[Option.getD_some,if_true,List.map_cons,hix,ih];rfl
 exact this R.al
def AV(RA:bg):Prop:=∀ (Ω:aF) (k:Nat) (js:List Nat) (rs:List (List Str)),Rw Ω k js rs->rs.length<=900->(∃ r∈rs,r≠[])->free rs=none->∃ (ss:List ib) (q:Nat) (aq:aF),RA [.ref k] Ω=.ok (.ref q) aq/\aq[q]?=some (.lst (ss.map aO))/\tS rs ss/\ss.length<=rs.length/\ao [] Ω aq
theorem HY{PB:bg}(hP:AS PB):AV (bC 6 1 (AU PB)):=by
 intro Ω k js rs R hl hne hf;rw[bK (by rfl)]
 have e0:aS 6 [D.ref k]=[some (.ref k),none,none,none,none,none]:=rfl;rw[e0]
 have hst:∀ h,(∃ r∈rs,∃ t,r=h::t)->∃ r∈rs,h∈r.tail:=by
  rintro h ⟨r,hr,t,rfl⟩
  by_cases q:∃ t∈rs,h∈t.tail
  ·exact q
  ·obtain⟨n,e⟩:=zG hr (iy q)
   rw[hf]at e;cases e
 have e1:=DV (a1:=none) (a2:=none) (a3:=none) (a4:=none) (a5:=none) R (by omega)
 obtain⟨n0,hs,Tj,r0,hr0,t0,Tn⟩:∃ n0 hs,((rs.filter fun r => !r.isEmpty).map fun r=>r.headD "")=n0::hs/\∃ r∈rs,∃ t,r=n0::t:=by
  obtain⟨r,hr,hn⟩:=hne;have hm:r∈rs.filter fun r => !r.isEmpty:=List.mem_filter.mpr ⟨hr,by cases r<;>simp at hn ⊢⟩
  cases q:rs.filter fun r => !r.isEmpty with
  | nil=>rw[q]at hm;simp at hm
  | cons r1 l=>
   have h1:r1∈rs.filter fun r => !r.isEmpty:=by rw[q];simp
   obtain⟨h2,h3⟩:=List.mem_filter.mp h1;cases r1 with
   | nil=>simp at h3
   | cons x t=>exact⟨x,_,rfl,_,h2,t,rfl⟩
 rw[Tj]at e1;have K1:ao [] Ω (Ω++[Cell.lst ((n0::hs).map D.str)]):=ao.app;have g1:(Ω++[Cell.lst ((n0::hs).map D.str)])[Ω.length]?=some (.lst ((n0::hs).map .str)):=az;have r1:(ay 1 NI) [some (.ref k),none,none,none,none,none] Ω=.nx [some (.ref k),some (.ref Ω.length),none,none,none,none] (Ω++[Cell.lst ((n0::hs).map D.str)]):=by rw[bD,e1];rfl
 have l1:Ω.length < (Ω++[Cell.lst ((n0::hs).map D.str)]).length:=by simp
 generalize NJ:Ω++[Cell.lst ((n0::hs).map D.str)]=ak at *;have hix:aA (.ref Ω.length) (.int 0) ak=.ok (.str n0) ak:=bq g1 (L2.a_ (j:=0) rfl);have r2:(ay 2 (m2 aA (U 1) (ae (.int 0)))) [some (.ref k),some (.ref Ω.length),none,none,none,none] ak=.nx [some (.ref k),some (.ref Ω.length),some (.str n0),none,none,none] ak:=by simp[hix]
 have r3:(ay 3 (mN bA aj)) [some (.ref k),some (.ref Ω.length),some (.str n0),none,none,none] ak=.nx [some (.ref k),some (.ref Ω.length),some (.str n0),some (.ref ak.length),none,none] (ak++[Cell.lst []]):=by simp[aW]
 have r4:(ay 4 (mN bA aj)) [some (.ref k),some (.ref Ω.length),some (.str n0),some (.ref ak.length),none,none] (ak++[Cell.lst []])=.nx [some (.ref k),some (.ref Ω.length),some (.str n0),some (.ref ak.length),some (.ref (ak.length + 1)),none] (ak++[Cell.lst []]++[Cell.lst []]):=by simp[aW]
 have K2:ao [] ak (ak++[Cell.lst []]++[Cell.lst []]):=ao.app.trans ao.app;have g3:(ak++[Cell.lst []]++[Cell.lst []])[ak.length]?=some (.lst (([]:List Str).map .str)):=by simp
 have g4:(ak++[Cell.lst []]++[Cell.lst []])[ak.length + 1]?=some (.lst (([]:List ib).map aO)):=by simp
 generalize ak++[Cell.lst []]++[Cell.lst []]=av at *;have R2:=(R.keep K1).keep K2;have lk:=dj (R.keep K1).ce;have lj:=(R.keep K1).al.lt;have c0:vd rs [] [] n0:=⟨rfl,rfl,by simp,by simp,fun m hm=>by simp at hm;subst hm;exact⟨r0,hr0,t0,Tn⟩⟩
 obtain⟨met,steps,name,a5,aM,e3,c3,h3,m3,q3,K3⟩:=DU hP (R1:=some (.ref Ω.length)) (qm:=ak.length) (qs:=ak.length + 1) hl hst (by omega) (by omega) (by omega) (fun h=>by have:=lj _ h;omega) (fun h=>by have:=lj _ h;omega) fuel av [] [] n0 none R2 g3 g4 c0 (by unfold fuel;simp;omega)
 have hi:=g7 m3 h3;have iL:=df m3
 have To:gH (.ref (ak.length + 1)) (some ((met.idxOf name:Nat):Int)) none aM=.ok (.ref aM.length) (aM++[.lst ((steps.drop (met.idxOf name)).map aO)]):=by
  simp only[gH,aD q3,et,nK,List.map_drop]
 have g5:(aM++[Cell.lst ((steps.drop (met.idxOf name)).map aO)])[aM.length]?=some (.lst ((steps.drop (met.idxOf name)).map aO)):=az;have K4:ao [] aM (aM++[Cell.lst ((steps.drop (met.idxOf name)).map aO)]):=ao.app
 have hmi:(bP eX cq (U 3) (aa (U 2) aj)) [some (.ref k),some (.ref Ω.length),some (.str name),some (.ref ak.length),some (.ref (ak.length + 1)),a5] aM=.ok (.int (met.idxOf name:Nat)) aM:=by
  rw[dE (x:=.ref ak.length) (aq:=aM) (by simp) iL]
  simp[hi]
 have r5:(m1 jP (b_ (U 4) false (bP eX cq (U 3) (aa (U 2) aj)) true (ae .non))) [some (.ref k),some (.ref Ω.length),some (.str name),some (.ref ak.length),some (.ref (ak.length + 1)),a5] aM=.ok (.ref (aM.length + 1)) (aM++[Cell.lst ((steps.drop (met.idxOf name)).map aO)]++[.lst ((steps.drop (met.idxOf name)).reverse.map aO)]):=by
  have:(b_ (U 4) false (bP eX cq (U 3) (aa (U 2) aj)) true (ae .non)) [some (.ref k),some (.ref Ω.length),some (.str name),some (.ref ak.length),some (.ref (ak.length + 1)),a5] aM=.ok (.ref aM.length) (aM++[Cell.lst ((steps.drop (met.idxOf name)).map aO)]):=by
   simp[hmi,To]
  rw[tF,this,aQ];simp only[jP,aD g5,et,List.map_reverse];simp
 refine⟨(steps.drop (met.idxOf name)).reverse,aM.length + 1,aM++[Cell.lst ((steps.drop (met.idxOf name)).map aO)]++[.lst ((steps.drop (met.idxOf name)).reverse.map aO)],?_,?_,c3.ring h3,?_,?_⟩
 rotate_left
 ·rw[show aM.length + 1=(aM++[Cell.lst ((steps.drop (met.idxOf name)).map aO)]).length by simp]
  exact az
 ·have:=c3.le
  have:=c3.len;simp;omega
 ·refine ao.new (fp:=[ak.length,ak.length + 1]) (K1.trans K2) (K3.trans (il.up (K4.trans ao.app))) (fun j hj => ?_)
  simp at hj;have:=K1.len;omega
 ·unfold AU
  rw[ai,r1,aE,ai,r2,aE,ai,r3,aE,ai,r4,aE,ai];unfold lq;rw[e3,aE,ai,cU,r5];rfl
end
structure dG(rs:List (List Str))(ss:List ib):Prop where
 ex:∃ n R,ss.map (·.1)=n::R/\ss.map (·.2.1)=R++[n]/\(n::R).Nodup
 u4:∀ s∈ss,∃ u t,rs[s.2.2]?=some (u++s.1::t)/\s.2.1∈t
theorem dG.step{rs:List (List Str)}{ss:List ib}{n:Str}(h:dG (rs.map (cZ n)) ss):dG rs ss:=⟨h.ex,fun s hs=>by
 obtain⟨u,t,e,hm⟩:=h.u4 s hs;rw[List.getElem?_map]at e;obtain⟨r,e1,e2⟩:=Option.map_eq_some_iff.mp e;unfold cZ at e2;split at e2
 ·cases r with
  | nil=>simp at e2
  | cons x r=>exact⟨x::u,t,by rw[e1];simpa using e2,hm⟩
 ·exact⟨u,t,by rw[e1,e2],hm⟩⟩
theorem tS.toR{rs:List (List Str)}{ss:List ib}(h:tS rs ss):dG rs ss:=⟨h.ex,fun s hs=>by
 obtain⟨t,e,hm⟩:=h.u4 s hs;exact⟨[],t,e,hm⟩⟩
def yk(OC:bg):Prop:=∀ (Ω:aF) (k:Nat) (ss:List ib),Ω[k]?=some (.lst (ss.map aO))->ss.length<=900->∃ q aq,OC [.ref k,.int 0] Ω=.ok (.ref q) aq/\aq[q]?=some (.lst (ss.map aO))/\Ω.length<=q/\ao [] Ω aq
def Fq(OC:bg):EM:=mN (fun xs Ω=>aP OC (xs++[.int 0]) Ω) (aa (mN (aX .list) (aa (U 1) aj)) aj)
def rP(OC RA:bg):SM:=oB "Ring" "steps" (Fq OC) (mN (aP RA) (aa (U 1) aj))
section
variable{Ω aq:aF}{ρ:aU}{k:Nat}{js:List Nat}{rs:List (List Str)}{row:List Str}{n:Str}
theorem DW{OC:bg}(hO:yk OC){ss:List ib}(h:Ω[k]?=some (.lst (ss.map aO)))(hl:ss.length<=900):∃ q aq,Fq OC [none,some (.ref k)] Ω=.ok (.ref q) aq/\aq[q]?=some (.lst (ss.map aO))/\Ω.length<=q/\ao [] Ω aq:=by
 have h1:=jq h;have g1:(Ω++[Cell.lst (ss.map aO)])[Ω.length]?=some (.lst (ss.map aO)):=az;have K1:ao [] Ω (Ω++[Cell.lst (ss.map aO)]):=ao.app;have l1:Ω.length<=(Ω++[Cell.lst (ss.map aO)]).length:=K1.len;generalize Ω++[Cell.lst (ss.map aO)]=ak at *;obtain⟨q,av,e,g,l,K2⟩:=hO ak _ ss g1 hl;refine⟨q,av,?_,g,by omega,K1.trans K2⟩
 simp[Fq,h1,e]
theorem DX{OC RA:bg}(hO:yk OC)(hA:AV RA){R0:D}{q:Nat}{a3:Option D}(R:Rw Ω k js rs)(hl:rs.length<=900)(hne:∃ r∈rs,r≠[])(hf:free rs=none) :
  ∃ (ss:List ib) (p:Nat) (aq:aF),rP OC RA [some R0,some (.ref k),some (.ref q),a3] Ω=.exc (eY "Ring" "steps" (.ref p)) aq/\aq[p]?=some (.lst (ss.map aO))/\dG rs ss/\Ω.length<=p/\ao [] Ω aq:=by
 obtain⟨ss,q1,ak,e1,g1,hr,hs,K1⟩:=hA Ω k js rs R hl hne hf;obtain⟨p,av,e2,g2,l2,K2⟩:=DW hO g1 (by omega)
 refine⟨ss,p,av,?_,g2,hr.toR,by have:=K1.len;omega,K1.trans K2⟩
 have:(mN (aP RA) (aa (U 1) aj)) [some R0,some (.ref k),some (.ref q),a3] Ω=.ok (.ref q1) ak:=by simp[e1]
 unfold rP oB;rw[this]
 show(match Fq OC [none,some (.ref q1)] ak with | .ok d' av=>gM.exc (eY "Ring" "steps" d') av | _=>.bad)=_
 rw[e2]
theorem u5{OC RA FN:bg}(hO:yk OC)(hA:AV RA)(hF:FnAt FN){R0:D}{rs:List (List Str)}(S:Sk rs) :
  ∀ (Ω:aF) (pre:List Str) (q k:Nat) (js:List Nat) (a3:Option D) (m:Nat),Rw Ω k js rs->Ω[q]?=some (.lst (pre.map .str))->q≠k->q∉js->rs.length<=900->pre.length + tot rs<=900->tot rs < m ->
   ∃ (ss:List ib) (p:Nat) (aq:aF),cS tM (bM (rP OC RA) FN) m [some R0,some (.ref k),some (.ref q),a3] Ω=.exc (eY "Ring" "steps" (.ref p)) aq/\aq[p]?=some (.lst (ss.map aO))/\dG rs ss/\Ω.length<=p/\ao [q] Ω aq:=by
 induction S with
 | @stuck rs h hf=>
  intro Ω pre q k js a3 m R hq _ _ hl _ hm;obtain⟨m,rfl⟩:∃ k,m=k + 1:=⟨m - 1,by omega⟩
  obtain⟨ak,e1,K1⟩:=hF Ω k js rs R (by omega)
  rw[hf]at e1;obtain⟨ss,p,av,e2,g2,hr,l2,K2⟩:=DX hO hA (R0:=R0) (q:=q) (a3:=some .non) (R.keep K1) hl h hf;refine⟨ss,p,av,?_,g2,hr,by have:=K1.len;omega,il.up (K1.trans K2)⟩
  have e:=kf R;rw[any_true h]at e;have e':tM [some R0,some (.ref k),some (.ref q),a3] Ω=.ok (.bl true) Ω:=by simp[tM,e]
  simp only[cS,e']
  show(match bM (rP OC RA) FN [some R0,some (.ref k),some (.ref q),a3] Ω with | .nx bB aq=>cS tM (bM (rP OC RA) FN) m bB aq | .ct bB aq=>cS tM (bM (rP OC RA) FN) m bB aq | .bk bB aq=>.nx bB aq | r=>r)=_
  have r1:(ay 3 (mN (aP FN) (aa (U 1) aj))) [some R0,some (.ref k),some (.ref q),a3] Ω=.nx [some R0,some (.ref k),some (.ref q),some .non] ak:=by simp[e1,w9]
  have r2:(b8 (m2 (au .Is) (U 3) (ae .non)) (ah (rP OC RA) ag) ag) [some R0,some (.ref k),some (.ref q),some .non] ak=.exc (eY "Ring" "steps" (.ref p)) av:=by
   have c:(m2 (au .Is) (U 3) (ae .non)) [some R0,some (.ref k),some (.ref q),some .non] ak=.ok (.bl true) ak:=by simp
   rw[bU,c]
   show ah (rP OC RA) ag _ ak=_
   rw[ai,e2];rfl
  unfold bM;rw[ai,r1,aE,ai,r2];rfl
 | @step rs n h hf _ ih=>
  intro Ω pre q k js a3 m R hq Hw BU hl hp hm;obtain⟨m,rfl⟩:∃ k,m=k + 1:=⟨m - 1,by omega⟩
  have ht:=rO (jX hf).1;obtain⟨k',dF,ak,e1,R1,q1,h1,h2,K1⟩:=BS (st:=rP OC RA) hF (R0:=R0) (a3:=a3) R (by omega) hf hq Hw BU (by omega)
  obtain⟨ss,p,av,e2,g2,hr,l2,K2⟩:=ih ak (pre++[n]) q k' dF (some (.str n)) m R1 q1 h1 h2 (by simpa using hl) (by simp;omega) (by omega)
  refine⟨ss,p,av,?_,g2,hr.step,by have:=K1.len;omega,K1.trans K2⟩
  have e:=kf R;rw[any_true h]at e;have e':tM [some R0,some (.ref k),some (.ref q),a3] Ω=.ok (.bl true) Ω:=by simp[tM,e]
  simp only[cS,e']
  show(match bM (rP OC RA) FN [some R0,some (.ref k),some (.ref q),a3] Ω with | .nx bB aq=>cS tM (bM (rP OC RA) FN) m bB aq | .ct bB aq=>cS tM (bM (rP OC RA) FN) m bB aq | .bk bB aq=>.nx bB aq | r=>r)=_
  rw[e1];exact e2
def AW(MG:bg):Prop:=∀ (Ω:aF) (k:Nat) (js:List Nat) (rs:List (List Str)),Rw Ω k js rs->Sk rs->rs.length<=900->tot rs<=900->∃ (ss:List ib) (p:Nat) (aq:aF),MG [.ref k] Ω=.exc (eY "Ring" "steps" (.ref p)) aq/\aq[p]?=some (.lst (ss.map aO))/\dG rs ss/\Ω.length<=p/\ao [] Ω aq
theorem HZ{OC RA FN:bg}(hO:yk OC)(hA:AV RA)(hF:FnAt FN):AW (bC 4 1 (uZ (rP OC RA) FN)):=by
 intro Ω k js rs R S hr ho;rw[bK (by rfl)]
 have e0:aS 4 [D.ref k]=[some (.ref k),none,none,none]:=rfl;rw[e0];obtain⟨dF,k',ak,e1,K1,R1,h1,h2,h3⟩:=ke (ρ:=[some (.ref k),none,none,none]) (i:=0) rfl R (by omega)
 have r1:(ay 1 (jF 0)) [some (.ref k),none,none,none] Ω=.nx [some (.ref k),some (.ref k'),none,none] ak:=by rw[bD,e1];rfl
 have K2:ao [] ak (ak++[Cell.lst []]):=ao.app;have q2:(ak++[Cell.lst []])[ak.length]?=some (.lst (([]:List Str).map .str)):=az;have r2:(ay 2 (mN bA aj)) [some (.ref k),some (.ref k'),none,none] ak=.nx [some (.ref k),some (.ref k'),some (.ref ak.length),none] (ak++[Cell.lst []]):=by simp[aW]
 have lk:=dj R1.ce;have lj:=R1.al.lt;obtain⟨ss,p,aM,e3,g3,hR,l3,K3⟩:=u5 hO hA hF (R0:=.ref k) S (ak++[Cell.lst []]) [] ak.length k' dF none fuel (R1.keep K2) q2 (by omega) (fun h=>by have:=lj _ h;omega) hr (by simpa using ho) (by unfold fuel;omega)
 refine⟨ss,p,aM,?_,g3,hR,?_,ao.new (K1.trans K2) K3 (by simpa using K1.len)⟩
 ·unfold uZ
  rw[ai,r1,aE,ai,r2,aE,ai];unfold lq;rw[e3];rfl
 ·have:=K1.len
  simp at l3;omega
end
def Lj(O:bg):EM:=bp (mN (aP O) (aa (U 0) (aa (m2 (aJ .Add) (U 1) (ae (.int 1))) aj))) true (ae .non) (aZ (U 0)) 0 [1]
def ip(O:bg):SM:=
 (ah (b8 (m2 (au .Eq) (U 1) (ae (.int 8)))
 (ah (aH (U 0))
 ag)
 ag)
 (ah (b8 (m1 (bG .list) (U 0))
 (ah (aH (Lj O))
 ag)
 ag)
 (ah (b8 (m1 (bG .tuple) (U 0))
 (ah (aH (mN (aX .tuple) (aa (Lj O) aj)))
 ag)
 ag)
 (ah (b8 (m1 (bG .dict) (U 0))
 (ah nY
 ag)
 ag)
 (ah (aH (U 0))
 ag)))))
noncomputable def isA:D->Bool
 | .str _=>true
 | .int _=>true
 | _=>false
section
variable{Ω aq:aF}{O:bg}
theorem AX{d:D}(hd:isA d=true):bC 2 2 (ip O) [d,.int 2] Ω=.ok d Ω:=by
 rw[bK (by rfl)]
 show eS (ip O [some d,some (.int 2)] Ω)=_
 have h1:bG .list d Ω=.ok (.bl false) Ω:=by cases d<;>first | rfl | cases hd
 have h2:bG .tuple d Ω=.ok (.bl false) Ω:=by cases d<;>first | rfl | cases hd
 have h3:bG .dict d Ω=.ok (.bl false) Ω:=by cases d<;>first | rfl | cases hd
 simp[ip,h1,h2,h3]
theorem DY{ds:List D}(h:∀ d∈ds,isA d=true)(hl:ds.length<=900):bC 2 2 (ip (bC 2 2 (ip O))) [.tup ds,.int 1] Ω=.ok (.tup ds) (Ω++[.lst ds]):=by
 rw[bK (by rfl)]
 show eS (ip (bC 2 2 (ip O)) [some (.tup ds),some (.int 1)] Ω)=_
 have h1:bG .list (.tup ds) Ω=.ok (.bl false) Ω:=rfl;have h2:bG .tuple (.tup ds) Ω=.ok (.bl true) Ω:=rfl
 have hc:=cH (ρ:=[some (.tup ds),some (.int 1)]) (Ω:=Ω) (me:=mN (aP (bC 2 2 (ip O))) (aa (U 0) (aa (m2 (aJ .Add) (U 1) (ae (.int 1))) aj))) (nc:=true) (mc:=ae .non) (cap:=[1]) (ds:=ds) (p:=fun _=>true) (g:=fun d=>d) (mi:=aZ (U 0)) (src:=.seq (.tup ds)) (aq:=Ω) rfl rfl (fun d hd=>rfl) (fun d hd _=>by
  have:=AX (Ω:=Ω) (O:=O) (h d hd);simp[dh,this]) (by omega)
 rw[List.filter_eq_self.mpr (by simp),List.map_id']at hc
 have hc:Lj (bC 2 2 (ip O)) [some (.tup ds),some (.int 1)] Ω=.ok (.ref Ω.length) (Ω++[.lst ds]):=hc;have g1:(Ω++[Cell.lst ds])[Ω.length]?=some (.lst ds):=az
 have ht:aX .tuple [.ref Ω.length] (Ω++[Cell.lst ds])=.ok (.tup ds) (Ω++[Cell.lst ds]):=by
  show la [.ref Ω.length] (Ω++[Cell.lst ds])=_
  simp only[la,aN,aD g1]
 generalize bC 2 2 (ip O)=O1 at *;simp[ip,h1,h2,hc,ht]
theorem u6(s:ib):∀ d∈[D.str s.1,.str s.2.1,.int s.2.2],isA d=true:=by simp[isA]
theorem H_:yk (bC 2 2 (ip (bC 2 2 (ip (bC 2 2 (ip O)))))):=by
 intro Ω k ss hk hl;rw[bK (by rfl)]
 show ∃ q aq,eS (ip (bC 2 2 (ip (bC 2 2 (ip O)))) [some (.ref k),some (.int 0)] Ω)=_/\_
 have h1:=oG (t:=.list) hk;have h1:bG .list (.ref k) Ω=.ok (.bl true) Ω:=h1
 obtain⟨av,e,K⟩:=Du (ρ:=[some (.ref k),some (.int 0)]) (Ω:=Ω) (me:=mN (aP (bC 2 2 (ip (bC 2 2 (ip O))))) (aa (U 0) (aa (m2 (aJ .Add) (U 1) (ae (.int 1))) aj))) (mc:=ae .non) (cap:=[1]) (ds:=ss.map aO) (g:=fun d=>d) (mi:=aZ (U 0)) (src:=.seq (.ref k)) (fun av=>ao [] Ω av) (by
  rw[cm];exact bb (by rw[aN,aD hk])) ao.refl (fun av K=>by rw[bV,aN,aD (K.get _ _ hk (by simp))]) (fun d hd av K=>by
  obtain⟨s,_,rfl⟩:=List.mem_map.mp hd;have:=DY (Ω:=av) (O:=O) (u6 s) (by simp)
  refine⟨av++[Cell.lst [D.str s.1,.str s.2.1,.int s.2.2]],?_,K.trans ao.app⟩;have this:bC 2 2 (ip (bC 2 2 (ip O))) [aO s,.int 1] av=.ok (aO s) (av++[Cell.lst [D.str s.1,.str s.2.1,.int s.2.2]]):=this;generalize bC 2 2 (ip (bC 2 2 (ip O)))=O2 at *;simp[dh,this]) (by simp;omega)
 rw[List.map_id']at e;have e:Lj (bC 2 2 (ip (bC 2 2 (ip O)))) [some (.ref k),some (.int 0)] Ω=.ok (.ref av.length) (av++[.lst (ss.map aO)]):=e;refine⟨av.length,av++[.lst (ss.map aO)],?_,az,K.len,K.trans ao.app⟩;generalize bC 2 2 (ip (bC 2 2 (ip O)))=O2 at *;simp[ip,h1,e]
end
theorem u7{u t:List Str}{a b:Str}(hn:(u++a::t).Nodup)(hb:b∈t):(u++a::t).idxOf a < (u++a::t).idxOf b:=by
 obtain⟨_,h2,h3⟩:=List.nodup_append.mp hn;have ha:a∉u:=fun q=>h3 a q a (by simp) rfl
 have Tp:b∉u:=fun q=>h3 b q b (by simp[hb]) rfl
 have hne:a≠b:=fun q=>(List.nodup_cons.mp h2).1 (q▸hb)
 rw[List.idxOf_append,if_neg ha,List.idxOf_append,if_neg Tp,List.idxOf_cons_self,List.idxOf_cons];have:(a == b)=false:=by simpa using hne
 rw[this];simp
def Tq(rs:List (List Str))(s:ib):Prop:=∃ u t,rs[s.2.2]?=some (u++s.1::t)/\s.2.1∈t
def c0:EM:=m2 aA (U 1) (ae (.int 0))
def c1:EM:=m2 aA (U 1) (ae (.int 1))
def c2:EM:=m2 aA (U 1) (ae (.int 2))
def Ia:EM:=m2 (au .Lt) (bP eX cq (U 2) (aa c0 aj)) (bP eX cq (U 2) (aa c1 aj))
section
variable{Ω aq:aF}{k:Nat}{js:List Nat}{rs:List (List Str)}{row:List Str}{s:ib}
theorem tT{a0 a2:Option D}:c0 [a0,some (aO s),a2] Ω=.ok (.str s.1) Ω:=by
 have:aA (aO s) (.int 0) Ω=.ok (.str s.1) Ω:=eV (L2.a_ (j:=0) rfl);simp[c0,this]
theorem tU{a0 a2:Option D}:c1 [a0,some (aO s),a2] Ω=.ok (.str s.2.1) Ω:=by
 have:aA (aO s) (.int 1) Ω=.ok (.str s.2.1) Ω:=eV (L2.a_ (j:=1) rfl);simp[c1,this]
theorem qq{a0 a2:Option D}:c2 [a0,some (aO s),a2] Ω=.ok (.int s.2.2) Ω:=by
 have:aA (aO s) (.int 2) Ω=.ok (.int s.2.2) Ω:=eV (L2.a_ (j:=2) rfl);simp[c2,this]
theorem ym{a0:Option D}{j:Nat}{u t:List Str}(hj:Ω[j]?=some (.lst ((u++s.1::t).map .str)))(hn:(u++s.1::t).Nodup)(hm:s.2.1∈t):Ia [a0,some (aO s),some (.ref j)] Ω=.ok (.bl true) Ω:=by
 have i0:=g7 (w:=s.1) hj (by simp)
 have i1:=g7 (w:=s.2.1) hj (by simp[hm])
 have iL:=df hj
 have e0:(bP eX cq (U 2) (aa c0 aj)) [a0,some (aO s),some (.ref j)] Ω=.ok (.int ((u++s.1::t).idxOf s.1:Nat)) Ω:=by
  rw[dE (x:=.ref j) (aq:=Ω) (by simp) iL,d7,tT]
  simp[i0]
 have e1:(bP eX cq (U 2) (aa c1 aj)) [a0,some (aO s),some (.ref j)] Ω=.ok (.int ((u++s.1::t).idxOf s.2.1:Nat)) Ω:=by
  rw[dE (x:=.ref j) (aq:=Ω) (by simp) iL,d7,tU]
  simp[i1]
 have hlt:=u7 hn hm;unfold Ia;rw[dm,e0,aQ,e1,aQ];simp only[Av];simp;omega
def DZ(W:List D->Out Rs):SM:=
 (ah (b8 (fE (bW (m1 (bG .tuple) (U 1))) (m2 (au .NotEq) (mN (aX .len) (aa (U 1) aj)) (ae (.int 3))))
 (ah (aH (ae (.bl false)))
 ag)
 ag)
 (ah (b8 (fE (bW (m1 (bG .str) c0)) (fE (bW (m1 (bG .str) c1)) (bW (mN (bo W) (aa c2 (aa (ae (.int 0)) (aa (m2 (aJ .Sub) (mN (aX .len) (aa (U 0) aj)) (ae (.int 1))) aj)))))))
 (ah (aH (ae (.bl false)))
 ag)
 ag)
 (ah (ay 2 (m2 aA (U 0) c2))
 (ah (aH (cR (m2 (au .In) c0 (U 2)) (cR (m2 (au .In) c1 (U 2)) Ia)))
 ag))))
def yn(IC:bg):Prop:=∀ (Ω:aF) (k:Nat) (js:List Nat) (rs:List (List Str)) (s:ib),Rw Ω k js rs->(∀ r∈rs,r.Nodup)->rs.length<=900->Tq rs s->IC [.ref k,aO s] Ω=.ok (.bl true) Ω
def Ib(W:List D->Out Rs):Prop:=∀ p n:Nat,p < n->n<=1000->W [.int p,.int 0,.int ((n:Int) - 1)]=.ok (false,.bl true)
theorem Ic{W:List D->Out Rs}(hW:Ib W):yn (bC 3 2 (DZ W)):=by
 intro Ω k js rs s R hn hl ⟨u,t,hp,hm⟩;rw[bK (by rfl)]
 have e0:aS 3 [D.ref k,aO s]=[some (.ref k),some (aO s),none]:=rfl;rw[e0];have hlt:=(List.getElem?_eq_some_iff.mp hp).1;obtain⟨j,hj,hrow⟩:=R.al.at hp;have hnd:=hn _ (List.mem_of_getElem? hp);have h1:aA (.ref k) (.int s.2.2) Ω=.ok (.ref j) Ω:=bq R.ce (L2.a_ (by rw[List.getElem?_map,hj];rfl))
 have t1:bG .tuple (aO s) Ω=.ok (.bl true) Ω:=rfl;have t2:aX .len [aO s] Ω=.ok (.int 3) Ω:=rfl;have t3:bG .str (.str s.1) Ω=.ok (.bl true) Ω:=rfl;have t4:bG .str (.str s.2.1) Ω=.ok (.bl true) Ω:=rfl;have hlen:=de R.ce;have hL:=R.len;rw[List.length_map,← hL]at hlen;have hw:=hW s.2.2 rs.length hlt (by omega)
 have b1:(b8 (fE (bW (m1 (bG .tuple) (U 1))) (m2 (au .NotEq) (mN (aX .len) (aa (U 1) aj)) (ae (.int 3)))) (ah (aH (ae (.bl false))) ag) ag) [some (.ref k),some (aO s),none] Ω=.nx [some (.ref k),some (aO s),none] Ω:=by
  simp[t1,t2]
 have b2:(b8 (fE (bW (m1 (bG .str) c0)) (fE (bW (m1 (bG .str) c1)) (bW (mN (bo W) (aa c2 (aa (ae (.int 0)) (aa (m2 (aJ .Sub) (mN (aX .len) (aa (U 0) aj)) (ae (.int 1))) aj))))))) (ah (aH (ae (.bl false))) ag) ag) [some (.ref k),some (aO s),none] Ω=.nx [some (.ref k),some (aO s),none] Ω:=by
  simp[tT,tU,qq,t3,t4,hlen,hw]
 have b3:(ay 2 (m2 aA (U 0) c2)) [some (.ref k),some (aO s),none] Ω=.nx [some (.ref k),some (aO s),some (.ref j)] Ω:=by
  simp[qq,h1]
 have i0:=lF (w:=s.1) hrow;have i1:=lF (w:=s.2.1) hrow;rw[decide_eq_true (by simp)]at i0
 rw[decide_eq_true (by simp[hm])]at i1
 have b4:(cR (m2 (au .In) c0 (U 2)) (cR (m2 (au .In) c1 (U 2)) Ia)) [some (.ref k),some (aO s),some (.ref j)] Ω=.ok (.bl true) Ω:=by
  have q1:(m2 (au .In) c0 (U 2)) [some (.ref k),some (aO s),some (.ref j)] Ω=.ok (.bl true) Ω:=by simp[tT,i0,-j_]
  have q2:(m2 (au .In) c1 (U 2)) [some (.ref k),some (aO s),some (.ref j)] Ω=.ok (.bl true) Ω:=by simp[tU,i1,-j_]
  rw[iZ,q1,aQ,da,tH,iZ,q2,aQ,da,tH,ym hrow hnd hm]
 unfold DZ;rw[ai,b1,aE,ai,b2,aE,ai,b3,aE,ai,cU,b4];rfl
def D1(W:List D->Out Rs):SM:=
 (ah (b8 (fE (bW (m1 (bG .tuple) (U 1))) (fE (m2 (au .NotEq) (mN (aX .len) (aa (U 1) aj)) (ae (.int 3))) (bW (mN (bo W) (aa c2 aj)))))
 (ah (aH (ae (.bl false)))
 ag)
 ag)
 (ah (b8 (bW (h_ .LtE .Lt (ae (.int 0)) c2 (mN (aX .len) (aa (U 0) aj))))
 (ah (aH (ae (.bl false)))
 ag)
 ag)
 (ah (ay 2 (m2 aA (U 0) c2))
 (ah (b8 (fE (m2 (au .NotIn) c0 (U 2)) (m2 (au .NotIn) c1 (U 2)))
 (ah (aH (ae (.bl false)))
 ag)
 ag)
 (ah (aH Ia)
 ag)))))
theorem Ie{W:List D->Out Rs}(hW:∀ i:Int,W [.int i]=.ok (false,.bl true)):yn (bC 3 2 (D1 W)):=by
 intro Ω k js rs s R hn hl ⟨u,t,hp,hm⟩;rw[bK (by rfl)]
 have e0:aS 3 [D.ref k,aO s]=[some (.ref k),some (aO s),none]:=rfl;rw[e0];have hlt:=(List.getElem?_eq_some_iff.mp hp).1;obtain⟨j,hj,hrow⟩:=R.al.at hp;have hnd:=hn _ (List.mem_of_getElem? hp);have h1:aA (.ref k) (.int s.2.2) Ω=.ok (.ref j) Ω:=bq R.ce (L2.a_ (by rw[List.getElem?_map,hj];rfl))
 have t1:bG .tuple (aO s) Ω=.ok (.bl true) Ω:=rfl;have t2:aX .len [aO s] Ω=.ok (.int 3) Ω:=rfl;have hlen:=de R.ce;have hL:=R.len;rw[List.length_map,← hL]at hlen;have hw:=hW s.2.2
 have b1:(b8 (fE (bW (m1 (bG .tuple) (U 1))) (fE (m2 (au .NotEq) (mN (aX .len) (aa (U 1) aj)) (ae (.int 3))) (bW (mN (bo W) (aa c2 aj))))) (ah (aH (ae (.bl false))) ag) ag) [some (.ref k),some (aO s),none] Ω=.nx [some (.ref k),some (aO s),none] Ω:=by
  simp[t1,t2,qq,hw]
 have b2:(b8 (bW (h_ .LtE .Lt (ae (.int 0)) c2 (mN (aX .len) (aa (U 0) aj)))) (ah (aH (ae (.bl false))) ag) ag) [some (.ref k),some (aO s),none] Ω=.nx [some (.ref k),some (aO s),none] Ω:=by
  have q:(h_ .LtE .Lt (ae (.int 0)) c2 (mN (aX .len) (aa (U 0) aj))) [some (.ref k),some (aO s),none] Ω=.ok (.bl true) Ω:=by
   unfold h_
   have z1:cC .LtE (.int 0) (.int s.2.2) Ω=.ok (.bl true) Ω:=by
    have:au .LtE (.int 0) (.int s.2.2) Ω=.ok (.bl true) Ω:=by simp
    exact this
   have z2:cC .Lt (.int s.2.2) (.int rs.length) Ω=.ok (.bl true) Ω:=by
    have:au .Lt (.int s.2.2) (.int rs.length) Ω=.ok (.bl true) Ω:=by simp;omega
    exact this
   simp[qq,z1,hlen,z2];omega
  rw[bU,j6,q];rfl
 have b3:(ay 2 (m2 aA (U 0) c2)) [some (.ref k),some (aO s),none] Ω=.nx [some (.ref k),some (aO s),some (.ref j)] Ω:=by
  simp[qq,h1]
 have i0:=gZ (w:=s.1) hrow;have i1:=gZ (w:=s.2.1) hrow;rw[decide_eq_true (by simp)]at i0
 rw[decide_eq_true (by simp[hm])]at i1
 have b4:(b8 (fE (m2 (au .NotIn) c0 (U 2)) (m2 (au .NotIn) c1 (U 2))) (ah (aH (ae (.bl false))) ag) ag) [some (.ref k),some (aO s),some (.ref j)] Ω=.nx [some (.ref k),some (aO s),some (.ref j)] Ω:=by
  have q1:(m2 (au .NotIn) c0 (U 2)) [some (.ref k),some (aO s),some (.ref j)] Ω=.ok (.bl false) Ω:=by simp[tT,i0,-dO]
  have q2:(m2 (au .NotIn) c1 (U 2)) [some (.ref k),some (aO s),some (.ref j)] Ω=.ok (.bl false) Ω:=by simp[tU,i1,-dO]
  rw[bU,lD,q1,aQ,da,pY,q2];rfl
 unfold D1;rw[ai,b1,aE,ai,b2,aE,ai,b3,aE,ai,b4,aE,ai,cU,ym hrow hnd hm];rfl
end
theorem lL:∀ (xs σ:List Str),xs.Nodup->(∀ x∈xs,x∉σ)->(xs.foldl ie σ).length=σ.length + xs.length
 | [],σ,_,_=>by simp
 | x::xs,σ,hn,hs=>by
  have e:ie σ x=σ++[x]:=if_neg (hs x (by simp))
  obtain⟨h1,h2⟩:=List.nodup_cons.mp hn
  rw[List.foldl_cons,e,lL xs (σ++[x]) h2 (fun y hy=>by
   simp only[List.mem_append,List.mem_singleton,not_or];exact⟨hs y (by simp[hy]),fun q=>h1 (q▸hy)⟩)]
  simp;omega
theorem u9{xs:List Str}(h:xs.Nodup):unlike xs=xs.length:=by
 have:=lL xs [] h (by simp)
 simpa[unlike] using this
theorem mX:∀ xs:List Str,dv (xs.map .str)=some xs
 | []=>rfl
 | x::xs=>by simp[dv,mX xs]
section
variable{Ω aq:aF}{ρ:aU}{k:Nat}{js:List Nat}{rs:List (List Str)}{ss:List ib}
theorem dG.two(h:dG rs ss)(hn:∀ r∈rs,r.Nodup):2<=ss.length:=by
 obtain⟨n,R,h1,h2,h3⟩:=h.ex;cases ss with
 | nil=>simp at h1
 | cons s ss=>
  cases ss with
  | nil=>
   simp at h1 h2;obtain⟨rfl,rfl⟩:=h1;simp at h2;obtain⟨u,t,e,hm⟩:=h.u4 s (by simp)
   have:=hn _ (List.mem_of_getElem? e);obtain⟨_,q,_⟩:=List.nodup_append.mp this;exact absurd (by rw[h2]at hm;exact hm) (List.nodup_cons.mp q).1
  | cons _ _=>simp
theorem D2{α:Type}{xs:List α}(h:Ω[k]?=some (.lst (xs.map fun _=>.bl true))):aX .all [.ref k] Ω=.ok (.bl true) Ω:=by
 show jj .all [.ref k] Ω=_
 unfold jj;rw[i5];have hr:=gX (n:=7) h (BV xs);have:bT (fj Ω 8) [.ref k]=some [.lst (xs.map fun _=>D.bl true)]:=by rw[j7,hr];rfl
 rw[this,oo,pZ,nJ (p:=fun _=>true)]
 have:(xs.map fun _=>true).all id=true:=by simp
 show fk Ω (.ok (false,.bl ((xs.map fun _=>true).all id)))=_
 rw[this,rF]
theorem gS{j k:Nat}{ds es:List D}(h1:Ω[j]?=some (.lst ds))(h2:Ω[k]?=some (.lst es))(hs:ds.length + es.length<=1000):aJ .Add (.ref j) (.ref k) Ω=.ok (.ref Ω.length) (Ω++[.lst (ds++es)]):=by
 rw[p7,tK,aD h1,aD h2,tJ,if_pos (aW (by omega))]
 rfl
theorem tV{i:Nat}{ix:Int}{f:ib->Str}(hi:ρ[i]?=some (some (.ref k)))(hk:Ω[k]?=some (.lst (ss.map aO)))(hf:∀ s,aA (aO s) (.int ix) Ω=.ok (.str (f s)) Ω)(hl:ss.length<=900) :
  bp (m2 aA (U 0) (ae (.int ix))) true (ae .non) (aZ (U i)) 0 [] ρ Ω=.ok (.ref Ω.length) (Ω++[.lst ((ss.map f).map .str)]):=by
 have fJ:aZ (U i) ρ Ω=.ok (.seq (.ref k)) Ω:=by
  rw[cm,fc,hi,fV,aQ];exact bb (by rw[aN,aD hk])
 have hc:=cH (me:=m2 aA (U 0) (ae (.int ix))) (nc:=true) (mc:=ae .non) (cap:=[]) (ds:=ss.map aO) (p:=fun _=>true) (g:=fun d=>match aA d (.int ix) Ω with | .ok x _=>x | _=>.non) fJ (by rw[bV,aN,aD hk]) (fun d hd=>rfl) (fun d hd _=>by
  obtain⟨s,_,rfl⟩:=List.mem_map.mp hd;simp[dh,hf s]) (by simp;omega)
 rw[List.filter_eq_self.mpr (by simp),List.map_map]at hc
 rw[hc,List.map_map]
 congr 4
 refine List.map_congr_left fun s _ => ?_
 simp[hf s]
def NK(IC:bg):EM:=(bp (mN (aP IC) (aa (U 1) (aa (U 0) aj))) true (ae .non) (aZ (U 1)) 0 [0])
def NL:EM:=(cR (m2 (au .Eq) (U 3) (m2 (aJ .Add) (b_ (U 2) false (ae (.int 1)) true (ae .non)) (b_ (U 2) true (ae .non) false (ae (.int 1))))) (m2 (au .Eq) (m1 (ji fg) (U 2)) (mN (aX .len) (aa (U 2) aj))))
def AY(IC:bg):SM:=
 (ah (b8 (fE (m2 (au .Lt) (mN (aX .len) (aa (U 1) aj)) (ae (.int 2))) (bW (mN (aX .all) (aa (NK IC) aj))))
 (ah (aH (ae (.bl false)))
 ag)
 ag)
 (ah (ay 2 (bp (m2 aA (U 0) (ae (.int 0))) true (ae .non) (aZ (U 1)) 0 []))
 (ah (ay 3 (bp (m2 aA (U 0) (ae (.int 1))) true (ae .non) (aZ (U 1)) 0 []))
 (ah (aH NL)
 ag))))
def AZ(IR:bg):Prop:=∀ (Ω:aF) (k t:Nat) (js:List Nat) (rs:List (List Str)) (ss:List ib),Rw Ω k js rs->(∀ r∈rs,r.Nodup)->rs.length<=900->dG rs ss->Ω[t]?=some (.lst (ss.map aO))->ss.length<=900->∃ aq,IR [.ref k,.ref t] Ω=.ok (.bl true) aq/\ao [] Ω aq
theorem D3{a0 a1:Option D}{p q:Nat}{n:Str}{R:List Str}(h2:Ω[p]?=some (.lst ((n::R).map .str)))(h3:Ω[q]?=some (.lst ((R++[n]).map .str)))(hn:(n::R).Nodup)(hl:R.length<=900):∃ aq,NL [a0,a1,some (.ref p),some (.ref q)] Ω=.ok (.bl true) aq/\ao [] Ω aq:=by
 have s1:=lH h2;have K1:ao [] Ω (Ω++[Cell.lst ((n::R).tail.map .str)]):=ao.app;have g1:(Ω++[Cell.lst ((n::R).tail.map .str)])[Ω.length]?=some (.lst (R.map .str)):=az;have e1:(b_ (U 2) false (ae (.int 1)) true (ae .non)) [a0,a1,some (.ref p),some (.ref q)] Ω=.ok (.ref Ω.length) (Ω++[Cell.lst ((n::R).tail.map .str)]):=by simp[s1]
 generalize Ω++[Cell.lst ((n::R).tail.map .str)]=ak at *;have s2:=ya (K1.get _ _ h2 (by simp))
 have K2:ao [] ak (ak++[Cell.lst (((n::R).take 1).map .str)]):=ao.app;have g2:(ak++[Cell.lst (((n::R).take 1).map .str)])[ak.length]?=some (.lst ([n].map .str)):=az;have e2:(b_ (U 2) true (ae .non) false (ae (.int 1))) [a0,a1,some (.ref p),some (.ref q)] ak=.ok (.ref ak.length) (ak++[Cell.lst (((n::R).take 1).map .str)]):=by simp[s2]
 generalize ak++[Cell.lst (((n::R).take 1).map .str)]=av at *;have s3:=gS (K2.get _ _ g1 (by simp)) g2 (by simp;omega)
 have K3:ao [] av (av++[Cell.lst (R.map .str++[n].map .str)]):=ao.app;have g3:(av++[Cell.lst (R.map .str++[n].map .str)])[av.length]?=some (.lst ((R++[n]).map .str)):=by rw[List.map_append];exact az
 have e3:(m2 (aJ .Add) (b_ (U 2) false (ae (.int 1)) true (ae .non)) (b_ (U 2) true (ae .non) false (ae (.int 1)))) [a0,a1,some (.ref p),some (.ref q)] Ω=.ok (.ref av.length) (av++[Cell.lst (R.map .str++[n].map .str)]):=by
  rw[dm,e1,aQ,e2,aQ,s3]
 generalize av++[Cell.lst (R.map .str++[n].map .str)]=aM at *;have K:=(K1.trans K2).trans K3;have h2':=K.get _ _ h2 (by simp)
 have h3':=K.get _ _ h3 (by simp)
 have q1:=kc h3' g3;rw[decide_eq_true rfl]at q1;have hu:=u9 hn
 have q2:ji fg (.ref p) aM=.ok (.int ((n::R).length:Nat)) aM:=by
  have hr:=c8 (n:=7) h2';unfold ji;rw[hr]
  have:fg (L1 (n::R))=.ok (false,.int (unlike (n::R))):=by
   show(match dv ((n::R).map .str) with | some xs=>if xs.length<=1000 then Out.ok (false,D.int (unlike xs)) else .bad | none=>.bad)=_
   rw[mX]
   show(if (n::R).length<=1000 then Out.ok (false,D.int (unlike (n::R))) else Out.bad)=_
   rw[if_pos (by simp;omega)]
  dsimp only;rw[this,hu];rfl
 have q3:=de h2';rw[List.length_map]at q3;refine⟨aM,?_,K⟩
 have w1:(m2 (au .Eq) (U 3) (m2 (aJ .Add) (b_ (U 2) false (ae (.int 1)) true (ae .non)) (b_ (U 2) true (ae .non) false (ae (.int 1))))) [a0,a1,some (.ref p),some (.ref q)] Ω=.ok (.bl true) aM:=by
  rw[dm,show U 3 [a0,a1,some (.ref p),some (.ref q)] Ω=.ok (.ref q) Ω from rfl,aQ,e3,aQ,q1]
 have w2:(m2 (au .Eq) (m1 (ji fg) (U 2)) (mN (aX .len) (aa (U 2) aj))) [a0,a1,some (.ref p),some (.ref q)] aM=.ok (.bl true) aM:=by
  have:(m1 (ji fg) (U 2)) [a0,a1,some (.ref p),some (.ref q)] aM=.ok (.int ((n::R).length:Nat)) aM:=by
   rw[tF,show U 2 [a0,a1,some (.ref p),some (.ref q)] aM=.ok (.ref p) aM from rfl,aQ,q2]
  rw[dm,this,aQ];simp[q3]
 unfold NL;rw[iZ,w1,aQ,da,tH,w2]
theorem Ig{IC:bg}(hI:yn IC):AZ (bC 4 2 (AY IC)):=by
 intro Ω k t js rs ss R hn hl hr ht hs;rw[bK (by rfl)]
 have e0:aS 4 [D.ref k,.ref t]=[some (.ref k),some (.ref t),none,none]:=rfl;rw[e0];have h2:=hr.two hn;have hlen:=de ht;rw[List.length_map]at hlen
 have fJ:aZ (U 1) [some (.ref k),some (.ref t),none,none] Ω=.ok (.seq (.ref t)) Ω:=by
  rw[cm];exact bb (by rw[aN,aD ht])
 have hc:=cH (me:=mN (aP IC) (aa (U 1) (aa (U 0) aj))) (nc:=true) (mc:=ae .non) (cap:=[0]) (ds:=ss.map aO) (p:=fun _=>true) (g:=fun _=>.bl true) fJ (by rw[bV,aN,aD ht]) (fun d hd=>rfl) (fun d hd _=>by
  obtain⟨s,hs,rfl⟩:=List.mem_map.mp hd;have:=hI Ω k js rs s R hn hl (hr.u4 s hs);simp[dh,this]) (by simp;omega)
 rw[List.filter_eq_self.mpr (by simp),List.map_map]at hc
 have hc:NK IC [some (.ref k),some (.ref t),none,none] Ω=.ok (.ref Ω.length) (Ω++[Cell.lst (ss.map ((fun _=>D.bl true) ∘ aO))]):=hc
 have K1:ao [] Ω (Ω++[Cell.lst (ss.map ((fun _=>D.bl true) ∘ aO))]):=ao.app
 have g1:(Ω++[Cell.lst (ss.map ((fun _=>D.bl true) ∘ aO))])[Ω.length]?=some (.lst (ss.map fun _=>.bl true)):=az
 generalize Ω++[Cell.lst (ss.map ((fun _=>D.bl true) ∘ aO))]=ak at *
 have ha:=D2 g1;have ht1:=K1.get _ _ ht (by simp)
 have b1:(b8 (fE (m2 (au .Lt) (mN (aX .len) (aa (U 1) aj)) (ae (.int 2))) (bW (mN (aX .all) (aa (NK IC) aj)))) (ah (aH (ae (.bl false))) ag) ag) [some (.ref k),some (.ref t),none,none] Ω=.nx [some (.ref k),some (.ref t),none,none] ak:=by
  have q1:(m2 (au .Lt) (mN (aX .len) (aa (U 1) aj)) (ae (.int 2))) [some (.ref k),some (.ref t),none,none] Ω=.ok (.bl false) Ω:=by
   simp[hlen];omega
  rw[bU,lD,q1,aQ,da,pY,j6,BL,d7,hc,aQ,j5,aQ,aQ,ha];rfl
 have c1:=tV (ρ:=[some (.ref k),some (.ref t),none,none]) (i:=1) (ix:=0) (f:=fun s=>s.1) rfl ht1 (fun s=>eV (L2.a_ (j:=0) rfl)) hs
 have K2:ao [] ak (ak++[Cell.lst ((ss.map fun s=>s.1).map .str)]):=ao.app
 have g2:(ak++[Cell.lst ((ss.map fun s=>s.1).map .str)])[ak.length]?=some (.lst ((ss.map fun s=>s.1).map .str)):=az
 have b2:(ay 2 (bp (m2 aA (U 0) (ae (.int 0))) true (ae .non) (aZ (U 1)) 0 [])) [some (.ref k),some (.ref t),none,none] ak=.nx [some (.ref k),some (.ref t),some (.ref ak.length),none] (ak++[Cell.lst ((ss.map fun s=>s.1).map .str)]):=by rw[bD,c1];rfl
 generalize ak++[Cell.lst ((ss.map fun s=>s.1).map .str)]=av at *
 have Tr:=K2.get _ _ ht1 (by simp)
 have c2:=tV (ρ:=[some (.ref k),some (.ref t),some (.ref ak.length),none]) (i:=1) (ix:=1) (f:=fun s=>s.2.1) rfl Tr (fun s=>eV (L2.a_ (j:=1) rfl)) hs
 have K3:ao [] av (av++[Cell.lst ((ss.map fun s=>s.2.1).map .str)]):=ao.app
 have g3:(av++[Cell.lst ((ss.map fun s=>s.2.1).map .str)])[av.length]?=some (.lst ((ss.map fun s=>s.2.1).map .str)):=az
 have b3:(ay 3 (bp (m2 aA (U 0) (ae (.int 1))) true (ae .non) (aZ (U 1)) 0 [])) [some (.ref k),some (.ref t),some (.ref ak.length),none] av=.nx [some (.ref k),some (.ref t),some (.ref ak.length),some (.ref av.length)] (av++[Cell.lst ((ss.map fun s=>s.2.1).map .str)]):=by rw[bD,c2];rfl
 generalize av++[Cell.lst ((ss.map fun s=>s.2.1).map .str)]=aM at *
 have QL:=K3.get _ _ g2 (by simp)
 obtain⟨n,R,x1,x2,x3⟩:=hr.ex;rw[x1]at QL;rw[x2]at g3
 have hR:R.length<=900:=by
  have:=congrArg List.length x1;simp at this;omega
 obtain⟨cX,e4,K4⟩:=D3 (a0:=some (.ref k)) (a1:=some (.ref t)) QL g3 x3 hR;refine⟨cX,?_,((K1.trans K2).trans K3).trans K4⟩;unfold AY;rw[ai,b1,aE,ai,b2,aE,ai,b3,aE,ai,cU,e4];rfl
end
section
variable{Ω aq:aF}{ρ:aU}{k:Nat}{js:List Nat}{rs:List (List Str)}{ss:List ib}
def kE:EM:=m2 aA (U 1) (U 3)
def yB:EM:=m2 aA kE (ae (.int 0))
def NM(LC:bg):SM:=
 (ah (b8 (fE (bW (mN (aP LC) (aa (U 0) (aa kE aj)))) (m2 (au .In) yB (U 2)))
 (ah (aH (ae (.bl false)))
 ag)
 ag)
 (ah (b8 (cR (m2 (au .Gt) (U 3) (ae (.int 0))) (m2 (au .NotEq) (m2 aA (m2 aA (U 1) (m2 (aJ .Sub) (U 3) (ae (.int 1)))) (ae (.int 1))) yB))
 (ah (aH (ae (.bl false)))
 ag)
 ag)
 (ah (dZ (bP eX bf (U 2) (aa yB aj)))
 ag)))
def D4(LC:bg):SM:=
 (ah (b8 (fE (bW (m1 (bG .list) (U 1))) (m2 (au .Lt) (mN (aX .len) (aa (U 1) aj)) (ae (.int 2))))
 (ah (aH (ae (.bl false)))
 ag)
 ag)
 (ah (ay 2 (mN bA aj))
 (ah (cD (bu 3) (bt (aa (mN (aX .len) (aa (U 1) aj)) aj)) (NM LC))
 (ah (aH (m2 (au .Eq) (m2 aA (m2 aA (U 1) (m1 ro (ae (.int 1)))) (ae (.int 1))) (m2 aA (m2 aA (U 1) (ae (.int 0))) (ae (.int 0)))))
 ag))))
theorem rQ{t i:Nat}{s:ib}(ht:Ω[t]?=some (.lst (ss.map aO)))(hs:ss[i]?=some s):aA (.ref t) (.int i) Ω=.ok (aO s) Ω:=bq ht (L2.a_ (by rw[List.getElem?_map,hs];rfl))
theorem Ih{s:ib}:aA (aO s) (.int 0) Ω=.ok (.str s.1) Ω:=eV (L2.a_ (j:=0) rfl)
theorem Ii{s:ib}:aA (aO s) (.int 1) Ω=.ok (.str s.2.1) Ω:=eV (L2.a_ (j:=1) rfl)
theorem dG.link(h:dG rs ss){i:Nat}{s s':ib}(e:ss[i]?=some s)(e':ss[i + 1]?=some s'):s.2.1=s'.1:=by
 obtain⟨n,R,h1,h2,_⟩:=h.ex;have a1:(ss.map (·.2.1))[i]?=some s.2.1:=by rw[List.getElem?_map,e];rfl
 have a2:(ss.map (·.1))[i + 1]?=some s'.1:=by rw[List.getElem?_map,e'];rfl
 rw[h2]at a1;rw[h1,List.getElem?_cons_succ]at a2;rw[List.getElem?_append_left (List.getElem?_eq_some_iff.mp a2).1,a2]at a1;exact(Option.some.inj a1).symm
theorem dG.ends(h:dG rs ss):∃ l s0 r,ss=l++[r]/\ss[0]?=some s0/\r.2.1=s0.1:=by
 obtain⟨n,R,h1,h2,_⟩:=h.ex;cases ss with
 | nil=>simp at h1
 | cons s0 ss'=>
  obtain⟨l,r,e⟩:∃ l r,s0::ss'=l++[r]:=⟨_,_,(List.dropLast_concat_getLast (l:=s0::ss') (by simp)).symm⟩
  refine⟨l,s0,r,e,rfl,?_⟩;have a:s0.1=n:=by simp at h1;exact h1.1
  rw[e,List.map_append]at h2;have:=List.append_inj_right' h2 (by simp)
  simp at this;rw[this,a]
theorem D5{LC:bg}(hL:yn LC){t q i:Nat}{s:ib}(R:Rw Ω k js rs)(hn:∀ r∈rs,r.Nodup)(hl:rs.length<=900)(hr:dG rs ss)(ht:Ω[t]?=some (.lst (ss.map aO)))(hs:ss[i]?=some s)(hsl:ss.length<=900)
  (hq:Ω[q]?=some (.lst (((ss.take i).map fun s=>s.1).map .str))) :
  NM LC [some (.ref k),some (.ref t),some (.ref q),some (.int i)] Ω=.nx [some (.ref k),some (.ref t),some (.ref q),some (.int i)] (Ω.set q (.lst (((ss.take (i + 1)).map fun s=>s.1).map .str))):=by
 have hlt:=(List.getElem?_eq_some_iff.mp hs).1;have e1:=rQ ht hs;have kk:kE [some (.ref k),some (.ref t),some (.ref q),some (.int i)] Ω=.ok (aO s) Ω:=by simp[kE,e1]
 have k0:yB [some (.ref k),some (.ref t),some (.ref q),some (.int i)] Ω=.ok (.str s.1) Ω:=by
  unfold yB;rw[dm,kk,aQ]
  show ax.bind (ae (.int 0) _ Ω) _=_
  rw[show ae (D.int 0) [some (.ref k),some (.ref t),some (.ref q),some (.int i)] Ω=.ok (.int 0) Ω from rfl,aQ,Ih]
 have cl:=hL Ω k js rs s R hn hl (hr.u4 s (List.mem_of_getElem? hs));have ku:ss.take (i + 1)=ss.take i++[s]:=by rw[List.take_succ,hs];rfl
 have NN:s.1∉(ss.take i).map fun s=>s.1:=fun hm=>by
  obtain⟨n,R',h1,_,h3⟩:=hr.ex;rw[← h1]at h3;have:((ss.take (i + 1)).map fun s=>s.1).Nodup:=h3.sublist ((List.take_sublist _ _).map _)
  rw[ku,List.map_append]at this;obtain⟨_,_,z⟩:=List.nodup_append.mp this;exact z _ hm _ (by simp) rfl
 have hin:=lF (w:=s.1) hq;rw[decide_eq_false NN]at hin
 have b1:(b8 (fE (bW (mN (aP LC) (aa (U 0) (aa kE aj)))) (m2 (au .In) yB (U 2))) (ah (aH (ae (.bl false))) ag) ag) [some (.ref k),some (.ref t),some (.ref q),some (.int i)] Ω=.nx [some (.ref k),some (.ref t),some (.ref q),some (.int i)] Ω:=by
  have w1:(bW (mN (aP LC) (aa (U 0) (aa kE aj)))) [some (.ref k),some (.ref t),some (.ref q),some (.int i)] Ω=.ok (.bl false) Ω:=by simp[kk,cl]
  have w2:(m2 (au .In) yB (U 2)) [some (.ref k),some (.ref t),some (.ref q),some (.int i)] Ω=.ok (.bl false) Ω:=by
   rw[dm,k0,aQ,show U 2 [some (.ref k),some (.ref t),some (.ref q),some (.int i)] Ω=.ok (.ref q) Ω from rfl,aQ,hin]
  rw[bU,lD,w1,aQ,da,pY,w2];rfl
 have b2:(b8 (cR (m2 (au .Gt) (U 3) (ae (.int 0))) (m2 (au .NotEq) (m2 aA (m2 aA (U 1) (m2 (aJ .Sub) (U 3) (ae (.int 1)))) (ae (.int 1))) yB)) (ah (aH (ae (.bl false))) ag) ag) [some (.ref k),some (.ref t),some (.ref q),some (.int i)] Ω=.nx [some (.ref k),some (.ref t),some (.ref q),some (.int i)] Ω:=by
  cases i with
  | zero=>simp
  | succ i=>
   have hlt':i < ss.length:=by omega
   have hs':ss[i]?=some ss[i]:=List.getElem?_eq_getElem hlt';have lk:=hr.link hs' hs
   have w1:(m2 (au .Gt) (U 3) (ae (.int 0))) [some (.ref k),some (.ref t),some (.ref q),some (.int (i + 1:Nat))] Ω=.ok (.bl true) Ω:=by
    simp
   have w2:(m2 aA (m2 aA (U 1) (m2 (aJ .Sub) (U 3) (ae (.int 1)))) (ae (.int 1))) [some (.ref k),some (.ref t),some (.ref q),some (.int (i + 1:Nat))] Ω=.ok (.str ss[i].2.1) Ω:=by
    have e2:aA (.ref t) (.int (i:Int)) Ω=.ok (aO ss[i]) Ω:=rQ ht hs';simp[e2,Ii]
   have w3:(m2 (au .NotEq) (m2 aA (m2 aA (U 1) (m2 (aJ .Sub) (U 3) (ae (.int 1)))) (ae (.int 1))) yB) [some (.ref k),some (.ref t),some (.ref q),some (.int (i + 1:Nat))] Ω=.ok (.bl false) Ω:=by
    rw[dm,w2,aQ,k0,aQ,lk];simp
   rw[bU,iZ,w1,aQ,da,tH,w3];rfl
 have ap:=cP (d:=.str s.1) hq (by simp;omega)
 have iL:=df hq;have NO:((ss.take i).map fun s=>s.1).map D.str++[.str s.1]=((ss.take (i + 1)).map fun s=>s.1).map .str:=by rw[ku];simp
 have b3:(dZ (bP eX bf (U 2) (aa yB aj))) [some (.ref k),some (.ref t),some (.ref q),some (.int i)] Ω=.nx [some (.ref k),some (.ref t),some (.ref q),some (.int i)] (Ω.set q (.lst (((ss.take (i + 1)).map fun s=>s.1).map .str))):=by
  rw[ff,dE (x:=.ref q) (aq:=Ω) (by simp) iL,d7,k0]
  rw[← NO];simp[ap]
 unfold NM;rw[ai,b1,aE,ai,b2,aE,ai,b3];rfl
theorem Ij{LC:bg}(hL:yn LC):AZ (bC 4 2 (D4 LC)):=by
 intro Ω k t js rs ss R hn hl hr ht hs;rw[bK (by rfl)]
 have e0:aS 4 [D.ref k,.ref t]=[some (.ref k),some (.ref t),none,none]:=rfl;rw[e0];have h2:=hr.two hn;have hlen:=de ht;rw[List.length_map]at hlen;have hi:bG .list (.ref t) Ω=.ok (.bl true) Ω:=oG (t:=.list) ht
 have b1:(b8 (fE (bW (m1 (bG .list) (U 1))) (m2 (au .Lt) (mN (aX .len) (aa (U 1) aj)) (ae (.int 2)))) (ah (aH (ae (.bl false))) ag) ag) [some (.ref k),some (.ref t),none,none] Ω=.nx [some (.ref k),some (.ref t),none,none] Ω:=by
  have q1:(m2 (au .Lt) (mN (aX .len) (aa (U 1) aj)) (ae (.int 2))) [some (.ref k),some (.ref t),none,none] Ω=.ok (.bl false) Ω:=by
   simp[hlen];omega
  have q0:(bW (m1 (bG .list) (U 1))) [some (.ref k),some (.ref t),none,none] Ω=.ok (.bl false) Ω:=by simp[hi]
  rw[bU,lD,q0,aQ,da,pY,q1];rfl
 have b2:(ay 2 (mN bA aj)) [some (.ref k),some (.ref t),none,none] Ω=.nx [some (.ref k),some (.ref t),some (.ref Ω.length),none] (Ω++[Cell.lst []]):=by simp[aW]
 have K2:ao [] Ω (Ω++[Cell.lst []]):=ao.app;have g2:(Ω++[Cell.lst []])[Ω.length]?=some (.lst (((ss.take 0).map fun s=>s.1).map .str)):=az
 have lk:=dj R.ce;have lj:=R.al.lt;have lt:=dj ht;generalize hQ:Ω.length=q at *;generalize Ω++[Cell.lst []]=ak at *;have ht1:=K2.get _ _ ht (by simp)
 have BW:=de ht1;rw[List.length_map]at BW;have hin:hU (ss.length:Int)=true:=dQ (by omega) (by omega)
 have fJ:(bt (aa (mN (aX .len) (aa (U 1) aj)) aj)) [some (.ref k),some (.ref t),some (.ref q),none] ak=.ok (.ints 0 ss.length) ak:=by simp[BW,hin]
 unfold D4;rw[ai,b1,aE,ai,b2,aE,ai,dc,fJ,eh];refine cw (R:=fun r=>∃ aq,eS (sq r _)=.ok (.bl true) aq/\ao [] Ω aq) (ds:=intsFrom 0 ss.length) (fun i ρ aM=>∃ a3,ρ=[some (.ref k),some (.ref t),some (.ref q),a3]/\ao [q] ak aM/\aM[q]?=some (.lst (((ss.take i).map fun s=>s.1).map .str))) (fun _ _ _ _=>rfl) ?_ ?_ fuel 0 _ _ (by rw[b7];unfold fuel;omega) (Nat.zero_le _) ⟨none,rfl,ao.refl,g2⟩
 ·rintro i d ρ aM hd ⟨a3,rfl,K3,g3⟩
  obtain⟨rfl,hlt⟩:=dR hd;rw[show(0:Int) + (i:Int)=(i:Int) by omega]
  refine⟨[some (.ref k),some (.ref t),some (.ref q),some (.int i)],rfl,?_⟩;have K:=K2.trans (fp:=[]) ao.refl;have R3:Rw aM k js rs:=(R.keep K2).mV K3 (by simp;omega) (fun j hj h=>by have:=lj j hj;simp at h;omega)
  have Lk:=K3.get _ _ ht1 (by simp;omega)
  rw[D5 hL R3 hn hl hr Lk (List.getElem?_eq_getElem hlt) hs g3];refine⟨_,rfl,K3.trans (ao.set (by simp)),?_⟩
  rw[cE g3]
 ·rintro ρ aM ⟨a3,rfl,K3,g3⟩
  have Lk:=K3.get _ _ ht1 (by simp;omega)
  obtain⟨l,s0,r,e,z0,zr⟩:=hr.ends;have w1:aA (.ref t) (.int (-1)) aM=.ok (aO r) aM:=bq Lk (by rw[e,List.map_append];exact L2.vG _ _)
  have w2:aA (.ref t) (.int 0) aM=.ok (aO s0) aM:=rQ (i:=0) Lk z0;have hng:ro (.int 1) aM=.ok (.int (-1)) aM:=rfl;refine⟨aM,?_,ao.new K2 K3 (by simp;omega)⟩
  have v1:(m2 aA (m2 aA (U 1) (m1 ro (ae (.int 1)))) (ae (.int 1))) [some (.ref k),some (.ref t),some (.ref q),a3] aM=.ok (.str r.2.1) aM:=by simp[hng,w1,Ii]
  have v2:(m2 aA (m2 aA (U 1) (ae (.int 0))) (ae (.int 0))) [some (.ref k),some (.ref t),some (.ref q),a3] aM=.ok (.str s0.1) aM:=by simp[w2,Ih]
  have v3:(m2 (au .Eq) (m2 aA (m2 aA (U 1) (m1 ro (ae (.int 1)))) (ae (.int 1))) (m2 aA (m2 aA (U 1) (ae (.int 0))) (ae (.int 0)))) [some (.ref k),some (.ref t),some (.ref q),a3] aM=.ok (.bl true) aM:=by
   rw[dm,v1,aQ,v2,aQ,zr];simp
  rw[aE,ai,cU,v3];rfl
end
section
variable{Ω aq:aF}{ρ:aU}{k:Nat}{js:List Nat}{rs:List (List Str)}{row:List Str}{μ:Int->Int->Int->Int}{F:List D->Out Rs}
def Ll(a b:Str)(r:List Str):Prop:=∃ u t,r=u++a::t/\b∈t
end
section
variable{Ω aq:aF}{ρ:aU}{k:Nat}{js:List Nat}{rs:List (List Str)}{row:List Str}{μ:Int->Int->Int->Int}{κ:List Int->Nat->Int}{F C:List D->Out Rs}
end
theorem qr:∀ {o:List Str} {a b:Str},[a,b].Sublist o->o.Nodup->o.idxOf a < o.idxOf b
 | [],a,b,h,_=>by simp at h
 | x::o,a,b,h,hn=>by
  obtain⟨h1,h2⟩:=List.nodup_cons.mp hn;rw[List.idxOf_cons,List.idxOf_cons];cases h with
  | cons _ h=>
   have ha:(x == a)=false:=by
    have:a∈o:=h.subset (by simp)
    simpa using fun q:x=a=>h1 (q▸this)
   have hb:(x == b)=false:=by
    have:b∈o:=h.subset (by simp)
    simpa using fun q:x=b=>h1 (q▸this)
   have:=qr h h2;rw[ha,hb];simp;exact this
  | cons_cons _ h=>
   have hb:(x == b)=false:=by
    have:b∈o:=h.subset (by simp)
    simpa using fun q:x=b=>h1 (q▸this)
   rw[hb];simp
theorem A0{o r:List Str}{a b:Str}(h:Ll a b r)(hs:r.Sublist o)(hn:o.Nodup):o.idxOf a < o.idxOf b:=by
 obtain⟨u,t,rfl,hb⟩:=h;refine qr (List.Sublist.trans ?_ hs) hn;have:[a,b].Sublist (a::t):=(List.singleton_sublist.mpr hb).cons_cons a;exact this.trans (List.sublist_append_right _ _)
def qu:D->Option D
 | .tup [.str C,.str f,d]=>if C="Ring"/\f="steps" then some d else none
 | _=>none
theorem kg{d:D}:qu (eY "Ring" "steps" d)=some d:=by simp[qu,eY]
theorem qv{x:D}{d:D}(h:qu x=some d):x=eY "Ring" "steps" d:=by
 unfold qu at h;split at h
 ·split at h
  ·rename_i hc
   obtain⟨rfl,rfl⟩:=hc;cases h;rfl
  ·cases h
 ·cases h
def yC(x:D)(Ω:aF):ax D:=match qu x with
 | some _=>.ok (.bl false) Ω
 | none=>.bad
theorem D6(x:D)(Ω:aF):(∃ d,x=eY "Ring" "steps" d)\/yC x Ω=.bad:=by
 cases h:qu x with
 | some d=>exact .inl ⟨d,qv h⟩
 | none=>exact .inr (by simp[yC,h])
def yD(MG:bg):SM:=ah (ay 2 (mN MG (aa (U 0) aj))) ag
def Ik(IM:bg):Prop:=∀ (Ω:aF) (k:Nat) (d:D) (js:List Nat) (rs:List (List Str)),Rw Ω k js rs->Sk rs->rs.length<=900->tot rs<=900->∃ aq,IM [.ref k,d] Ω=.ok (.bl false) aq/\ao [] Ω aq
theorem Il{MG:bg}(hM:AW MG){cr:SM}:Ik (jO 3 2 (yD MG) cr yC):=by
 intro Ω k d js rs R S h1 h2;obtain⟨ss,p,aq,e,g,hr,l,K⟩:=hM Ω k js rs R S h1 h2;refine⟨aq,?_,K⟩
 have:yD MG [some (.ref k),some d,none] Ω=.exc (eY "Ring" "steps" (.ref p)) aq:=by
  simp[yD,e]
 unfold jO;rw[if_pos (show [D.ref k,d].length=2 from rfl)]
 show(match yD MG [some (.ref k),some d,none] Ω with | .nx ρ ak=>eS (cr ρ ak) | .exc x ak=>vc (yC x ak) | _=>.bad)=_
 rw[this];simp[yC,kg,vc]
def jQ(e:EM):SM:=(b8 e (ah (aH (ae (.bl false))) ag) ag)
theorem ki{e:EM}{ρ:aU}{Ω aq:aF}(h:e ρ Ω=.ok (.bl false) aq):jQ e ρ Ω=.nx ρ aq:=by
 unfold jQ;rw[bU,h];rfl
theorem A1{Ω:aF}{k j:Nat}{js is:List Nat}{rs:List (List Str)}(R:Rw Ω k js rs)(R':Rw Ω j is rs):au .Eq (.ref k) (.ref j) Ω=.ok (.bl true) Ω:=by
 rw[fe,j9,gO (n:=6) (rs:=js) (L:=rs) R.ce R.al,gO (n:=6) (rs:=is) (L:=rs) R'.ce R'.al,gY]
 have e:ek .Eq (LL rs) (LL rs)=.ok true:=by
  rw[wY,BC 6,BD];simp
 rw[e];rfl
theorem BX{Ω:aF}{b:Bool}:au .IsNot (.bl b) (.bl b) Ω=.ok (.bl false) Ω:=by cases b<;>rfl
end Mir
namespace Mir
open PySem
noncomputable def yE(rs:List (List Str))(left:List Str):List Str:=(rs.map fun r=>(r.filter fun n=>decide (n∈left)).tail).flatten
def oN(rs:List (List Str))(left:List Str):List Str:=left.filter fun n=>decide (n∉yE rs left)
def BY(rs:List (List Str))(left:List Str):List Str:=left.filter fun n=>decide (n∉oN rs left)
inductive qw (rs:List (List Str)):List Str->Bool->Prop
 | done:qw rs [] true
 | stuck {left}:left≠[]->oN rs left=[]->qw rs left false
 | step {left b}:left≠[]->oN rs left≠[]->qw rs (BY rs left) b->qw rs left b
theorem tW{rs:List (List Str)}{left:List Str}{x:Str}:x∈yE rs left↔∃ r∈rs,x∈(r.filter fun n=>decide (n∈left)).tail:=by
 unfold yE;rw[List.mem_flatten];constructor
 ·rintro⟨l,h1,h2⟩
  obtain⟨r,h3,rfl⟩:=List.mem_map.mp h1;exact⟨r,h3,h2⟩
 ·rintro⟨r,h1,h2⟩
  exact⟨_,List.mem_map.mpr ⟨r,h1,rfl⟩,h2⟩
theorem oI{rs:List (List Str)}{left:List Str}{x:Str}:x∈oN rs left↔x∈left/\x∉yE rs left:=by
 unfold oN;rw[List.mem_filter,decide_eq_true_iff]
theorem A2{rs:List (List Str)}{left:List Str}{x:Str}:x∈BY rs left↔x∈left/\x∈yE rs left:=by
 unfold BY;rw[List.mem_filter,decide_eq_true_iff,oI];constructor
 ·rintro⟨h1,h2⟩
  refine⟨h1,?_⟩
  by_cases q:x∈yE rs left
  ·exact q
  ·exact absurd ⟨h1,q⟩ h2
 ·rintro⟨h1,h2⟩
  exact⟨h1,fun q=>q.2 h2⟩
theorem rR{rs:List (List Str)}{left:List Str}(h:oN rs left≠[]):(BY rs left).length < left.length:=by
 obtain⟨x,hx⟩:=List.exists_mem_of_ne_nil _ h;have h1:(BY rs left).length<=left.length:=List.length_filter_le _ _;rcases Nat.lt_or_eq_of_le h1 with q | q
 ·exact q
 ·have h2:=List.length_filter_eq_length_iff.mp q x (oI.mp hx).1
  rw[decide_eq_true_iff]at h2;exact absurd hx h2
theorem A3{rs:List (List Str)}{left:List Str}{a b:Str}{r:List Str}(hr:r∈rs)(h:Ll a b r)(ha:a∈left)(hb:b∈left):b∈yE rs left:=by
 obtain⟨u,t,rfl,hm⟩:=h;refine tW.mpr ⟨_,hr,?_⟩;rw[List.filter_append,List.filter_cons_of_pos (by simpa using ha)]
 have hb':b∈t.filter fun n=>decide (n∈left):=List.mem_filter.mpr ⟨hm,decide_eq_true hb⟩
 cases q:u.filter fun n=>decide (n∈left) with
 | nil=>exact hb'
 | cons y u'=>show b∈u'++_;exact List.mem_append_right _ (List.mem_cons_of_mem _ hb')
theorem A4{rs:List (List Str)}{left:List Str}{b:Str}(h:b∈yE rs left):∃ r∈rs,∃ a,Ll a b r/\a∈left:=by
 obtain⟨r,hr,hb⟩:=tW.mp h;refine⟨r,hr,?_⟩
 have key:∀ (r:List Str),b∈(r.filter fun n=>decide (n∈left)).tail->∃ a,Ll a b r/\a∈left:=by
  intro r
  induction r with
  | nil=>intro h;simp at h
  | cons y t ih=>
   intro h
   by_cases hy:y∈left
   ·rw[List.filter_cons_of_pos (by simpa using hy)]at h
    exact⟨y,⟨[],t,rfl,(List.mem_filter.mp h).1⟩,hy⟩
   ·rw[List.filter_cons_of_neg (by simpa using hy)]at h
    obtain⟨a,⟨u,t',rfl,h2⟩,h3⟩:=ih h;exact⟨a,⟨y::u,t',rfl,h2⟩,h3⟩
 exact key r hb
theorem yo(o:List Str):∀ (left:List Str),left≠[]->∃ x∈left,∀ y∈left,o.idxOf x<=o.idxOf y
 | [],h=>absurd rfl h
 | [x],_=>⟨x,by simp,fun y hy=>by rw[List.mem_singleton.mp hy];exact Nat.le_refl _⟩
 | x::y::t,_=>by
  obtain⟨z,h1,h2⟩:=yo o (y::t) (by simp)
  by_cases q:o.idxOf x<=o.idxOf z
  ·refine⟨x,by simp,fun w hw => ?_⟩
   rcases List.mem_cons.mp hw with rfl | hw
   ·exact Nat.le_refl _
   ·exact Nat.le_trans q (h2 w hw)
  ·refine⟨z,by simp[h1],fun w hw => ?_⟩
   rcases List.mem_cons.mp hw with rfl | hw
   ·omega
   ·exact h2 w hw
variable [aL]
theorem yp{rs:List (List Str)}{o:List Str}(hn:o.Nodup)(hs:∀ r∈rs,r.Sublist o):∀ (m:Nat) (left:List Str),left.length < m->qw rs left true:=by
 intro m
 induction m with
 | zero=>intro left h;omega
 | succ m ih=>
  intro left h
  by_cases e:left=[]
  ·rw[e];exact .done
  ·obtain⟨x,h1,h2⟩:=yo o left e
   have hf:oN rs left≠[]:=by
    intro q
    have:x∈oN rs left:=oI.mpr ⟨h1,fun hb=>by
     obtain⟨r,hr,a,h3,h4⟩:=A4 hb;have:=A0 h3 (hs r hr) hn;have:=h2 a h4;omega⟩
    rw[q]at this;simp at this
   exact .step e hf (ih _ (Nat.lt_of_lt_of_le (rR hf) (by omega)))
theorem u_{rs:List (List Str)}{ss:List ib}(R:dG rs ss):∀ (m:Nat) (left:List Str),left.length < m->(∀ s∈ss,s.1∈left)->qw rs left false:=by
 obtain⟨n,T,e1,e2,e3⟩:=R.ex
 have hfs:∀ x,(∃ s∈ss,s.2.1=x)->∃ s∈ss,s.1=x:=by
  rintro x ⟨s,hs,rfl⟩;have:s.2.1∈ss.map (·.2.1):=List.mem_map_of_mem hs;rw[e2]at this;have:s.2.1∈ss.map (·.1):=by rw[e1];simp at this ⊢;exact this.symm
  obtain⟨s',h1,h2⟩:=List.mem_map.mp this;exact⟨s',h1,h2⟩
 have Mo:∀ x,(∃ s∈ss,s.1=x)->∃ s∈ss,s.2.1=x:=by
  rintro x ⟨s,hs,rfl⟩;have:s.1∈ss.map (·.1):=List.mem_map_of_mem hs;rw[e1]at this;have:s.1∈ss.map (·.2.1):=by rw[e2];simp at this ⊢;exact this.symm
  obtain⟨s',h1,h2⟩:=List.mem_map.mp this;exact⟨s',h1,h2⟩
 have hex:∃ s,s∈ss:=by
  cases ss with
  | nil=>simp at e1
  | cons s _=>exact⟨s,by simp⟩
 intro m
 induction m with
 | zero=>intro left h;omega
 | succ m ih=>
  intro left h hl
  have e:left≠[]:=by
   obtain⟨s,hs⟩:=hex;intro q;have:=hl s hs;rw[q]at this;simp at this
  by_cases hf:oN rs left=[]
  ·exact .stuck e hf
  ·refine .step e hf (ih _ (Nat.lt_of_lt_of_le (rR hf) (by omega)) fun s hs=>A2.mpr ⟨hl s hs,?_⟩)
   obtain⟨s',h1,h2⟩:=Mo _ ⟨s,hs,rfl⟩;obtain⟨u,t,h3,h4⟩:=R.u4 s' h1;rw[← h2];exact A3 (List.mem_of_getElem? h3) ⟨u,t,rfl,h4⟩ (hl s' h1) (by rw[h2];exact hl s hs)
open L2
section
variable{Ω aq:aF}{ρ:aU}{k:Nat}{js:List Nat}{rs:List (List Str)}{row:List Str}
theorem D7{i di k j:Nat}{ws us:List Str}(hi:ρ[i]?=some (some (.ref k)))(hc:dh [di] ρ=[some (.ref j)])(hk:Ω[k]?=some (.lst (ws.map .str)))(hj:Ω[j]?=some (.lst (us.map .str)))(hl:ws.length<=1000) :
  bp (U 0) false (m2 (au .In) (U 0) (U 1)) (aZ (U i)) 0 [di] ρ Ω=.ok (.ref Ω.length) (Ω++[.lst ((ws.filter fun n=>decide (n∈us)).map .str)]):=by
 have h:=cH (Ω:=Ω) (aq:=Ω) (ρ:=ρ) (me:=U 0) (mc:=m2 (au .In) (U 0) (U 1)) (nc:=false) (mi:=aZ (U i)) (cap:=[di]) (src:=.seq (.ref k)) (ds:=ws.map .str) (p:=fun d=>match d with | .str n=>decide (n∈us) | _=>false) (g:=fun d=>d)
  (by simp[hi,bb (x:=.ref k) (by rw[aN,aD hk])]) (by rw[bV,aN,aD hk]) (fun d hd'=>by
   obtain⟨x,hx,rfl⟩:=List.mem_map.mp hd';have hn:=lF (w:=x) hj;unfold gK;rw[if_neg (by simp),hc,dm]
   have hv:U 0 ([some (.str x)]++[some (.ref j)]) Ω=.ok (.str x) Ω:=rfl;have hv1:U 1 ([some (.str x)]++[some (.ref j)]) Ω=.ok (.ref j) Ω:=rfl;rw[hv,aQ,hv1,aQ,hn];rfl) (fun d _ _=>rfl) (by simp;omega)
 rw[h,List.filter_map,List.map_map];rfl
theorem tX{i di k j:Nat}{ws us:List Str}(hi:ρ[i]?=some (some (.ref k)))(hc:dh [di] ρ=[some (.ref j)])(hk:Ω[k]?=some (.lst (ws.map .str)))(hj:Ω[j]?=some (.lst (us.map .str)))(hl:ws.length<=1000) :
  bp (U 0) false (m2 (au .NotIn) (U 0) (U 1)) (aZ (U i)) 0 [di] ρ Ω=.ok (.ref Ω.length) (Ω++[.lst ((ws.filter fun n=>decide (n∉us)).map .str)]):=by
 have h:=cH (Ω:=Ω) (aq:=Ω) (ρ:=ρ) (me:=U 0) (mc:=m2 (au .NotIn) (U 0) (U 1)) (nc:=false) (mi:=aZ (U i)) (cap:=[di]) (src:=.seq (.ref k)) (ds:=ws.map .str) (p:=fun d=>match d with | .str n=>decide (n∉us) | _=>false) (g:=fun d=>d)
  (by simp[hi,bb (x:=.ref k) (by rw[aN,aD hk])]) (by rw[bV,aN,aD hk]) (fun d hd'=>by
   obtain⟨x,hx,rfl⟩:=List.mem_map.mp hd';have hn:=gZ (w:=x) hj;unfold gK;rw[if_neg (by simp),hc,dm]
   have hv:U 0 ([some (.str x)]++[some (.ref j)]) Ω=.ok (.str x) Ω:=rfl;have hv1:U 1 ([some (.str x)]++[some (.ref j)]) Ω=.ok (.ref j) Ω:=rfl;rw[hv,aQ,hv1,aQ,hn]
   show dJ (.ok (.bl (!decide (x∈us))) Ω)=.ok (decide (x∉us)) Ω
   rw[decide_not];rfl) (fun d _ _=>rfl) (by simp;omega)
 rw[h,List.filter_map,List.map_map];rfl
theorem i8{n:Nat}:∀ (L:List (List Str)),(∀ l∈L,l.length<=n)->L.flatten.length<=n * L.length
 | [],_=>by simp
 | l::L,h=>by
  have h1:=h l (by simp)
  have h2:=i8 L fun l hl=>h l (by simp[hl])
  simp only[List.flatten_cons,List.length_append,List.length_cons];rw[Nat.mul_add];omega
def NP:EM:=b_ (bp (U 0) false (m2 (au .In) (U 0) (U 1)) (aZ (U 3)) 0 [1]) false (ae (.int 1)) true (ae .non)
def hoI:SM:=(ah (ay 2 (m2 (aJ .Add) (U 2) NP)) ag)
def hoL:SM:=(cD (bu 3) (aZ (U 0)) hoI)
def rS:SM:=(ah (ay 2 (mN bA aj))
 (ah hoL
 (ah (ay 4 (bp (U 0) false (m2 (au .NotIn) (U 0) (U 1)) (aZ (U 1)) 0 [2]))
 (ah (b8 (m2 (au .Eq) (U 4) (mN bA aj))
 (ah (aH (ae (.bl false)))
 ag)
 ag)
 (ah (ay 1 (bp (U 0) false (m2 (au .NotIn) (U 0) (U 1)) (aZ (U 1)) 0 [4]))
 ag)))))
def hoC:EM:=(m2 (au .NotEq) (U 1) (mN bA aj))
def D8(A:bg):SM:=
 (ah (ay 1 (mN (aP A) (aa (U 0) aj)))
 (ah (lq hoC rS)
 (ah (aH (ae (.bl true)))
 ag)))
noncomputable def tY(left r:List Str):List Str:=(r.filter fun n=>decide (n∈left)).tail
theorem D9{l b j:Nat}{left bh:List Str}{a4:Option D}(hl:Ω[l]?=some (.lst (left.map .str)))(hb:Ω[b]?=some (.lst (bh.map .str)))(hj:Ω[j]?=some (.lst (row.map .str)))(hr:row.length<=24)(GL:bh.length<=900) :
  ∃ b' aq,hoI [some (.ref k),some (.ref l),some (.ref b),some (.ref j),a4] Ω=.nx [some (.ref k),some (.ref l),some (.ref b'),some (.ref j),a4] aq/\aq[b']?=some (.lst ((bh++tY left row).map .str))/\ao [] Ω aq:=by
 have e1:=D7 (ρ:=[some (.ref k),some (.ref l),some (.ref b),some (.ref j),a4]) (i:=3) (di:=1) rfl rfl hj hl (by omega)
 have K1:ao [] Ω (Ω++[.lst ((row.filter fun n=>decide (n∈left)).map .str)]):=ao.app
 have g1:(Ω++[Cell.lst ((row.filter fun n=>decide (n∈left)).map .str)])[Ω.length]?=some (.lst ((row.filter fun n=>decide (n∈left)).map .str)):=az
 have hb1:=K1.get _ _ hb (by simp)
 generalize Ω++[Cell.lst ((row.filter fun n=>decide (n∈left)).map .str)]=ak at *
 have e2:=lH g1;have K2:ao [] ak (ak++[.lst ((tY left row).map .str)]):=ao.app;have g2:(ak++[Cell.lst ((tY left row).map .str)])[ak.length]?=some (.lst ((tY left row).map .str)):=az;have hb2:=K2.get _ _ hb1 (by simp)
 have e2':gH (.ref Ω.length) (some 1) none ak=.ok (.ref ak.length) (ak++[.lst ((tY left row).map .str)]):=e2;generalize ak++[Cell.lst ((tY left row).map .str)]=av at *
 have hle:(tY left row).length<=24:=by
  unfold tY;rw[List.length_tail];have:=List.length_filter_le (fun n=>decide (n∈left)) row
  omega
 have e3:=gS hb2 g2 (by simp;omega)
 have K3:ao [] av (av++[.lst (bh.map .str++(tY left row).map .str)]):=ao.app;refine⟨av.length,av++[.lst (bh.map .str++(tY left row).map .str)],?_,by rw[List.map_append];exact az,(K1.trans K2).trans K3⟩
 have ef:NP [some (.ref k),some (.ref l),some (.ref b),some (.ref j),a4] Ω=.ok (.ref ak.length) av:=by
  unfold NP;rw[lG,e1];simp only[aQ,ou,oq,tG,ow];exact e2'
 unfold hoI;rw[ai,bD,dm,fc];simp only[List.getElem?_cons_zero,List.getElem?_cons_succ,fV,aQ,ef,e3];rfl
theorem D_{l b:Nat}{left:List Str}{a3 a4:Option D}(R:Rw Ω k js rs)(hl:Ω[l]?=some (.lst (left.map .str)))(hb:Ω[b]?=some (.lst (([]:List Str).map .str)))(hr:rs.length<=12)(hw:∀ r∈rs,r.length<=24) :
  ∃ b' fK aq,hoL [some (.ref k),some (.ref l),some (.ref b),a3,a4] Ω=.nx [some (.ref k),some (.ref l),some (.ref b'),fK,a4] aq/\aq[b']?=some (.lst ((yE rs left).map .str))/\ao [] Ω aq:=by
 have fJ:aZ (U 0) [some (.ref k),some (.ref l),some (.ref b),a3,a4] Ω=.ok (.seq (.ref k)) Ω:=by
  rw[cm];exact bb (by rw[aN,aD R.ce])
 unfold hoL;rw[dc,fJ,eh]
 refine cw (R:=fun r=>∃ b' fK aq,r=.nx [some (.ref k),some (.ref l),some (.ref b'),fK,a4] aq/\aq[b']?=some (.lst ((yE rs left).map .str))/\ao [] Ω aq) (ds:=js.map .ref)
  (fun i ρ av=>∃ b' fK,ρ=[some (.ref k),some (.ref l),some (.ref b'),fK,a4]/\av[b']?=some (.lst ((((rs.take i).map (tY left)).flatten).map .str))/\ao [] Ω av) ?_ ?_ ?_ fuel 0 _ _ (by unfold fuel;have:=R.len;simp;omega) (Nat.zero_le _) ⟨b,a3,rfl,by simpa using hb,ao.refl⟩
 ·rintro i ρ av ⟨_,_,_,_,K⟩
  rw[bV,aN,aD (K.get _ _ R.ce (by simp))]
 ·rintro i d ρ av hd ⟨b',fK,rfl,h1,K⟩
  obtain⟨j,hj,rfl⟩:=gP hd;obtain⟨row,h2,h3⟩:=R.al.at' hj;have hm:=List.mem_of_getElem? h2;have hil:i < rs.length:=(List.getElem?_eq_some_iff.mp h2).1
  have hfl:(((rs.take i).map (tY left)).flatten).length<=24 * ((rs.take i).map (tY left)).length:=i8 _ fun x hx=>by
   obtain⟨r,hr1,rfl⟩:=List.mem_map.mp hx;have h4:=hw r (List.mem_of_mem_take hr1);unfold tY;rw[List.length_tail];have:=List.length_filter_le (fun n=>decide (n∈left)) r
   omega
  rw[List.length_map,List.length_take]at hfl;obtain⟨b2,aM,e,g,K2⟩:=D9 (k:=k) (a4:=a4) (K.get _ _ hl (by simp)) h1 (K.get _ _ h3 (by simp)) (hw row hm) (by omega)
  refine⟨[some (.ref k),some (.ref l),some (.ref b'),some (.ref j),a4],rfl,?_⟩;rw[e];refine⟨b2,_,rfl,?_,K.trans K2⟩;have ht:rs.take (i + 1)=rs.take i++[row]:=by rw[List.take_succ,h2];rfl
  rw[g,ht];simp
 ·rintro ρ av ⟨b',fK,rfl,h1,K⟩
  refine⟨b',fK,av,rfl,?_,K⟩;rw[h1];have:(js.map D.ref).length=rs.length:=by rw[List.length_map,R.len]
  rw[this,List.take_length];rfl
theorem yq{l:Nat}{left:List Str}{a2 a3 a4:Option D}(R:Rw Ω k js rs)(hl:Ω[l]?=some (.lst (left.map .str)))(hr:rs.length<=12)(hw:∀ r∈rs,r.length<=24)(hll:left.length<=300) :
  ∃ aq,ao [] Ω aq/\((oN rs left=[]/\rS [some (.ref k),some (.ref l),a2,a3,a4] Ω=.rt (.bl false) aq)\/(oN rs left≠[]/\∃ l' Ts fK NQ,rS [some (.ref k),some (.ref l),a2,a3,a4] Ω=.nx [some (.ref k),some (.ref l'),Ts,fK,NQ] aq/\aq[l']?=some (.lst ((BY rs left).map .str)))):=by
 have K1:ao [] Ω (Ω++[Cell.lst []]):=ao.app;have g1:(Ω++[Cell.lst []])[Ω.length]?=some (.lst (([]:List Str).map .str)):=az;have r1:(ay 2 (mN bA aj)) [some (.ref k),some (.ref l),a2,a3,a4] Ω=.nx [some (.ref k),some (.ref l),some (.ref Ω.length),a3,a4] (Ω++[Cell.lst []]):=by simp[aW]
 obtain⟨b,fK,av,e2,g2,K2⟩:=D_ (a3:=a3) (a4:=a4) (R.keep K1) (K1.get _ _ hl (by simp)) g1 hr hw
 have AO:=K1.trans K2;have e3:=tX (ρ:=[some (.ref k),some (.ref l),some (.ref b),fK,a4]) (i:=1) (di:=2) rfl rfl (AO.get _ _ hl (by simp)) g2 (by omega)
 have K3:ao [] av (av++[.lst ((oN rs left).map .str)]):=ao.app;have g3:(av++[Cell.lst ((oN rs left).map .str)])[av.length]?=some (.lst ((oN rs left).map .str)):=az;have e3':bp (U 0) false (m2 (au .NotIn) (U 0) (U 1)) (aZ (U 1)) 0 [2] [some (.ref k),some (.ref l),some (.ref b),fK,a4] av=.ok (.ref av.length) (av++[.lst ((oN rs left).map .str)]):=e3;have ql:=AO.get _ _ hl (by simp)
 have l3:=K3.get _ _ ql (by simp)
 generalize Tt:av++[Cell.lst ((oN rs left).map .str)]=aM at *;have r3:(ay 4 (bp (U 0) false (m2 (au .NotIn) (U 0) (U 1)) (aZ (U 1)) 0 [2])) [some (.ref k),some (.ref l),some (.ref b),fK,a4] av=.nx [some (.ref k),some (.ref l),some (.ref b),fK,some (.ref av.length)] aM:=by rw[bD,e3'];rfl
 have K4:ao [] aM (aM++[Cell.lst []]):=ao.app;have g4:(aM++[Cell.lst []])[aM.length]?=some (.lst (([]:List Str).map .str)):=az;have f4:=K4.get _ _ g3 (by simp)
 have l4:=K4.get _ _ l3 (by simp)
 have eq4:=kc f4 g4
 have m4:m2 (au .Eq) (U 4) (mN bA aj) [some (.ref k),some (.ref l),some (.ref b),fK,some (.ref av.length)] aM=.ok (.bl (decide (oN rs left=[]))) (aM++[Cell.lst []]):=by
  simp[aW,eq4,-fe]
 generalize aM++[Cell.lst []]=cX at *
 by_cases hf:oN rs left=[]
 ·refine⟨cX,(AO.trans K3).trans K4,.inl ⟨hf,?_⟩⟩
  rw[decide_eq_true hf]at m4
  have r4:(b8 (m2 (au .Eq) (U 4) (mN bA aj)) (ah (aH (ae (.bl false))) ag) ag) [some (.ref k),some (.ref l),some (.ref b),fK,some (.ref av.length)] aM=.rt (.bl false) cX:=by
   rw[bU,m4];rfl
  unfold rS;rw[ai,r1,aE,ai,e2,aE,ai,r3,aE,ai,r4];rfl
 ·have e5:=tX (ρ:=[some (.ref k),some (.ref l),some (.ref b),fK,some (.ref av.length)]) (i:=1) (di:=4) rfl rfl l4 f4 (by omega)
  have e5':bp (U 0) false (m2 (au .NotIn) (U 0) (U 1)) (aZ (U 1)) 0 [4] [some (.ref k),some (.ref l),some (.ref b),fK,some (.ref av.length)] cX=.ok (.ref cX.length) (cX++[.lst ((BY rs left).map .str)]):=e5;refine⟨cX++[.lst ((BY rs left).map .str)],((AO.trans K3).trans K4).trans ao.app,.inr ⟨hf,cX.length,some (.ref b),fK,some (.ref av.length),?_,az⟩⟩;rw[decide_eq_false hf]at m4
  have r4:(b8 (m2 (au .Eq) (U 4) (mN bA aj)) (ah (aH (ae (.bl false))) ag) ag) [some (.ref k),some (.ref l),some (.ref b),fK,some (.ref av.length)] aM=.nx [some (.ref k),some (.ref l),some (.ref b),fK,some (.ref av.length)] cX:=by
   rw[bU,m4];rfl
  unfold rS;rw[ai,r1,aE,ai,e2,aE,ai,r3,aE,ai,r4,aE,ai,bD,e5'];rfl
theorem Ec{left:List Str}{v:Bool}(h:qw rs left v):∀ (Ω:aF) (l:Nat) (a2 a3 a4:Option D) (m:Nat),Rw Ω k js rs->Ω[l]?=some (.lst (left.map .str))->rs.length<=12->(∀ r∈rs,r.length<=24)->left.length<=300->left.length < m ->
  ∃ aq,ao [] Ω aq/\((v=true/\∃ bB,cS hoC rS m [some (.ref k),some (.ref l),a2,a3,a4] Ω=.nx bB aq)\/(v=false/\cS hoC rS m [some (.ref k),some (.ref l),a2,a3,a4] Ω=.rt (.bl false) aq)):=by
 have cond:∀ (Ω:aF) (l:Nat) (left:List Str) (a2 a3 a4:Option D),Ω[l]?=some (.lst (left.map .str))->hoC [some (.ref k),some (.ref l),a2,a3,a4] Ω=.ok (.bl (!decide (left=[]))) (Ω++[Cell.lst []]):=by
  intro Ω l left a2 a3 a4 hl;have g4:(Ω++[Cell.lst []])[Ω.length]?=some (.lst (([]:List Str).map .str)):=az;have:=kd (kb (l:=[Cell.lst []]) hl) g4;unfold hoC;simp[aW,this,-dS]
 induction h with
 | done=>
  intro Ω l a2 a3 a4 m R hl _ _ _ hm;obtain⟨m,rfl⟩:∃ q,m=q + 1:=⟨m - 1,by omega⟩
  refine⟨Ω++[Cell.lst []],ao.app,.inl ⟨rfl,[some (.ref k),some (.ref l),a2,a3,a4],?_⟩⟩;have e:=cond Ω l [] a2 a3 a4 hl;simp only[cS,e];rfl
 | @stuck left hne hf=>
  intro Ω l a2 a3 a4 m R hl hr hw hll hm;obtain⟨m,rfl⟩:∃ q,m=q + 1:=⟨m - 1,by omega⟩
  have e:=cond Ω l left a2 a3 a4 hl;rw[decide_eq_false hne]at e;have K0:ao [] Ω (Ω++[Cell.lst []]):=ao.app;obtain⟨aq,K,h1⟩:=yq (a2:=a2) (a3:=a3) (a4:=a4) (R.keep K0) (K0.get _ _ hl (by simp)) hr hw hll
  refine⟨aq,K0.trans K,.inr ⟨rfl,?_⟩⟩;rcases h1 with ⟨_,h1⟩ | ⟨h2,_⟩
  ·simp only[cS,e]
   show(match rS [some (.ref k),some (.ref l),a2,a3,a4] (Ω++[Cell.lst []]) with | .nx bB aq=>cS hoC rS m bB aq | .ct bB aq=>cS hoC rS m bB aq | .bk bB aq=>.nx bB aq | r=>r)=_
   rw[h1]
  ·exact absurd hf h2
 | @step left v hne hf _ ih=>
  intro Ω l a2 a3 a4 m R hl hr hw hll hm;obtain⟨m,rfl⟩:∃ q,m=q + 1:=⟨m - 1,by omega⟩
  have e:=cond Ω l left a2 a3 a4 hl;rw[decide_eq_false hne]at e;have K0:ao [] Ω (Ω++[Cell.lst []]):=ao.app;obtain⟨aq,K,h1⟩:=yq (a2:=a2) (a3:=a3) (a4:=a4) (R.keep K0) (K0.get _ _ hl (by simp)) hr hw hll
  rcases h1 with ⟨h2,_⟩ | ⟨_,l',b2,b3,b4,h1,g1⟩
  ·exact absurd h2 hf
  ·have hlt:=rR hf
   obtain⟨av,K2,h2⟩:=ih aq l' b2 b3 b4 m ((R.keep K0).keep K) g1 hr hw (by omega) (by omega)
   refine⟨av,(K0.trans K).trans K2,?_⟩
   have ew:cS hoC rS (m + 1) [some (.ref k),some (.ref l),a2,a3,a4] Ω=cS hoC rS m [some (.ref k),some (.ref l'),b2,b3,b4] aq:=by
    simp only[cS,e]
    show(match rS [some (.ref k),some (.ref l),a2,a3,a4] (Ω++[Cell.lst []]) with | .nx bB aq=>cS hoC rS m bB aq | .ct bB aq=>cS hoC rS m bB aq | .bk bB aq=>.nx bB aq | r=>r)=_
    rw[h1]
   rw[ew];exact h2
end
def Im(F:bg):Prop:=∀ (Ω:aF) (k:Nat) (js:List Nat) (rs:List (List Str)) (v:Bool),Rw Ω k js rs->rs.length<=12->(∀ r∈rs,r.length<=24)->(∀ us:List Str,(∀ x,x∈us↔∃ r∈rs,x∈r)->qw rs us v)->∃ aq,F [.ref k] Ω=.ok (.bl v) aq/\ao [] Ω aq
theorem Io{A:bg}(hA:yg A):Im (bC 5 1 (D8 A)):=by
 intro Ω k js rs v R hr hw h;obtain⟨us,q,ak,hn,hm,e1,g1,K1⟩:=hA Ω k js rs R hr hw
 have Fp:us.length<=24 * rs.length:=Nat.le_trans (gR us rs.flatten hn fun x hx=>by
  obtain⟨r,h1,h2⟩:=(hm x).mp hx;exact List.mem_flatten.mpr ⟨r,h1,h2⟩) (i8 rs hw)
 rw[bK (by rfl)]
 have e0:aS 5 [D.ref k]=[some (.ref k),none,none,none,none]:=rfl;rw[e0];obtain⟨av,K2,h2⟩:=Ec (h us hm) ak q none none none fuel (R.keep K1) g1 hr hw (by omega) (by unfold fuel;omega)
 have r1:(ay 1 (mN (aP A) (aa (U 0) aj))) [some (.ref k),none,none,none,none] Ω=.nx [some (.ref k),some (.ref q),none,none,none] ak:=by simp[e1]
 refine⟨av,?_,K1.trans K2⟩;unfold D8;rw[ai,r1,aE,ai];unfold lq;rcases h2 with ⟨rfl,bB,h2⟩ | ⟨rfl,h2⟩
 ·rw[h2]
  rfl
 ·rw[h2]
  rfl
section
variable{Ω aq:aF}{ρ:aU}{k:Nat}{js:List Nat}{rs:List (List Str)}{row:List Str}
def NR:EM:=b_ (U 1) false (ae (.int 1)) true (ae .non)
def gnI:SM:=(ah (ay 5 (m2 (aJ .Add) (U 5) NR)) ag)
def gnL:SM:=(cD (bu 1) (aZ (U 2)) gnI)
def Ip:EM:=(cR (m2 (au .NotEq) (U 0) (mN bA aj)) (m2 (au .NotIn) (m2 aA (U 0) (ae (.int 0))) (U 1)))
def Lm:EM:=bp (m2 aA (U 0) (ae (.int 0))) false Ip (aZ (U 2)) 0 [5]
def gnN:EM:=bp (U 0) false (m2 (au .NotEq) (U 0) (m2 aA (U 1) (ae (.int 0)))) (aZ (U 0)) 0 [1]
def Iq:SM:=(ah (ay 5 (mN bA aj))
 (ah gnL
 (ah (ay 6 Lm)
 (ah (b8 (m2 (au .NotEq) (U 6) (mN bA aj))
 (ah (dZ (bP eX bf (U 3) (aa (m2 aA (U 6) (ae (.int 0))) aj)))
 (ah (ay 2 (bp gnN true (ae .non) (aZ (U 2)) 0 [6]))
 ag))
 ag)
 ag))))
def Ed:SM:=
 (ah (ay 2 (jF 0))
 (ah (ay 3 (mN bA aj))
 (ah (cD (bu 4) (bt (aa (ae (.int 24)) aj)) Iq)
 (ah (aH (U 3))
 ag))))
theorem Ef{l b j:Nat}{bh:List Str}{a0 a2 a3 a6:Option D}(hb:Ω[b]?=some (.lst (bh.map .str)))(hj:Ω[j]?=some (.lst (row.map .str)))(hr:row.length<=24)(GL:bh.length<=900) :
  ∃ b' aq,gnI [a0,some (.ref j),some (.ref l),a2,a3,some (.ref b),a6] Ω=.nx [a0,some (.ref j),some (.ref l),a2,a3,some (.ref b'),a6] aq/\aq[b']?=some (.lst ((bh++row.tail).map .str))/\ao [] Ω aq:=by
 have e2:=lH hj;have K2:ao [] Ω (Ω++[.lst (row.tail.map .str)]):=ao.app;have g2:(Ω++[Cell.lst (row.tail.map .str)])[Ω.length]?=some (.lst (row.tail.map .str)):=az;have hb2:=K2.get _ _ hb (by simp)
 generalize Ω++[Cell.lst (row.tail.map .str)]=av at *;have e3:=gS hb2 g2 (by simp;omega)
 have K3:ao [] av (av++[.lst (bh.map .str++row.tail.map .str)]):=ao.app;refine⟨av.length,av++[.lst (bh.map .str++row.tail.map .str)],?_,by rw[List.map_append];exact az,K2.trans K3⟩
 have ef:NR [a0,some (.ref j),some (.ref l),a2,a3,some (.ref b),a6] Ω=.ok (.ref Ω.length) av:=by
  unfold NR;rw[lG];simp only[fc,List.getElem?_cons_zero,List.getElem?_cons_succ,fV,aQ,ou,oq,tG,ow];exact e2
 unfold gnI;rw[ai,bD,dm,fc];simp only[List.getElem?_cons_zero,List.getElem?_cons_succ,fV,aQ,ef,e3];rfl
theorem Eg{l b:Nat}{a0 a2 a3 a5 a6:Option D}(R:Rw Ω l js rs)(hb:Ω[b]?=some (.lst (([]:List Str).map .str)))(hr:rs.length<=12)(hw:∀ r∈rs,r.length<=24) :
  ∃ b' i7 aq bh,gnL [a0,a5,some (.ref l),a2,a3,some (.ref b),a6] Ω=.nx [a0,i7,some (.ref l),a2,a3,some (.ref b'),a6] aq/\aq[b']?=some (.lst ((bh:List Str).map .str))/\ao [] Ω aq:=by
 have fJ:aZ (U 2) [a0,a5,some (.ref l),a2,a3,some (.ref b),a6] Ω=.ok (.seq (.ref l)) Ω:=by
  rw[cm];exact bb (by rw[aN,aD R.ce])
 unfold gnL;rw[dc,fJ,eh]
 refine cw (R:=fun r=>∃ b' i7 aq bh,r=.nx [a0,i7,some (.ref l),a2,a3,some (.ref b'),a6] aq/\aq[b']?=some (.lst ((bh:List Str).map .str))/\ao [] Ω aq) (ds:=js.map .ref)
  (fun i ρ av=>∃ b' i7 bh,ρ=[a0,i7,some (.ref l),a2,a3,some (.ref b'),a6]/\av[b']?=some (.lst ((bh:List Str).map .str))/\bh.length<=24 * i/\ao [] Ω av) ?_ ?_ ?_ fuel 0 _ _ (by unfold fuel;have:=R.len;simp;omega) (Nat.zero_le _) ⟨b,a5,[],rfl,hb,by simp,ao.refl⟩
 ·rintro i ρ av ⟨_,_,_,_,_,_,K⟩
  rw[bV,aN,aD (K.get _ _ R.ce (by simp))]
 ·rintro i d ρ av hd ⟨b',i7,bh,rfl,h1,GL,K⟩
  obtain⟨j,hj,rfl⟩:=gP hd;obtain⟨row,h2,h3⟩:=R.al.at' hj;have hm:=List.mem_of_getElem? h2;have hil:i < rs.length:=(List.getElem?_eq_some_iff.mp h2).1;have hrl:=hw row hm;obtain⟨b2,aM,e,g,K2⟩:=Ef (l:=l) (a0:=a0) (a2:=a2) (a3:=a3) (a6:=a6) h1 (K.get _ _ h3 (by simp)) hrl (by omega)
  refine⟨[a0,some (.ref j),some (.ref l),a2,a3,some (.ref b'),a6],rfl,?_⟩;rw[e];refine⟨b2,_,bh++row.tail,rfl,g,?_,K.trans K2⟩;rw[List.length_append,List.length_tail];omega
 ·rintro ρ av ⟨b',i7,bh,rfl,h1,_,K⟩
  exact⟨b',i7,av,bh,rfl,h1,K⟩
noncomputable def Ir(Ω:aF):D->Str
 | .ref j=>match Ω[j]? with | some (.lst (.str x::_))=>x | _=>""
 | _=>""
noncomputable def BZ(Ω:aF)(bh:List Str):D->Bool
 | .ref j=>match Ω[j]? with | some (.lst (.str x::_))=>decide (x∉bh) | _=>false
 | _=>false
theorem Eh{l b:Nat}{bh:List Str}{a0 a2 a3 a5 a6:Option D}(R:Rw Ω l js rs)(hb:Ω[b]?=some (.lst (bh.map .str)))(hr:rs.length<=12) :
  ∃ (fs:List Str) (aq:aF),Lm [a0,a5,some (.ref l),a2,a3,some (.ref b),a6] Ω=.ok (.ref aq.length) (aq++[.lst (fs.map .str)])/\ao [] Ω aq:=by
 have fJ:aZ (U 2) [a0,a5,some (.ref l),a2,a3,some (.ref b),a6] Ω=.ok (.seq (.ref l)) Ω:=by
  rw[cm];exact bb (by rw[aN,aD R.ce])
 have hlen:=R.len
 obtain⟨av,e,K⟩:=AD (Ω:=Ω) (aq:=Ω) (ρ:=[a0,a5,some (.ref l),a2,a3,some (.ref b),a6]) (me:=m2 aA (U 0) (ae (.int 0))) (mc:=Ip) (nc:=false) (mi:=aZ (U 2)) (cap:=[5]) (src:=.seq (.ref l)) (ds:=js.map .ref) (p:=BZ Ω bh) (g:=fun d=>.str (Ir Ω d))
  (fun i av=>ao [] Ω av) fJ (fun i av K=>by rw[bV,aN,aD (K.get _ _ R.ce (by simp))]) (fun i d ak hd K=>by
   obtain⟨j,hj,rfl⟩:=gP hd;obtain⟨row,h2,h3⟩:=R.al.at' hj;have h3':=K.get _ _ h3 (by simp)
   have hb':=K.get _ _ hb (by simp)
   have K1:ao [] ak (ak++[Cell.lst []]):=ao.app;have g4:(ak++[Cell.lst []])[ak.length]?=some (.lst (([]:List Str).map .str)):=az;have hne:=kd (K1.get _ _ h3' (by simp)) g4
   have h4:=K1.get _ _ h3' (by simp)
   have hb4:=K1.get _ _ hb' (by simp)
   have m1:m2 (au .NotEq) (U 0) (mN bA aj) [some (.ref j),some (.ref b)] ak=.ok (.bl (!decide (row=[]))) (ak++[Cell.lst []]):=by
    simp[aW,hne,-dS]
   generalize ak++[Cell.lst []]=aM at *
   have ec:Ip [some (.ref j),some (.ref b)] ak=.ok (.bl (BZ Ω bh (.ref j))) aM:=by
    unfold Ip;rw[iZ,m1,aQ];cases row with
    | nil=>
     have:BZ Ω bh (.ref j)=false:=by simp[BZ,h3]
     rw[this];rfl
    | cons x t=>
     have hx:aA (.ref j) (.int 0) aM=.ok (.str x) aM:=bq h4 (L2.a_ (j:=0) rfl);have hn:=gZ (w:=x) hb4;have:BZ Ω bh (.ref j) = !decide (x∈bh):=by simp[BZ,h3]
     rw[this]
     have e5:m2 (au .NotIn) (m2 aA (U 0) (ae (.int 0))) (U 1) [some (.ref j),some (.ref b)] aM=.ok (.bl (!decide (x∈bh))) aM:=by
      simp[hx,hn,-dO]
     rw[e5];rfl
   refine⟨aM,?_,K.trans K1,?_⟩
   ·unfold gK
    rw[if_neg (by simp)]
    show dJ (Ip [some (.ref j),some (.ref b)] ak)=_
    rw[ec];rfl
   ·intro hp
    cases row with
    | nil=>simp[BZ,h3]at hp
    | cons x t=>
     have hx:aA (.ref j) (.int 0) aM=.ok (.str x) aM:=bq h4 (L2.a_ (j:=0) rfl)
     show m2 aA (U 0) (ae (.int 0)) [some (.ref j),some (.ref b)] aM=.ok (.str (Ir Ω (.ref j))) aM
     have:Ir Ω (.ref j)=x:=by simp[Ir,h3]
     rw[this];simp[hx]) (by simp;omega) ao.refl
 refine⟨((js.map D.ref).filter (BZ Ω bh)).map (Ir Ω),av,?_,K⟩;unfold Lm;rw[e,List.map_map];rfl
theorem Ei{j f:Nat}{x:Str}{fs:List Str}(hj:Ω[j]?=some (.lst (row.map .str)))(hf:Ω[f]?=some (.lst ((x::fs).map .str)))(hr:row.length<=24) :
  gnN [some (.ref j),some (.ref f)] Ω=.ok (.ref Ω.length) (Ω++[.lst ((row.filter fun n=>decide (n≠x)).map .str)]):=by
 have hx:aA (.ref f) (.int 0) Ω=.ok (.str x) Ω:=bq hf (L2.a_ (j:=0) rfl)
 have h:=cH (Ω:=Ω) (aq:=Ω) (ρ:=[some (.ref j),some (.ref f)]) (me:=U 0) (mc:=m2 (au .NotEq) (U 0) (m2 aA (U 1) (ae (.int 0)))) (nc:=false) (mi:=aZ (U 0)) (cap:=[1]) (src:=.seq (.ref j)) (ds:=row.map .str) (p:=fun d=>match d with | .str n=>decide (n≠x) | _=>false) (g:=fun d=>d)
  (by rw[cm];exact bb (by rw[aN,aD hj])) (by rw[bV,aN,aD hj]) (fun d hd'=>by
   obtain⟨y,hy,rfl⟩:=List.mem_map.mp hd'
   have hn:au .NotEq (.str y) (.str x) Ω=.ok (.bl (decide (y≠x))) Ω:=by
    by_cases q:y=x<;>simp[q]
   unfold gK;rw[if_neg (by simp)]
   show dJ (m2 (au .NotEq) (U 0) (m2 aA (U 1) (ae (.int 0))) [some (.str y),some (.ref f)] Ω)=_
   have:m2 (au .NotEq) (U 0) (m2 aA (U 1) (ae (.int 0))) [some (.str y),some (.ref f)] Ω=.ok (.bl (decide (y≠x))) Ω:=by
    simp[hx,hn,-dS]
   rw[this];rfl) (fun d _ _=>rfl) (by simp;omega)
 unfold gnN;rw[h,List.filter_map,List.map_map];rfl
theorem Ej{l t:Nat}{ws:List Str}{a0 a3 a4 a5 a6:Option D}(R:Rw Ω l js rs)(ht:Ω[t]?=some (.lst (ws.map .str)))(htl:t≠l)(htj:t∉js)(hr:rs.length<=12)(hw:∀ r∈rs,r.length<=24)(hwl:ws.length<=900) :
  ∃ l' NQ i7 Tu aq dF rs' ws',Iq [a0,a5,some (.ref l),some (.ref t),a3,a4,a6] Ω=.nx [a0,i7,some (.ref l'),some (.ref t),a3,NQ,Tu] aq/\Rw aq l' dF rs'/\aq[t]?=some (.lst ((ws':List Str).map .str))/\t≠l'/\t∉dF/\rs'.length=rs.length/\(∀ r∈rs',r.length<=24)/\ws'.length<=ws.length + 1/\ao [t] Ω aq:=by
 have K1:ao [] Ω (Ω++[Cell.lst []]):=ao.app;have g1:(Ω++[Cell.lst []])[Ω.length]?=some (.lst (([]:List Str).map .str)):=az;have r1:(ay 5 (mN bA aj)) [a0,a5,some (.ref l),some (.ref t),a3,a4,a6] Ω=.nx [a0,a5,some (.ref l),some (.ref t),a3,some (.ref Ω.length),a6] (Ω++[Cell.lst []]):=by simp[aW]
 obtain⟨b,i7,av,bh,e2,g2,K2⟩:=Eg (a0:=a0) (a2:=some (.ref t)) (a3:=a3) (a5:=a5) (a6:=a6) (R.keep K1) g1 hr hw;have AO:=K1.trans K2;obtain⟨fs,aM,e3,K3⟩:=Eh (a0:=a0) (a2:=some (.ref t)) (a3:=a3) (a5:=i7) (a6:=a6) ((R.keep K1).keep K2) g2 hr;have QJ:ao [] aM (aM++[.lst (fs.map .str)]):=ao.app;have g3:(aM++[Cell.lst (fs.map .str)])[aM.length]?=some (.lst (fs.map .str)):=az;have Tv:=(AO.trans K3).trans QJ;generalize aM++[Cell.lst (fs.map .str)]=cX at *;have r3:(ay 6 Lm) [a0,i7,some (.ref l),some (.ref t),a3,some (.ref b),a6] av=.nx [a0,i7,some (.ref l),some (.ref t),a3,some (.ref b),some (.ref aM.length)] cX:=by rw[bD,e3];rfl
 have K4:ao [] cX (cX++[Cell.lst []]):=ao.app;have g4:(cX++[Cell.lst []])[cX.length]?=some (.lst (([]:List Str).map .str)):=az;have f4:=K4.get _ _ g3 (by simp)
 have hne:=kd f4 g4
 have m4:m2 (au .NotEq) (U 6) (mN bA aj) [a0,i7,some (.ref l),some (.ref t),a3,some (.ref b),some (.ref aM.length)] cX=.ok (.bl (!decide (fs=[]))) (cX++[Cell.lst []]):=by
  simp[aW,hne,-dS]
 have vf:=Tv.trans K4;generalize cX++[Cell.lst []]=gf at *;have R5:=R.keep vf;have t5:=vf.get _ _ ht (by simp)
 cases fs with
 | nil=>
  refine⟨l,some (.ref b),i7,some (.ref aM.length),gf,js,rs,ws,?_,R5,t5,htl,htj,rfl,hw,by omega,il.up vf⟩
  have r4:(b8 (m2 (au .NotEq) (U 6) (mN bA aj)) (ah (dZ (bP eX bf (U 3) (aa (m2 aA (U 6) (ae (.int 0))) aj))) (ah (ay 2 (bp gnN true (ae .non) (aZ (U 2)) 0 [6])) ag)) ag) [a0,i7,some (.ref l),some (.ref t),a3,some (.ref b),some (.ref aM.length)] cX=.nx [a0,i7,some (.ref l),some (.ref t),a3,some (.ref b),some (.ref aM.length)] gf:=by
   rw[bU,m4];rfl
  unfold Iq;rw[ai,r1,aE,ai,e2,aE,ai,r3,aE,ai,r4];rfl
 | cons x fs=>
  have hx:aA (.ref aM.length) (.int 0) gf=.ok (.str x) gf:=bq f4 (L2.a_ (j:=0) rfl);have hap:=cP (d:=.str x) t5 (by simp;omega)
  have hL:=df t5;have K6:ao [t] gf (gf.set t (.lst (ws.map .str++[.str x]))):=ao.set (by simp)
  have t6:(gf.set t (.lst (ws.map .str++[.str x])))[t]?=some (.lst ((ws++[x]).map .str)):=by rw[cE t5];simp
  have Tw:aM.length≠t:=by
   have h1:=dj ht;have h2:=AO.len;have h3:=K3.len;omega
  have f6:(gf.set t (.lst (ws.map .str++[.str x])))[aM.length]?=some (.lst ((x::fs).map .str)):=fW f4 Tw;have R6:Rw (gf.set t (.lst (ws.map .str++[.str x]))) l js rs:=R5.mV K6 (by simpa using Ne.symm htl) (fun j hj h=>htj (by rw[← List.mem_singleton.mp h];exact hj))
  have r5:(dZ (bP eX bf (U 3) (aa (m2 aA (U 6) (ae (.int 0))) aj))) [a0,i7,some (.ref l),some (.ref t),a3,some (.ref b),some (.ref aM.length)] gf=.nx [a0,i7,some (.ref l),some (.ref t),a3,some (.ref b),some (.ref aM.length)] (gf.set t (.lst (ws.map .str++[.str x]))):=by
   rw[ff,dE (x:=.ref t) (aq:=gf) (by simp) hL]
   simp[hx,hap]
  generalize gf.set t (.lst (ws.map .str++[.str x]))=Ad at *
  have fJ:aZ (U 2) [a0,i7,some (.ref l),some (.ref t),a3,some (.ref b),some (.ref aM.length)] Ad=.ok (.seq (.ref l)) Ad:=by
   rw[cm];exact bb (by rw[aN,aD R6.ce])
  have tl:=dj t6
  obtain⟨dF,rT,e7,K7,h7,h8⟩:=lJ (ρ:=[a0,i7,some (.ref l),some (.ref t),a3,some (.ref b),some (.ref aM.length)]) (me:=gnN) (mc:=ae .non) (cap:=[6]) (f:=fun r=>r.filter fun n=>decide (n≠x)) (P:=fun j=>j≠t) fJ R6 (by omega) (fun j row NS K hj hrow h=>by
   have e:=Ei h (K.get _ _ f6 (by simp)) (hw row hrow)
   refine⟨NS.length,_,e,ao.app,az,?_⟩;have:=K.len;omega)
  have l7:=K7.len;refine⟨rT.length,some (.ref b),i7,some (.ref aM.length),rT++[.lst (dF.map .ref)],dF,rs.map (fun r=>r.filter fun n=>decide (n≠x)),ws++[x],?_,⟨az,h7.keep (fp:=[]) ao.app (by simp)⟩,kb (K7.get _ _ t6 (by simp)),by omega,fun h=>h8 t h rfl,by simp,fun r hr' => ?_,by simp,((il.up vf).trans K6).trans (il.up (K7.trans ao.app))⟩
  ·have r4:(b8 (m2 (au .NotEq) (U 6) (mN bA aj)) (ah (dZ (bP eX bf (U 3) (aa (m2 aA (U 6) (ae (.int 0))) aj))) (ah (ay 2 (bp gnN true (ae .non) (aZ (U 2)) 0 [6])) ag)) ag) [a0,i7,some (.ref l),some (.ref t),a3,some (.ref b),some (.ref aM.length)] cX=.nx [a0,i7,some (.ref rT.length),some (.ref t),a3,some (.ref b),some (.ref aM.length)] (rT++[.lst (dF.map .ref)]):=by
    rw[bU,m4]
    show ah _ _ _ gf=_
    rw[ai,r5,aE,ai,bD,e7];rfl
   unfold Iq;rw[ai,r1,aE,ai,e2,aE,ai,r3,aE,ai,r4];rfl
  ·obtain⟨r0,h9,rfl⟩:=List.mem_map.mp hr'
   exact Nat.le_trans (List.length_filter_le _ _) (hw r0 h9)
end
def Iu(F:bg):Prop:=∀ (Ω:aF) (k:Nat) (js:List Nat) (rs:List (List Str)),Rw Ω k js rs->rs.length<=12->(∀ r∈rs,r.length<=24)->∃ (ws:List Str) (q:Nat) (aq:aF),F [.ref k] Ω=.ok (.ref q) aq/\aq[q]?=some (.lst (ws.map .str))/\ao [] Ω aq
theorem Iv:Iu (bC 7 1 Ed):=by
 intro Ω k js rs R hr hw;rw[bK (by rfl)]
 have e0:aS 7 [D.ref k]=[some (.ref k),none,none,none,none,none,none]:=rfl;rw[e0];obtain⟨dF,k',ak,e1,K1,R1,h1,h2,h3⟩:=ke (ρ:=[some (.ref k),none,none,none,none,none,none]) (i:=0) rfl R (by omega)
 have r1:(ay 2 (jF 0)) [some (.ref k),none,none,none,none,none,none] Ω=.nx [some (.ref k),none,some (.ref k'),none,none,none,none] ak:=by rw[bD,e1];rfl
 have K2:ao [] ak (ak++[Cell.lst []]):=ao.app;have q2:(ak++[Cell.lst []])[ak.length]?=some (.lst (([]:List Str).map .str)):=az;have r2:(ay 3 (mN bA aj)) [some (.ref k),none,some (.ref k'),none,none,none,none] ak=.nx [some (.ref k),none,some (.ref k'),some (.ref ak.length),none,none,none] (ak++[Cell.lst []]):=by simp[aW]
 have lk:=dj R1.ce;have lj:=R1.al.lt
 have key:∃ (bB:aU) (ws:List Str) (aM:aF),(cD (bu 4) (bt (aa (ae (.int 24)) aj)) Iq) [some (.ref k),none,some (.ref k'),some (.ref ak.length),none,none,none] (ak++[Cell.lst []])=.nx bB aM/\bB[3]?=some (some (.ref ak.length))/\aM[ak.length]?=some (.lst (ws.map .str))/\ao [ak.length] (ak++[Cell.lst []]) aM:=by
  rw[dc];have fJ:bt (aa (ae (.int 24)) aj) [some (.ref k),none,some (.ref k'),some (.ref ak.length),none,none,none] (ak++[Cell.lst []])=.ok (.ints 0 24) (ak++[Cell.lst []]):=rfl;rw[fJ,eh]
  refine cw (R:=fun r=>∃ (bB:aU) (ws:List Str) (aM:aF),r=.nx bB aM/\bB[3]?=some (some (.ref ak.length))/\aM[ak.length]?=some (.lst (ws.map .str))/\ao [ak.length] (ak++[Cell.lst []]) aM) (ds:=intsFrom 0 24)
   (fun i ρ av=>∃ l a3 a4 a5 a6 Ln Iw ws,ρ=[some (.ref k),a5,some (.ref l),some (.ref ak.length),a3,a4,a6]/\Rw av l Ln Iw/\av[ak.length]?=some (.lst ((ws:List Str).map .str))/\ak.length≠l/\ak.length∉Ln/\Iw.length=rs.length/\(∀ r∈Iw,r.length<=24)/\ws.length<=i/\ao [ak.length] (ak++[Cell.lst []]) av) ?_ ?_ ?_ fuel 0 _ _ (by unfold fuel;rw[b7];omega) (Nat.zero_le _)
   ⟨k',none,none,none,none,dF,rs,[],rfl,R1.keep K2,q2,by omega,fun h=>(by have:=lj _ h;omega),rfl,hw,by simp,ao.refl⟩
  ·rintro i ρ av _
   rfl
  ·rintro i d ρ av hd ⟨l,a3,a4,a5,a6,Ln,Iw,ws,rfl,R2,h4,h5,h6,h7,h8,h9,K⟩
   have hi:i < 24:=(List.getElem?_eq_some_iff.mp hd).1;refine⟨[some (.ref k),a5,some (.ref l),some (.ref ak.length),some d,a4,a6],rfl,?_⟩;obtain⟨l',b4,b5,b6,aM,Tz,TB,TC,e3,R3,c1,c2,c3,c4,c5,c6,K3⟩:=Ej (a0:=some (.ref k)) (a3:=some d) (a4:=a4) (a5:=a5) (a6:=a6) R2 h4 h5 h6 (by omega) h8 (by omega)
   rw[e3];exact⟨l',some d,b4,b5,b6,Tz,TB,TC,rfl,R3,c1,c2,c3,by omega,c5,by omega,K.trans K3⟩
  ·rintro ρ av ⟨l,a3,a4,a5,a6,Ln,Iw,ws,rfl,R2,h4,h5,h6,h7,h8,h9,K⟩
   exact⟨_,ws,av,rfl,rfl,h4,K⟩
 obtain⟨bB,ws,aM,e3,h4,h5,K3⟩:=key;refine⟨ws,ak.length,aM,?_,h5,ao.new (K1.trans K2) K3 (by simpa using K1.len)⟩
 unfold Ed;rw[ai,r1,aE,ai,r2,aE,ai,e3,aE,ai,cU,fc,h4];rfl
section
variable{Ω aq:aF}{ρ:aU}{k:Nat}{js:List Nat}{rs:List (List Str)}{row:List Str}{μ:Int->Int->Int->Int}{F:List D->Out Rs}
theorem swap_perm{r:List Str}{a:Nat}(h:a + 1 < r.length):(r.take a++[r.getD (a + 1) "",r.getD a ""]++r.drop (a + 2)).Perm r:=by
 have h1:r.drop a=r[a]::r[a + 1]::r.drop (a + 2):=by
  rw[List.drop_eq_getElem_cons (by omega),List.drop_eq_getElem_cons h]
 have h2:r=r.take a++(r[a]::r[a + 1]::r.drop (a + 2)):=by rw[← h1,List.take_append_drop]
 have e1:r.getD a ""=r[a]:=by rw[List.getD_eq_getElem?_getD,List.getElem?_eq_getElem (by omega)];rfl
 have e2:r.getD (a + 1) ""=r[a + 1]:=by rw[List.getD_eq_getElem?_getD,List.getElem?_eq_getElem h];rfl
 rw[e1,e2,List.append_assoc];refine List.Perm.trans (List.Perm.append_left _ ?_) (List.Perm.of_eq h2.symm);exact List.Perm.swap _ _ _
def Fs(F:List D->Out Rs):EM:=(fE (m2 (au .Lt) (mN (aX .len) (aa (U 1) aj)) (ae (.int 2))) (m2 (au .Lt) (mN (bo F) (aa (U 0) (aa (ae (.int 30)) (aa (ae (.int 3)) aj)))) (ae (.int 2))))
def Iy(F:List D->Out Rs):EM:=(m2 (au .Eq) (mN (bo F) (aa (U 0) (aa (ae (.int 31)) (aa (ae (.int 6)) aj)))) (ae (.int 5)))
def Lo(F:List D->Out Rs):EM:=(mN (bo F) (aa (U 0) (aa (ae (.int 32)) (aa (m2 (aJ .Sub) (mN (aX .len) (aa (U 1) aj)) (ae (.int 1))) aj))))
def NT:EM:=(mN bA (aa (m2 aA (U 1) (m2 (aJ .Add) (U 2) (ae (.int 1)))) (aa (m2 aA (U 1) (U 2)) aj)))
def NU:EM:=(m2 (aJ .Add) (m2 (aJ .Add) (b_ (U 1) true (ae .non) false (U 2)) NT) (b_ (U 1) false (m2 (aJ .Add) (U 2) (ae (.int 2))) true (ae .non)))
def va(F:List D->Out Rs):SM:=
 (ah (b8 (Fs F)
 (ah (aH (U 1))
 ag)
 ag)
 (ah (b8 (Iy F)
 (ah (aH (m1 jP (U 1)))
 ag)
 ag)
 (ah (ay 2 (Lo F))
 (ah (aH NU)
 ag))))
def Ek(M:bg):Prop:=∀ (Ω:aF) (c:Int) (j:Nat) (row:List Str),Ω[j]?=some (.lst (row.map .str))->row.length<=24->∃ (j':Nat) (A5:List Str) (aq:aF),M [.int c,.ref j] Ω=.ok (.ref j') aq/\aq[j']?=some (.lst (A5.map .str))/\A5.Perm row/\ao [] Ω aq
theorem Iz(hμ:fZ μ F):Ek (bC 3 2 (va F)):=by
 intro Ω c j row hj hl;rw[bK (by rfl)]
 have e0:aS 3 [D.int c,.ref j]=[some (.int c),some (.ref j),none]:=rfl;rw[e0];have hlen:=de hj;obtain⟨m0,m1',hm⟩:=hμ c 30 3 (by omega) (by omega) (by omega)
 obtain⟨n0,n1,hN⟩:=hμ c 31 6 (by omega) (by omega) (by omega)
 have eA:∃ t:Bool,Fs F [some (.int c),some (.ref j),none] Ω=.ok (.bl t) Ω/\(t=false->2<=row.length):=by
  by_cases h2:row.length < 2
  ·refine⟨true,?_,fun h=>by cases h⟩
   have:(row.length:Int) < 2:=by omega
   simp[Fs,hlen,this]
  ·have:¬ (row.length:Int) < 2:=by omega
   refine⟨decide (μ c 30 3 < 2),?_,fun _=>by omega⟩
   simp[Fs,hlen,this,hm]
 obtain⟨t,eA,hA⟩:=eA;cases t with
 | true=>
  refine⟨j,row,Ω,?_,hj,.refl _,ao.refl⟩;unfold va;rw[ai,bU,eA];simp
 | false=>
  have h2:=hA rfl
  have eB:Iy F [some (.int c),some (.ref j),none] Ω=.ok (.bl (decide (μ c 31 6=5))) Ω:=by
   have:(μ c 31 6 == 5)=decide (μ c 31 6=5):=by by_cases q:μ c 31 6=5<;>simp[q]
   simp[Iy,hN,this]
  by_cases h5:μ c 31 6=5
  ·rw[decide_eq_true h5]at eB
   have er:m1 jP (U 1) [some (.int c),some (.ref j),none] Ω=.ok (.ref Ω.length) (Ω++[.lst (row.reverse.map .str)]):=by
    rw[tF,fc];simp only[List.getElem?_cons_zero,List.getElem?_cons_succ,fV,aQ];simp only[jP,aD hj,et,List.map_reverse]
   refine⟨Ω.length,row.reverse,Ω++[.lst (row.reverse.map .str)],?_,az,row.reverse_perm,ao.app⟩;have c1:(b8 (Fs F) (ah (aH (U 1)) ag) ag) [some (.int c),some (.ref j),none] Ω=.nx [some (.int c),some (.ref j),none] Ω:=by rw[bU,eA];rfl
   have c2:(b8 (Iy F) (ah (aH (m1 jP (U 1))) ag) ag) [some (.int c),some (.ref j),none] Ω=.rt (.ref Ω.length) (Ω++[.lst (row.reverse.map .str)]):=by
    rw[bU,eB]
    show ah (aH (m1 jP (U 1))) ag _ Ω=_
    rw[ai,cU,er];rfl
   unfold va;rw[ai,c1,aE,ai,c2];rfl
  ·rw[decide_eq_false h5]at eB
   obtain⟨p0,p1,hP⟩:=hμ c 32 ((row.length:Int) - 1) (by omega) (by omega) (by omega)
   have eD:Lo F [some (.int c),some (.ref j),none] Ω=.ok (.int (μ c 32 ((row.length:Int) - 1))) Ω:=by simp[Lo,hlen,hP]
   generalize μ c 32 ((row.length:Int) - 1)=A at *;obtain⟨A,rfl⟩:=Int.eq_ofNat_of_zero_le p0;have QM:A + 1 < row.length:=by omega
   have s1:=rJ (n:=A) hj;have w1:ao [] Ω (Ω++[Cell.lst ((row.take A).map .str)]):=ao.app;have v1:(Ω++[Cell.lst ((row.take A).map .str)])[Ω.length]?=some (.lst ((row.take A).map .str)):=az;have x1:(b_ (U 1) true (ae .non) false (U 2)) [some (.int c),some (.ref j),some (.int A)] Ω=.ok (.ref Ω.length) (Ω++[Cell.lst ((row.take A).map .str)]):=by simp[s1]
   generalize NJ:Ω++[Cell.lst ((row.take A).map .str)]=ak at *;have j1:=w1.get _ _ hj (by simp)
   have TF:row[A]?=some (row.getD A ""):=by rw[List.getD_eq_getElem?_getD,List.getElem?_eq_getElem (by omega)];rfl
   have hy1:row[A + 1]?=some (row.getD (A + 1) ""):=by rw[List.getD_eq_getElem?_getD,List.getElem?_eq_getElem QM];rfl
   have hx0:aA (.ref j) (.int A) ak=.ok (.str (row.getD A "")) ak:=bq j1 (L2.a_ (by rw[List.getElem?_map,TF];rfl))
   have hx1:aA (.ref j) (.int (A + 1:Nat)) ak=.ok (.str (row.getD (A + 1) "")) ak:=bq j1 (L2.a_ (by rw[List.getElem?_map,hy1];rfl))
   have hsw:=swap_perm QM;generalize row.getD A ""=y0 at *;generalize row.getD (A + 1) ""=y1 at *;have w2:ao [] ak (ak++[Cell.lst [.str y1,.str y0]]):=ao.app;have v2:(ak++[Cell.lst [.str y1,.str y0]])[ak.length]?=some (.lst ([y1,y0].map .str)):=az
   have x2:NT [some (.int c),some (.ref j),some (.int A)] ak=.ok (.ref ak.length) (ak++[Cell.lst [.str y1,.str y0]]):=by
    have NW:aA (.ref j) (.int ((A:Int) + 1)) ak=.ok (.str y1) ak:=hx1;simp[NT,hx0,NW,aW]
   generalize ak++[Cell.lst [.str y1,.str y0]]=av at *;have s3:=gS (w2.get _ _ v1 (by simp)) v2 (by simp;omega)
   rw[← List.map_append]at s3;have w3:ao [] av (av++[Cell.lst ((row.take A++[y1,y0]).map .str)]):=ao.app;have v3:(av++[Cell.lst ((row.take A++[y1,y0]).map .str)])[av.length]?=some (.lst ((row.take A++[y1,y0]).map .str)):=az;generalize av++[Cell.lst ((row.take A++[y1,y0]).map .str)]=aM at *;have W3:=(w1.trans w2).trans w3;have s4:=xU (i:=A + 2) (W3.get _ _ hj (by simp))
   have w4:ao [] aM (aM++[Cell.lst ((row.drop (A + 2)).map .str)]):=ao.app;have v4:(aM++[Cell.lst ((row.drop (A + 2)).map .str)])[aM.length]?=some (.lst ((row.drop (A + 2)).map .str)):=az
   have x4:(b_ (U 1) false (m2 (aJ .Add) (U 2) (ae (.int 2))) true (ae .non)) [some (.int c),some (.ref j),some (.int A)] aM=.ok (.ref aM.length) (aM++[Cell.lst ((row.drop (A + 2)).map .str)]):=by
    have TH:gH (.ref j) (some ((A:Int) + 2)) none aM=.ok (.ref aM.length) (aM++[Cell.lst ((row.drop (A + 2)).map .str)]):=s4;simp[TH]
   generalize aM++[Cell.lst ((row.drop (A + 2)).map .str)]=cX at *;have s5:=gS (w4.get _ _ v3 (by simp)) v4 (by simp;omega)
   rw[← List.map_append]at s5;refine⟨cX.length,row.take A++[y1,y0]++row.drop (A + 2),cX++[Cell.lst ((row.take A++[y1,y0]++row.drop (A + 2)).map .str)],?_,az,hsw,(W3.trans w4).trans ao.app⟩
   have eE:NU [some (.int c),some (.ref j),some (.int A)] Ω=.ok (.ref cX.length) (cX++[Cell.lst ((row.take A++[y1,y0]++row.drop (A + 2)).map .str)]):=by
    unfold NU;rw[dm,dm,x1,aQ,x2,aQ,s3,aQ,x4,aQ,s5]
   have c1:(b8 (Fs F) (ah (aH (U 1)) ag) ag) [some (.int c),some (.ref j),none] Ω=.nx [some (.int c),some (.ref j),none] Ω:=by rw[bU,eA];rfl
   have c2:(b8 (Iy F) (ah (aH (m1 jP (U 1))) ag) ag) [some (.int c),some (.ref j),none] Ω=.nx [some (.int c),some (.ref j),none] Ω:=by rw[bU,eB];rfl
   have c3:(ay 2 (Lo F)) [some (.int c),some (.ref j),none] Ω=.nx [some (.int c),some (.ref j),some (.int A)] Ω:=by rw[bD,eD];rfl
   unfold va;rw[ai,c1,aE,ai,c2,aE,ai,c3,aE,ai,cU,eE];rfl
end
def hdT(x:D)(Ω:aF):ax D:=match qu x with
 | some d=>.ok (.tup [.str "ring",d]) Ω
 | none=>.bad
theorem El(x:D)(Ω:aF):(∃ d,x=eY "Ring" "steps" d)\/hdT x Ω=.bad:=by
 cases h:qu x with
 | some d=>exact .inl ⟨d,qv h⟩
 | none=>exact .inr (by simp[hdT,h])
def cbT(MG:bg):SM:=ah (ay 1 (mN MG (aa (U 0) aj))) ag
def ID:SM:=(ah (aH (mN pG (aa (ae (.str "order")) (aa (U 1) aj)))) ag)
def IE(T:bg):Prop:=∀ (Ω:aF) (k:Nat) (js:List Nat) (rs:List (List Str)),Rw Ω k js rs->rs.length<=900->tot rs<=900 ->
 (∀ o,Mg rs o->o.length<=900->∃ q aq,T [.ref k] Ω=.ok (.tup [.str "order",.ref q]) aq/\aq[q]?=some (.lst (o.map .str))/\ao [] Ω aq) /\
 (Sk rs->∃ (ss:List ib) (p:Nat) (aq:aF),T [.ref k] Ω=.ok (.tup [.str "ring",.ref p]) aq/\aq[p]?=some (.lst (ss.map aO))/\dG rs ss/\ao [] Ω aq)
theorem IF{MG:bg}(hG:AK MG)(hM:AW MG):IE (jO 3 1 (cbT MG) ID hdT):=by
 intro Ω k js rs R h1 h2
 have hd:jO 3 1 (cbT MG) ID hdT [.ref k] Ω=(match cbT MG [some (.ref k),none,none] Ω with | .nx ρ ak=>eS (ID ρ ak) | .exc x ak=>vc (hdT x ak) | _=>.bad):=by
  unfold jO;rw[if_pos (show [D.ref k].length=1 from rfl)]
  rfl
 refine⟨fun o M ho => ?_,fun S => ?_⟩
 ·obtain⟨q,aq,e,g,_,K⟩:=hG Ω k js rs o R M (by omega) ho
  refine⟨q,aq,?_,g,K⟩;have:cbT MG [some (.ref k),none,none] Ω=.nx [some (.ref k),some (.ref q),none] aq:=by simp[cbT,e]
  rw[hd,this];rfl
 ·obtain⟨ss,p,aq,e,g,hr,_,K⟩:=hM Ω k js rs R S h1 h2
  refine⟨ss,p,aq,?_,g,hr,K⟩;have:cbT MG [some (.ref k),none,none] Ω=.exc (eY "Ring" "steps" (.ref p)) aq:=by simp[cbT,e]
  rw[hd,this];simp[hdT,kg,vc]
def Em:SM:=(ah (aH (m2 (au .Eq) (U 2) (U 1))) ag)
theorem En{MG:bg}(hG:AK MG):Hy (jO 3 2 (yD MG) Em yC):=by
 intro Ω k t js rs o w R ht M hr ho;obtain⟨q,aq,e,g,_,K⟩:=hG Ω k js rs o R M hr ho;refine⟨aq,?_,K⟩;have:yD MG [some (.ref k),some (.ref t),none] Ω=.nx [some (.ref k),some (.ref t),some (.ref q)] aq:=by simp[yD,e]
 have h2:=kc g (K.get _ _ ht (by simp))
 unfold jO;rw[if_pos (show [D.ref k,.ref t].length=2 from rfl)]
 show(match yD MG [some (.ref k),some (.ref t),none] Ω with | .nx ρ ak=>eS (Em ρ ak) | .exc x ak=>vc (yC x ak) | _=>.bad)=_
 rw[this]
 have e3:Em [some (.ref k),some (.ref t),some (.ref q)] aq=.rt (.bl (decide (o=w))) aq:=by
  simp[Em,h2,-fe]
 show eS (Em [some (.ref k),some (.ref t),some (.ref q)] aq)=_
 rw[e3];rfl
section
variable{Ω aq:aF}{ρ:aU}{k:Nat}{js:List Nat}{rs:List (List Str)}{row:List Str}{κ:List Int->Nat->Int}{C:List D->Out Rs}
def Eo(C:List D->Out Rs)(MV:bg):EM:=(mN (aP MV) (aa (mN (bo C) (aa (U 2) (aa (m2 (aJ .Add) (ae (.int 3)) (U 0)) aj))) (aa (m2 aA (U 1) (U 0)) aj)))
def A6(C:List D->Out Rs)(MV:bg):EM:=(bp (Eo C MV) true (ae .non) (bt (aa (mN (aX .len) (aa (U 2) aj)) aj)) 0 [2,0])
theorem Ep{MV:bg}(p8:kW κ C)(hM:Ek MV){ns:List Int}{a1 a3 a4 a5:Option D}(R:Rw Ω k js rs)(hr:rs.length<=12)(hw:∀ r∈rs,r.length<=24) :
  ∃ (k':Nat) (dF:List Nat) (rs':List (List Str)) (aq:aF),A6 C MV [some (SC ns),a1,some (.ref k),a3,a4,a5] Ω=.ok (.ref k') aq/\Rw aq k' dF rs'/\rs'.length=rs.length/\(∀ r'∈rs',∃ r∈rs,r'.Perm r)/\ao [] Ω aq:=by
 have hL:=R.len;have hlen:=de R.ce;rw[List.length_map,← hL]at hlen;have hin:hU (rs.length:Int)=true:=dQ (by omega) (by omega)
 have fJ:(bt (aa (mN (aX .len) (aa (U 2) aj)) aj)) [some (SC ns),a1,some (.ref k),a3,a4,a5] Ω=.ok (.ints 0 rs.length) Ω:=by simp[hlen,hin]
 obtain⟨ys,av,e,dF,rs',rfl,h1,h2,h3,K⟩:=oE (ρ:=[some (SC ns),a1,some (.ref k),a3,a4,a5]) (me:=Eo C MV) (mc:=ae .non) (cap:=[2,0]) (ds:=intsFrom 0 rs.length) (fun i acc av=>∃ dF rs',acc=dF.map .ref/\l9 av dF rs'/\rs'.length=i/\(∀ r'∈rs',∃ r∈rs,r'.Perm r)/\ao [] Ω av) fJ ⟨[],[],rfl,.nil,rfl,by simp,ao.refl⟩
  (fun _ _ _ _=>rfl) (fun i d acc av hd h=>by
   obtain⟨dF,rs',rfl,h1,h2,h3,K⟩:=h;obtain⟨rfl,hlt⟩:=dR hd;have kk:C [SC ns,.int (3 + (i:Int))]=.ok (false,.int (κ ns (3 + i))):=by have:=p8 ns (3 + i);rwa[show((3 + i:Nat):Int)=3 + (i:Int) by omega]at this
   have hr0:rs[i]?=some rs[i]:=List.getElem?_eq_getElem hlt;obtain⟨j,hj,TJ⟩:=(R.keep K).al.at hr0;have hx:aA (.ref k) (.int (i:Int)) av=.ok (.ref j) av:=bq (R.keep K).ce (L2.a_ (by rw[List.getElem?_map,hj];rfl))
   obtain⟨j',A5,aM,e3,g3,hp,K3⟩:=hM av (κ ns (3 + i)) j rs[i] TJ (hw _ (List.getElem_mem hlt));rw[show(0:Int) + (i:Int)=(i:Int) by omega]
   refine⟨.ref j',aM,by simp[Eo,dh,kk,hx,e3],dF++[j'],rs'++[A5],by simp,(h1.keep (fp:=[]) K3 (by simp)).snoc g3,by simp[h2],?_,K.trans K3⟩
   intro r hr';rcases List.mem_append.mp hr' with h | h
   ·exact h3 r h
   ·rw[List.mem_singleton.mp h];exact⟨_,List.getElem_mem hlt,hp⟩) (by rw[b7];omega)
 rw[b7]at h2;refine⟨av.length,dF,rs',av++[.lst (dF.map .ref)],?_,⟨az,h1.keep (fp:=[]) ao.app (by simp)⟩,h2,h3,K.trans ao.app⟩
 unfold A6;exact e
theorem qx(rs:List (List Str)):rs.flatten.length=tot rs:=by rw[List.length_flatten];rfl
theorem yr{ss:List ib}(rg:dG rs ss):ss.length<=tot rs:=by
 obtain⟨n,R',y1,y2,y3⟩:=rg.ex
 have h1:(n::R').length<=rs.flatten.length:=gR _ _ y3 fun z hz=>by
  rw[← y1]at hz;obtain⟨s,hs,rfl⟩:=List.mem_map.mp hz;obtain⟨u,t,e,_⟩:=rg.u4 s hs;exact List.mem_flatten.mpr ⟨_,List.mem_of_getElem? e,by simp⟩
 rw[qx]at h1;have h3:=congrArg List.length y1;rw[List.length_map]at h3;omega
end
def vb(HO:bg):EM:=(fE (m2 (au .NotEq) (U 3) (U 2)) (m2 (au .NotEq) (m2 (au .Eq) (U 4) (ae (.str "order"))) (mN (aP HO) (aa (U 2) aj))))
def rV(IO IM:bg):EM:=(cR (mN (aP IO) (aa (U 5) (aa (U 2) aj))) (m2 (au .Is) (mN (aP IM) (aa (U 3) (aa (U 5) aj))) (ae (.bl true))))
def A7(LR IR:bg):EM:=(fE (bW (mN (aP LR) (aa (U 2) (aa (U 5) aj)))) (m2 (au .IsNot) (mN (aP IR) (aa (U 3) (aa (U 5) aj))) (ae (.bl true))))
def A8(GN IM:bg):EM:=(m2 (au .IsNot) (mN (aP IM) (aa (U 3) (aa (mN (aP GN) (aa (U 2) aj)) aj))) (ae (.bl false)))
def A9(IM:bg):EM:=(cR (m2 (au .Is) (mN (aP IM) (aa (U 3) (aa (U 1) aj))) (ae (.bl false))) (m2 (au .Eq) (U 3) (U 2)))
def A_(C:List D->Out Rs)(OR RS MV TD HO IO IM LR IR GN:bg):SM:=
 (ah (ay 1 (mN (aP OR) (aa (U 0) aj)))
 (ah (ay 2 (mN (aP RS) (aa (U 0) (aa (U 1) (aa (ae (.int 12)) aj)))))
 (ah (ay 2 (A6 C MV))
 (ah (ay 3 (jF 2))
 (ah (uP [4,5] (mN (aP TD) (aa (U 3) aj)))
 (ah (jQ (vb HO))
 (ah (b8 (m2 (au .Eq) (U 4) (ae (.str "order")))
 (ah (aH (rV IO IM))
 ag)
 ag)
 (ah (jQ (A7 LR IR))
 (ah (jQ (A8 GN IM))
 (ah (aH (A9 IM))
 ag))))))))))
theorem IG{Ω:aF}{b:Bool}:au .Is (.bl b) (.bl b) Ω=.ok (.bl true) Ω:=by cases b<;>rfl
theorem B1{Ω:aF}{b:Bool}:au .NotEq (.bl b) (.bl b) Ω=.ok (.bl false) Ω:=by cases b<;>rfl
theorem yt{κ:List Int->Nat->Int}{C:List D->Out Rs}{OR RS MV TD HO IO IM LR IR GN:bg}(p8:kW κ C)(hO:HL OR)(hR:HN RS)(hV:Ek MV)(hT:IE TD)(hH:Im HO)(hIo:HU IO)(TK:Hy IM)(hIf:Ik IM)(TL:AZ LR)(TM:AZ IR)(hG:Iu GN)(ns:List Int) :
  ∃ Ω,eS (A_ C OR RS MV TD HO IO IM LR IR GN [some (SC ns),none,none,none,none,none] [])=.ok (.bl true) Ω:=by
 obtain⟨xs,q0,Lp,xn,x2,x24,e1,g0,K0⟩:=hO [] ns;obtain⟨TN,k0,VG,ak,hs0,hl0,e2,R0,K1⟩:=hR Lp ns q0 xs 12 (by omega) x24 g0
 have QN:∀ r∈TN,r.length<=24:=fun r h=>Nat.le_trans (hs0 r h).length_le x24
 obtain⟨k,js,rs,av,e3,R2,hl2,hp2,K2⟩:=Ep (ns:=ns) (a1:=some (.ref q0)) (a3:=none) (a4:=none) (a5:=none) p8 hV R0 hl0 QN;have hl:rs.length<=12:=by omega
 have hw:∀ r∈rs,r.length<=24:=fun r h=>by
  obtain⟨r0,h1,h2⟩:=hp2 r h;rw[h2.length_eq];exact QN r0 h1
 have hnd:∀ r∈rs,r.Nodup:=fun r h=>by
  obtain⟨r0,h1,h2⟩:=hp2 r h;exact h2.nodup_iff.mpr (xn.sublist (hs0 r0 h1))
 have hmx:∀ r∈rs,∀ x∈r,x∈xs:=fun r h x hx=>by
  obtain⟨r0,h1,h2⟩:=hp2 r h;exact(hs0 r0 h1).subset (h2.mem_iff.mp hx)
 have ht:tot rs<=900:=by
  have:=i8 rs hw;rw[qx]at this;omega
 have r1:(ay 1 (mN (aP OR) (aa (U 0) aj))) [some (SC ns),none,none,none,none,none] []=.nx [some (SC ns),some (.ref q0),none,none,none,none] Lp:=by simp[e1]
 have r2:(ay 2 (mN (aP RS) (aa (U 0) (aa (U 1) (aa (ae (.int 12)) aj))))) [some (SC ns),some (.ref q0),none,none,none,none] Lp=.nx [some (SC ns),some (.ref q0),some (.ref k0),none,none,none] ak:=by
  have e2:RS [SC ns,.ref q0,.int 12] Lp=.ok (.ref k0) ak:=e2;simp[e2]
 have r3:(ay 2 (A6 C MV)) [some (SC ns),some (.ref q0),some (.ref k0),none,none,none] ak=.nx [some (SC ns),some (.ref q0),some (.ref k),none,none,none] av:=by rw[bD,e3];rfl
 obtain⟨dF,kh,aM,e4,K3,R3,hj',hk',hkj⟩:=ke (ρ:=[some (SC ns),some (.ref q0),some (.ref k),none,none,none]) (i:=2) rfl R2 (by omega)
 have r4:(ay 3 (jF 2)) [some (SC ns),some (.ref q0),some (.ref k),none,none,none] av=.nx [some (SC ns),some (.ref q0),some (.ref k),some (.ref kh),none,none] aM:=by rw[bD,e4];rfl
 have Q3:=R2.keep K3;have g3:=K3.get _ _ (K2.get _ _ (K1.get _ _ g0 (by simp)) (by simp)) (by simp)
 obtain⟨tO,tR⟩:=hT aM kh dF rs R3 (by omega) ht
 have pre:∀ (v d:D) (cX:aF) (r:gM),TD [.ref kh] aM=.ok (.tup [v,d]) cX->(ah (jQ (vb HO)) (ah (b8 (m2 (au .Eq) (U 4) (ae (.str "order"))) (ah (aH (rV IO IM)) ag) ag) (ah (jQ (A7 LR IR)) (ah (jQ (A8 GN IM)) (ah (aH (A9 IM)) ag))))) [some (SC ns),some (.ref q0),some (.ref k),some (.ref kh),some v,some d] cX=r->A_ C OR RS MV TD HO IO IM LR IR GN [some (SC ns),none,none,none,none,none] []=r:=by
  intro v d cX r e h
  have r5:(uP [4,5] (mN (aP TD) (aa (U 3) aj))) [some (SC ns),some (.ref q0),some (.ref k),some (.ref kh),none,none] aM=.nx [some (SC ns),some (.ref q0),some (.ref k),some (.ref kh),some v,some d] cX:=by
   have e':(mN (aP TD) (aa (U 3) aj)) [some (SC ns),some (.ref q0),some (.ref k),some (.ref kh),none,none] aM=.ok (.tup [v,d]) cX:=by simp[e]
   rw[Ax,e'];rfl
  unfold A_;rw[ai,r1,aE,ai,r2,aE,ai,r3,aE,ai,r4,aE,ai,r5,aE];exact h
 rcases yi (tot rs + 1) rs (by omega) with ⟨o,M,ho⟩ | S
 ·have on:=kY M
  have hol:o.length<=24:=Nat.le_trans (gR o xs on fun x hx=>by
   obtain⟨r,h1,h2⟩:=rk M x hx;exact hmx r h1 x h2) x24
  obtain⟨q,cX,e5,g5,K4⟩:=tO o M (by omega)
  have R4:=R3.keep K4;have Q4:=Q3.keep K4;obtain⟨gf,e6,K5⟩:=hH cX k js rs true Q4 hl hw fun us _=>yp on (rM M) (us.length + 1) us (by omega)
  have n1:=tQ R4 Q4;have z:=B1 (Ω:=gf) (b:=true);have z0:au .Eq (.str "order") (.str "order") cX=.ok (.bl true) cX:=rfl
  have r6:jQ (vb HO) [some (SC ns),some (.ref q0),some (.ref k),some (.ref kh),some (.str "order"),some (.ref q)] cX=.nx [some (SC ns),some (.ref q0),some (.ref k),some (.ref kh),some (.str "order"),some (.ref q)] gf:=ki (by
   simp[vb,n1,e6,z0,z,-dS,-fe])
  have R5:=R4.keep K5;have Q5:=Q4.keep K5;have g6:=K5.get _ _ g5 (by simp)
  obtain⟨Ad,e7,K6⟩:=hIo gf q k js rs o Q5 g6 M hl hw (by omega)
  obtain⟨rT,e8,K7⟩:=TK Ad kh q dF rs o o (R5.keep K6) (K6.get _ _ g6 (by simp)) M (by omega) (by omega)
  rw[decide_eq_true rfl]at e8;have z2:=IG (Ω:=rT) (b:=true)
  have eB:rV IO IM [some (SC ns),some (.ref q0),some (.ref k),some (.ref kh),some (.str "order"),some (.ref q)] gf=.ok (.bl true) rT:=by
   simp[rV,e7,e8,z2]
  have z5:m2 (au .Eq) (U 4) (ae (.str "order")) [some (SC ns),some (.ref q0),some (.ref k),some (.ref kh),some (.str "order"),some (.ref q)] gf=.ok (.bl true) gf:=rfl;refine⟨rT,?_⟩;rw[pre _ _ cX (.rt (.bl true) rT) e5 ?_]
  ·rfl
  ·have r7:(b8 (m2 (au .Eq) (U 4) (ae (.str "order"))) (ah (aH (rV IO IM)) ag) ag) [some (SC ns),some (.ref q0),some (.ref k),some (.ref kh),some (.str "order"),some (.ref q)] gf=.rt (.bl true) rT:=by
    rw[bU,z5]
    show ah (aH (rV IO IM)) ag _ gf=_
    rw[ai,cU,eB];rfl
   rw[ai,r6,aE,ai,r7];rfl
 ·obtain⟨ss,p,cX,e5,g5,rg,K4⟩:=tR S
  have R4:=R3.keep K4;have Q4:=Q3.keep K4;have ssl:ss.length<=900:=Nat.le_trans (yr rg) ht
  obtain⟨gf,e6,K5⟩:=hH cX k js rs false Q4 hl hw fun us hu=>u_ rg (us.length + 1) us (by omega) fun s hs=>by
   obtain⟨u,t,e,_⟩:=rg.u4 s hs;exact(hu _).mpr ⟨_,List.mem_of_getElem? e,by simp⟩
  have n1:=tQ R4 Q4;have z:=B1 (Ω:=gf) (b:=false);have z0:au .Eq (.str "ring") (.str "order") cX=.ok (.bl false) cX:=rfl
  have r6:jQ (vb HO) [some (SC ns),some (.ref q0),some (.ref k),some (.ref kh),some (.str "ring"),some (.ref p)] cX=.nx [some (SC ns),some (.ref q0),some (.ref k),some (.ref kh),some (.str "ring"),some (.ref p)] gf:=ki (by
   simp[vb,n1,e6,z0,z,-dS,-fe])
  have R5:=R4.keep K5;have Q5:=Q4.keep K5;have g6:=K5.get _ _ g5 (by simp)
  have z5:m2 (au .Eq) (U 4) (ae (.str "order")) [some (SC ns),some (.ref q0),some (.ref k),some (.ref kh),some (.str "ring"),some (.ref p)] gf=.ok (.bl false) gf:=rfl
  have r7:(b8 (m2 (au .Eq) (U 4) (ae (.str "order"))) (ah (aH (rV IO IM)) ag) ag) [some (SC ns),some (.ref q0),some (.ref k),some (.ref kh),some (.str "ring"),some (.ref p)] gf=.nx [some (SC ns),some (.ref q0),some (.ref k),some (.ref kh),some (.str "ring"),some (.ref p)] gf:=by
   rw[bU,z5];rfl
  obtain⟨Ad,e7,K6⟩:=TL gf k p js rs ss Q5 hnd (by omega) rg g6 ssl
  obtain⟨rT,e8,K7⟩:=TM Ad kh p dF rs ss (R5.keep K6) hnd (by omega) rg (K6.get _ _ g6 (by simp)) ssl
  have r8:jQ (A7 LR IR) [some (SC ns),some (.ref q0),some (.ref k),some (.ref kh),some (.str "ring"),some (.ref p)] gf=.nx [some (SC ns),some (.ref q0),some (.ref k),some (.ref kh),some (.str "ring"),some (.ref p)] rT:=ki (by
   have z1:=BX (Ω:=rT) (b:=true);simp[A7,e7,e8,z1])
  have QO:=K6.trans K7;have R7:=R5.keep QO;have Q7:=Q5.keep QO;obtain⟨ws,qg,NS,e9,g9,K8⟩:=hG rT k js rs Q7 hl hw;obtain⟨Lq,eA,K9⟩:=hIf NS kh (.ref qg) dF rs (R7.keep K8) S (by omega) ht
  have r9:jQ (A8 GN IM) [some (SC ns),some (.ref q0),some (.ref k),some (.ref kh),some (.str "ring"),some (.ref p)] rT=.nx [some (SC ns),some (.ref q0),some (.ref k),some (.ref kh),some (.str "ring"),some (.ref p)] Lq:=ki (by
   have z1:=BX (Ω:=Lq) (b:=false);simp[A8,e9,eA,z1])
  have QP:=K8.trans K9;have R9:=R7.keep QP;have Q9:=Q7.keep QP;obtain⟨Lr,eC,KA⟩:=hIf Lq kh (.ref q0) dF rs R9 S (by omega) ht
  have q1:=A1 (R9.keep KA) (Q9.keep KA);have z3:=IG (Ω:=Lr) (b:=false)
  have fin:A9 IM [some (SC ns),some (.ref q0),some (.ref k),some (.ref kh),some (.str "ring"),some (.ref p)] Lq=.ok (.bl true) Lr:=by
   simp[A9,eC,z3,q1,-fe]
  refine⟨Lr,?_⟩;rw[pre _ _ cX (.rt (.bl true) Lr) e5 ?_]
  ·rfl
  ·rw[ai,r6,aE,ai,r7,aE,ai,r8,aE,ai,r9,aE,ai,cU,fin]
   rfl
end Mir
namespace vf
open PySem PySem.Spec PyProof.Rows L2 Mir
noncomputable def top(i:Nat):Stmt:=PySem.Challenge.pw_taglook_k14_whole_order_or_ring.main.body.getD i (.Pass ⟨0,0,0,0⟩)
instance clos:aL:=⟨fun _=>⟨"","",cj (top 0),[],af (top 0),[],[]⟩,fun _=>0⟩
noncomputable def td:List Str:=[]
def Ls:aY:=(({}:aY).An "DEEPEST" (.int 8))
noncomputable def QQ:List Str:=["_law_script","_law_k"]
noncomputable def QR:List Str:=["_law_script","_law_k"]
def QS:SM:=
 (ah (b8 (m2 (au .Lt) (U 1) (mN (aX .len) (aa (U 0) aj)))
 (ah (aH (m2 aA (U 0) (U 1)))
 ag)
 ag)
 (ah (aH (ae (.int 0)))
 ag))
def TQ:bg:=bC 2 2 QS
def F0:List Mir.D->Out Rs:=pureOf TQ
def NX:aY:=Ls.l6 "_law_cell" F0
theorem TR:bL QQ QR (af (top 16))=true:=by decide +kernel
theorem TU:cV Ls td (top 16) QQ=some QS:=rfl
noncomputable def QT:List Str:=["_law_cell_here","_law_turn","_law_many","_law_rest","_law_k","_law_turns","_law_one","_law_two"]
noncomputable def QU:List Str:=["_law_cell_here","_law_turn","_law_many"]
def QV:SM:=
 (ah (ay 3 (m2 (aJ .FloorDiv) (U 0) (ae (.int 2))))
 (ah (b8 (cR (m2 (au .Eq) (m2 (aJ .Mod) (U 0) (ae (.int 2))) (ae (.int 1))) (m2 (au .Gt) (U 0) (m2 (aJ .Pow) (ae (.int 10)) (ae (.int 18)))))
 (ah (cD (bu 4) (bt (aa (U 1) aj))
 (ah (ay 3 (m2 (aJ .FloorDiv) (U 3) (ae (.int 840))))
 ag))
 (ah (aH (m2 (aJ .Mod) (m2 (aJ .Mod) (U 3) (ae (.int 840))) (U 2)))
 ag))
 ag)
 (ah (ay 5 (mN bA (aa (ae (.int 48271)) (aa (ae (.int 69621)) (aa (ae (.int 40692)) (aa (ae (.int 39373)) (aa (ae (.int 16807)) (aa (ae (.int 30323)) (aa (ae (.int 21403)) (aa (ae (.int 62089)) (aa (ae (.int 45742)) (aa (ae (.int 37907)) (aa (ae (.int 53611)) (aa (ae (.int 28411)) (aa (ae (.int 59393)) (aa (ae (.int 33391)) aj))))))))))))))))
 (ah (ay 6 (m2 (aJ .Mod) (m2 (aJ .Mult) (m2 (aJ .Add) (m2 (aJ .Mod) (U 0) (ae (.int 1000000007))) (ae (.int 11))) (m2 aA (U 5) (m2 (aJ .Mod) (U 1) (ae (.int 14))))) (ae (.int 2147483629))))
 (ah (ay 7 (m2 (aJ .Mod) (m2 (aJ .Mult) (U 6) (m2 (aJ .Add) (U 6) (U 1))) (ae (.int 1999999973))))
 (ah (aH (m2 (aJ .Mod) (m2 (aJ .FloorDiv) (m2 (aJ .Mod) (m2 (aJ .Mult) (U 7) (ae (.int 16807))) (ae (.int 998244353))) (ae (.int 1000))) (U 2)))
 ag))))))
def TV:bg:=bC 8 3 QV
def F1:List Mir.D->Out Rs:=pureOf TV
def NY:aY:=NX.l6 "_law_mix" F1
theorem TX:bL QT QU (af (top 17))=true:=by decide +kernel
theorem TY:cV NX td (top 17) QT=some QV:=rfl
noncomputable def QW:List Str:=["_law_found"]
noncomputable def QX:List Str:=["_law_found"]
def Lu:SM:=
 (ah (aH (cR (m1 (bG .int) (U 0)) (bW (m1 (bG .bool) (U 0)))))
 ag)
def QY:bg:=bC 1 1 Lu
def F2:List Mir.D->Out Rs:=pureOf QY
def NZ:aY:=NY.l6 "_law_whole" F2
theorem TZ:bL QW QX (af (top 25))=true:=by decide +kernel
theorem T3:cV NY td (top 25) QW=some Lu:=rfl
noncomputable def QZ:List Str:=["thing","least","most"]
noncomputable def Q0:List Str:=["thing","least","most"]
def Lv:SM:=
 (ah (b8 (fE (m1 (bG .bool) (U 0)) (bW (m1 (bG .int) (U 0))))
 (ah (aH (ae (.bl false)))
 ag)
 ag)
 (ah (aH (h_ .LtE .LtE (U 1) (U 0) (U 2)))
 ag))
def Q1:bg:=bC 3 3 Lv
def F3:List Mir.D->Out Rs:=pureOf Q1
def Q2:aY:=NZ.l6 "is_whole" F3
theorem T5:bL QZ Q0 (af (top 6))=true:=by decide +kernel
theorem T6:cV NZ td (top 6) QZ=some Lv:=rfl
def U0:aY:=Q2
noncomputable def Q6:List Str:=["thing","depth"]
noncomputable def Ba:List Str:=["thing","depth"]
def T7:bg:=bC 2 2 (ip fun _ _=>.bad)
def T8:bg:=bC 2 2 (ip T7)
def O0:bg:=bC 2 2 (ip T8)
def U1:aY:=U0
theorem N1:bL Q6 Ba (af (top 2))=true:=by decide +kernel
theorem N2(O:bg):cV (Ls.b9 "own_copy" O) td (top 2) Q6=some (ip O):=rfl
noncomputable def Q8:List Str:=["left","name","place","row"]
noncomputable def Q_:List Str:=["left","name"]
def d1:SM:=
 (ah (cD (jD [2,3]) (uN (U 0))
 (ah (b8 (m2 (au .In) (U 1) (b_ (U 3) false (ae (.int 1)) true (ae .non)))
 (ah (aH (U 2))
 ag)
 ag)
 ag))
 (ah (aH (ae .non))
 ag))
def O1:bg:=bC 4 2 d1
def U2:aY:=U1.b9 "place_behind" O1
theorem T9:bL Q8 Q_ (af (top 10))=true:=by decide +kernel
theorem T_:cV U1 td (top 10) Q8=some d1:=rfl
noncomputable def Ra:List Str:=["left","row"]
noncomputable def Rb:List Str:=["left"]
def d2:SM:=
 (ah (cD (bu 1) (aZ (U 0))
 (ah (b8 (cR (U 1) (m2 (au .Is) (mN (aP O1) (aa (U 0) (aa (m2 aA (U 1) (ae (.int 0))) aj))) (ae .non)))
 (ah (aH (m2 aA (U 1) (ae (.int 0))))
 ag)
 ag)
 ag))
 (ah (aH (ae .non))
 ag))
def O2:bg:=bC 2 1 d2
def U3:aY:=U2.b9 "free_name" O2
theorem Ua:bL Ra Rb (af (top 9))=true:=by decide +kernel
theorem Ub:cV U2 td (top 9) Ra=some d2:=rfl
noncomputable def N3:List Str:=["left","heads","name","met","steps","place"]
noncomputable def Rc:List Str:=["left"]
def O3:bg:=bC 6 1 (AU O1)
def U4:aY:=U3.b9 "ring_among" O3
theorem Uc:bL N3 Rc (af (top 11))=true:=by decide +kernel
theorem Ud:cy (jo (xX U3 (af (top 11)) N3) U3 td 60 (af (top 11)) N3 30) (aV (top 11))=some (AU O1):=rfl
noncomputable def N4:List Str:=["rows","left","order","name"]
noncomputable def N5:List Str:=["rows"]
def T4:aY:={ U4 with xt:=true }
def O4:bg:=bC 4 1 (uZ (rP O0 O3) O2)
def U5:aY:=U4
theorem Ue:bL N4 N5 (af (top 8))=true:=by decide +kernel
theorem Ug:cy (jo (tP T4 (af (top 8)) N4 "Ring" "steps" (Fq O0)) T4 td 60 (af (top 8)) N4 30) (aV (top 8))=some (uZ (rP O0 O3) O2):=rfl
noncomputable def Rf:List Str:=["rows","told","order"]
noncomputable def Rg:List Str:=["rows","told"]
def O5:bg:=jO 3 2 (yD O4) Em yC
def U6:aY:=U5.b9 "is_merged" O5
theorem Rh:bL Rf Rg (af (top 12))=true:=by decide +kernel
theorem Uh:cy (iA U5 td 60 (af (top 12)) Rf 30) ((aV (top 12)).drop 1)=some Em:=rfl
noncomputable def Ri:List Str:=["rows","step","row"]
noncomputable def Rj:List Str:=["rows","step"]
def d6:SM:=
 (ah (b8 (fE (bW (m1 (bG .tuple) (U 1))) (m2 (au .NotEq) (mN (aX .len) (aa (U 1) aj)) (ae (.int 3))))
 (ah (aH (ae (.bl false)))
 ag)
 ag)
 (ah (b8 (fE (bW (m1 (bG .str) (m2 aA (U 1) (ae (.int 0))))) (fE (bW (m1 (bG .str) (m2 aA (U 1) (ae (.int 1))))) (bW (mN (bo F3) (aa (m2 aA (U 1) (ae (.int 2))) (aa (ae (.int 0)) (aa (m2 (aJ .Sub) (mN (aX .len) (aa (U 0) aj)) (ae (.int 1))) aj)))))))
 (ah (aH (ae (.bl false)))
 ag)
 ag)
 (ah (ay 2 (m2 aA (U 0) (m2 aA (U 1) (ae (.int 2)))))
 (ah (aH (cR (m2 (au .In) (m2 aA (U 1) (ae (.int 0))) (U 2)) (cR (m2 (au .In) (m2 aA (U 1) (ae (.int 1))) (U 2)) (m2 (au .Lt) (bP eX cq (U 2) (aa (m2 aA (U 1) (ae (.int 0))) aj)) (bP eX cq (U 2) (aa (m2 aA (U 1) (ae (.int 1))) aj))))))
 ag))))
def O6:bg:=bC 3 2 d6
def U7:aY:=U6.b9 "is_claim" O6
theorem Ui:bL Ri Rj (af (top 14))=true:=by decide +kernel
theorem Uj:cV U6 td (top 14) Ri=some d6:=rfl
noncomputable def N6:List Str:=["rows","steps","ones","others"]
noncomputable def Rk:List Str:=["rows","steps"]
def O7:bg:=bC 4 2 (AY O6)
def U8:aY:=U7.b9 "is_ring" O7
theorem Uk:bL N6 Rk (af (top 13))=true:=by decide +kernel
theorem Ul:cy (jo (BP U7 (af (top 13)) N6) U7 td 60 (af (top 13)) N6 30) (aV (top 13))=some (AY O6):=rfl
noncomputable def Rl:List Str:=["_law_cell_here","_law_many","_law_letters","_law_k","_law_base","_law_size","_law_at","_law_names_here","_law_name","_law_j","_law_turn"]
noncomputable def Rm:List Str:=["_law_cell_here","_law_many"]
def d8:SM:=
 (ah (ay 2 (ae (.str "abcdefghijklmnopqrstuvwxyz")))
 (ah (ay 4 (bp (mN (bo F1) (aa (U 1) (aa (U 0) (aa (ae (.int 26)) aj)))) true (ae .non) (bt (aa (ae (.int 8)) aj)) 0 [0]))
 (ah (ay 5 (m2 (aJ .Add) (ae (.int 1)) (mN (bo F1) (aa (U 0) (aa (ae (.int 8)) (aa (ae (.int 8)) aj))))))
 (ah (ay 6 (mN (bo F1) (aa (U 0) (aa (ae (.int 9)) (aa (U 5) aj)))))
 (ah (ay 7 (mN bA aj))
 (ah (cD (bu 3) (bt (aa (U 1) aj))
 (ah (ay 8 (ae (.str "")))
 (ah (cD (bu 9) (bt (aa (U 5) aj))
 (ah (ay 8 (m2 (aJ .Add) (U 8) (m2 aA (U 2) (m2 (aJ .Mod) (m2 (aJ .Add) (m2 aA (U 4) (U 9)) (m2 (aJ .Mult) (U 3) (mN (aX .int) (aa (m2 (au .Eq) (U 9) (U 6)) aj)))) (ae (.int 26))))))
 ag))
 (ah (b8 (cR (m2 (au .Eq) (mN (bo F1) (aa (U 0) (aa (ae (.int 10)) (aa (ae (.int 4)) aj)))) (ae (.int 1))) (m2 (au .Lt) (U 1) (ae (.int 9))))
 (ah (ay 8 (bP xk lh (ae (.str "")) (aa (bp (m2 aA (U 1) (U 0)) true (ae .non) (aZ (b_ (U 4) true (ae .non) false (m2 (aJ .Add) (U 3) (ae (.int 1))))) 0 [2]) aj)))
 ag)
 ag)
 (ah (dZ (bP eX bf (U 7) (aa (U 8) aj)))
 ag)))))
 (ah (ay 10 (mN (bo F1) (aa (U 0) (aa (ae (.int 11)) (aa (U 1) aj)))))
 (ah (aH (m2 (aJ .Add) (b_ (U 7) false (U 10) true (ae .non)) (b_ (U 7) true (ae .non) false (U 10))))
 ag))))))))
def O8:bg:=bC 11 2 d8
def U9:aY:=U8.b9 "_law_names" O8
theorem Um:bL Rl Rm (af (top 18))=true:=by decide +kernel
theorem Uo:cV U8 td (top 18) Rl=some d8:=rfl
noncomputable def Rn:List Str:=["_law_cell_here","_law_turn","_law_names_here","_law_pool","_law_found","_law_k"]
noncomputable def Ro:List Str:=["_law_cell_here","_law_turn","_law_names_here"]
def d9:SM:=
 (ah (ay 3 (mN (aX .list) (aa (U 2) aj)))
 (ah (ay 4 (mN bA aj))
 (ah (cD (bu 5) (bt (aa (mN (aX .len) (aa (U 2) aj)) aj))
 (ah (dZ (bP eX bf (U 4) (aa (bP eX gJ (U 3) (aa (mN (bo F1) (aa (U 0) (aa (m2 (aJ .Add) (U 1) (U 5)) (aa (mN (aX .len) (aa (U 3) aj)) aj)))) aj)) aj)))
 ag))
 (ah (aH (U 4))
 ag))))
def O9:bg:=bC 6 3 d9
def N7:aY:=U9.b9 "_law_shuffled" O9
theorem Up:bL Rn Ro (af (top 19))=true:=by decide +kernel
theorem Uq:cV U9 td (top 19) Rn=some d9:=rfl
noncomputable def IH:List Str:=["_law_cell_here","_law_order_here","_law_some"]
noncomputable def II:List Str:=["_law_cell_here","_law_order_here"]
def Rp:SM:=
 (ah (ay 2 (m2 (aJ .Add) (ae (.int 1)) (mN (bo F1) (aa (U 0) (aa (ae (.int 0)) (aa (ae (.int 4)) aj))))))
 (ah (aH (bp (m2 aA (U 2) (U 0)) false (m2 (au .Lt) (mN (bo F1) (aa (U 1) (aa (m2 (aJ .Add) (ae (.int 1)) (U 0)) (aa (ae (.int 4)) aj)))) (U 3)) (bt (aa (mN (aX .len) (aa (U 1) aj)) aj)) 0 [0,1,2]))
 ag))
def Lw:bg:=bC 3 2 Rp
def N8:aY:=N7.b9 "_law_part" Lw
theorem N9:bL IH II (af (top 20))=true:=by decide +kernel
theorem N_:cV N7 td (top 20) IH=some Rp:=rfl
noncomputable def IJ:List Str:=["_law_script","_law_cell_here","_law_size"]
noncomputable def IK:List Str:=["_law_script"]
def Rq:SM:=
 (ah (ay 1 (mN (bo F0) (aa (U 0) (aa (ae (.int 0)) aj))))
 (ah (ay 2 (m2 (aJ .Add) (ae (.int 2)) (mN (bo F1) (aa (U 1) (aa (ae (.int 0)) (aa (ae (.int 7)) aj))))))
 (ah (b8 (m2 (au .Eq) (mN (bo F1) (aa (U 1) (aa (ae (.int 1)) (aa (ae (.int 12)) aj)))) (ae (.int 5)))
 (ah (ay 2 (ae (.int 24)))
 ag)
 ag)
 (ah (aH (mN (aP O9) (aa (mN (bo F0) (aa (U 0) (aa (ae (.int 2)) aj))) (aa (ae (.int 0)) (aa (mN (aP O8) (aa (mN (bo F0) (aa (U 0) (aa (ae (.int 1)) aj))) (aa (U 2) aj))) aj)))))
 ag))))
def Lx:bg:=bC 3 1 Rq
def Oa:aY:=N8.b9 "_law_order" Lx
theorem Ob:bL IJ IK (af (top 21))=true:=by decide +kernel
theorem Oc:cV N8 td (top 21) IJ=some Rq:=rfl
noncomputable def IL:List Str:=["_law_script","_law_order_here","_law_most","_law_cell_here","_law_many"]
noncomputable def IP:List Str:=["_law_script","_law_order_here","_law_most"]
def Rr:SM:=
 (ah (ay 3 (mN (bo F0) (aa (U 0) (aa (ae (.int 0)) aj))))
 (ah (ay 4 (m2 (aJ .Add) (ae (.int 1)) (mN (bo F1) (aa (U 3) (aa (ae (.int 2)) (aa (ae (.int 6)) aj))))))
 (ah (b8 (cR (m2 (au .Eq) (mN (bo F1) (aa (U 3) (aa (ae (.int 3)) (aa (ae (.int 8)) aj)))) (ae (.int 3))) (m2 (au .Lt) (mN (aX .len) (aa (U 1) aj)) (ae (.int 9))))
 (ah (ay 4 (ae (.int 12)))
 ag)
 ag)
 (ah (aH (bp (mN (aP Lw) (aa (mN (bo F0) (aa (U 2) (aa (m2 (aJ .Add) (ae (.int 3)) (U 0)) aj))) (aa (U 1) aj))) true (ae .non) (bt (aa (mN (aX .min) (aa (U 4) (aa (U 2) aj))) aj)) 0 [1,0]))
 ag))))
def Ly:bg:=bC 5 3 Rr
def Od:aY:=Oa.b9 "_law_rows" Ly
theorem Oe:bL IL IP (af (top 22))=true:=by decide +kernel
theorem Of:cV Oa td (top 22) IL=some Rr:=rfl
noncomputable def IQ:List Str:=["_law_rows_here","_law_names_here","_law_row","_law_name"]
noncomputable def IS:List Str:=["_law_rows_here"]
def Rt:SM:=
 (ah (ay 1 (mN bA aj))
 (ah (cD (bu 2) (aZ (U 0))
 (ah (cD (bu 3) (aZ (U 2))
 (ah (b8 (m2 (au .NotIn) (U 3) (U 1))
 (ah (dZ (bP eX bf (U 1) (aa (U 3) aj)))
 ag)
 ag)
 ag))
 ag))
 (ah (aH (U 1))
 ag)))
def Er:bg:=bC 4 1 Rt
def Og:aY:=Od.b9 "_law_all" Er
theorem Oh:bL IQ IS (af (top 23))=true:=by decide +kernel
theorem Oi:cV Od td (top 23) IQ=some Rt:=rfl
noncomputable def IT:List Str:=["_law_found","_law_rows_here","_law_row","_law_places"]
noncomputable def IU:List Str:=["_law_found","_law_rows_here"]
def Ru:SM:=
 (ah (b8 (fE (bW (m1 (bG .list) (U 0))) (bW (mN (aX .all) (aa (bp (m1 (bG .str) (U 0)) true (ae .non) (aZ (U 0)) 0 []) aj))))
 (ah (aH (ae (.bl false)))
 ag)
 ag)
 (ah (b8 (m2 (au .NotEq) (mN fG (aa (U 0) aj)) (mN fG (aa (mN (aP Er) (aa (U 1) aj)) aj)))
 (ah (aH (ae (.bl false)))
 ag)
 ag)
 (ah (cD (bu 2) (aZ (U 1))
 (ah (ay 3 (bp (bP eX cq (U 1) (aa (U 0) aj)) true (ae .non) (aZ (U 2)) 0 [0]))
 (ah (b8 (m2 (au .NotEq) (U 3) (mN fG (aa (U 3) aj)))
 (ah (aH (ae (.bl false)))
 ag)
 ag)
 ag)))
 (ah (aH (ae (.bl true)))
 ag))))
def Lz:bg:=bC 4 2 Ru
def Oj:aY:=Og.b9 "_law_is_order" Lz
theorem Ol:bL IT IU (af (top 24))=true:=by decide +kernel
theorem Om:cV Og td (top 24) IT=some Ru:=rfl
noncomputable def IV:List Str:=["_law_rows_here","_law_step","_law_row"]
noncomputable def IW:List Str:=["_law_rows_here","_law_step"]
def Rv:SM:=
 (ah (b8 (fE (bW (m1 (bG .tuple) (U 1))) (fE (m2 (au .NotEq) (mN (aX .len) (aa (U 1) aj)) (ae (.int 3))) (bW (mN (bo F2) (aa (m2 aA (U 1) (ae (.int 2))) aj)))))
 (ah (aH (ae (.bl false)))
 ag)
 ag)
 (ah (b8 (bW (h_ .LtE .Lt (ae (.int 0)) (m2 aA (U 1) (ae (.int 2))) (mN (aX .len) (aa (U 0) aj))))
 (ah (aH (ae (.bl false)))
 ag)
 ag)
 (ah (ay 2 (m2 aA (U 0) (m2 aA (U 1) (ae (.int 2)))))
 (ah (b8 (fE (m2 (au .NotIn) (m2 aA (U 1) (ae (.int 0))) (U 2)) (m2 (au .NotIn) (m2 aA (U 1) (ae (.int 1))) (U 2)))
 (ah (aH (ae (.bl false)))
 ag)
 ag)
 (ah (aH (m2 (au .Lt) (bP eX cq (U 2) (aa (m2 aA (U 1) (ae (.int 0))) aj)) (bP eX cq (U 2) (aa (m2 aA (U 1) (ae (.int 1))) aj))))
 ag)))))
def LA:bg:=bC 3 2 Rv
def Oo:aY:=Oj.b9 "_law_is_claim" LA
theorem Oq:bL IV IW (af (top 26))=true:=by decide +kernel
theorem Ot:cV Oj td (top 26) IV=some Rv:=rfl
noncomputable def IX:List Str:=["_law_rows_here","_law_steps","_law_ones","_law_k"]
noncomputable def IY:List Str:=["_law_rows_here","_law_steps"]
def Rx:SM:=
 (ah (b8 (fE (bW (m1 (bG .list) (U 1))) (m2 (au .Lt) (mN (aX .len) (aa (U 1) aj)) (ae (.int 2))))
 (ah (aH (ae (.bl false)))
 ag)
 ag)
 (ah (ay 2 (mN bA aj))
 (ah (cD (bu 3) (bt (aa (mN (aX .len) (aa (U 1) aj)) aj))
 (ah (b8 (fE (bW (mN (aP LA) (aa (U 0) (aa (m2 aA (U 1) (U 3)) aj)))) (m2 (au .In) (m2 aA (m2 aA (U 1) (U 3)) (ae (.int 0))) (U 2)))
 (ah (aH (ae (.bl false)))
 ag)
 ag)
 (ah (b8 (cR (m2 (au .Gt) (U 3) (ae (.int 0))) (m2 (au .NotEq) (m2 aA (m2 aA (U 1) (m2 (aJ .Sub) (U 3) (ae (.int 1)))) (ae (.int 1))) (m2 aA (m2 aA (U 1) (U 3)) (ae (.int 0)))))
 (ah (aH (ae (.bl false)))
 ag)
 ag)
 (ah (dZ (bP eX bf (U 2) (aa (m2 aA (m2 aA (U 1) (U 3)) (ae (.int 0))) aj)))
 ag))))
 (ah (aH (m2 (au .Eq) (m2 aA (m2 aA (U 1) (m1 ro (ae (.int 1)))) (ae (.int 1))) (m2 aA (m2 aA (U 1) (ae (.int 0))) (ae (.int 0)))))
 ag))))
def LB:bg:=bC 4 2 Rx
def Ou:aY:=Oo.b9 "_law_is_ring" LB
theorem Ov:bL IX IY (af (top 27))=true:=by decide +kernel
theorem Ow:cV Oo td (top 27) IX=some Rx:=rfl
noncomputable def Es:List Str:=["_law_rows_here","_law_found","e"]
noncomputable def IZ:List Str:=["_law_rows_here"]
def Ox:bg:=jO 3 1 (cbT O4) ID hdT
def LD:aY:=Ou.b9 "_law_told" Ox
theorem I_:bL Es IZ (af (top 28))=true:=by decide +kernel
theorem Oy:cy (iA Ou td 60 (af (top 28)) Es 30) ((aV (top 28)).drop 1)=some ID:=rfl
noncomputable def Et:List Str:=["_law_cell_here","_law_row","_law_at"]
noncomputable def Ja:List Str:=["_law_cell_here","_law_row"]
def Oz:bg:=bC 3 2 (va F1)
def OA:aY:=LD.b9 "_law_moved" Oz
theorem OB:bL Et Ja (af (top 29))=true:=by decide +kernel
theorem OD:cy (jo (xX LD (af (top 29)) Et) LD td 60 (af (top 29)) Et 30) (aV (top 29))=some (va F1):=rfl
noncomputable def Jb:List Str:=["_law_rows_here","_law_left","_law_behind","_law_row","_law_free"]
noncomputable def Jc:List Str:=["_law_rows_here"]
def Ry:SM:=
 (ah (ay 1 (mN (aP Er) (aa (U 0) aj)))
 (ah (lq (m2 (au .NotEq) (U 1) (mN bA aj))
 (ah (ay 2 (mN bA aj))
 (ah (cD (bu 3) (aZ (U 0))
 (ah (ay 2 (m2 (aJ .Add) (U 2) (b_ (bp (U 0) false (m2 (au .In) (U 0) (U 1)) (aZ (U 3)) 0 [1]) false (ae (.int 1)) true (ae .non))))
 ag))
 (ah (ay 4 (bp (U 0) false (m2 (au .NotIn) (U 0) (U 1)) (aZ (U 1)) 0 [2]))
 (ah (b8 (m2 (au .Eq) (U 4) (mN bA aj))
 (ah (aH (ae (.bl false)))
 ag)
 ag)
 (ah (ay 1 (bp (U 0) false (m2 (au .NotIn) (U 0) (U 1)) (aZ (U 1)) 0 [4]))
 ag))))))
 (ah (aH (ae (.bl true)))
 ag)))
def LF:bg:=bC 5 1 Ry
def OE:aY:=OA.b9 "_law_has_order" LF
theorem OF:bL Jb Jc (af (top 30))=true:=by decide +kernel
theorem OG:cV OA td (top 30) Jb=some Ry:=rfl
noncomputable def Jd:List Str:=["_law_rows_here","_law_row","_law_left","_law_told_here","_law_k","_law_behind","_law_free"]
noncomputable def Je:List Str:=["_law_rows_here"]
def Rz:SM:=
 (ah (ay 2 (bp (mN (aX .list) (aa (U 0) aj)) true (ae .non) (aZ (U 0)) 0 []))
 (ah (ay 3 (mN bA aj))
 (ah (cD (bu 4) (bt (aa (ae (.int 24)) aj))
 (ah (ay 5 (mN bA aj))
 (ah (cD (bu 1) (aZ (U 2))
 (ah (ay 5 (m2 (aJ .Add) (U 5) (b_ (U 1) false (ae (.int 1)) true (ae .non))))
 ag))
 (ah (ay 6 (bp (m2 aA (U 0) (ae (.int 0))) false (cR (m2 (au .NotEq) (U 0) (mN bA aj)) (m2 (au .NotIn) (m2 aA (U 0) (ae (.int 0))) (U 1))) (aZ (U 2)) 0 [5]))
 (ah (b8 (m2 (au .NotEq) (U 6) (mN bA aj))
 (ah (dZ (bP eX bf (U 3) (aa (m2 aA (U 6) (ae (.int 0))) aj)))
 (ah (ay 2 (bp (bp (U 0) false (m2 (au .NotEq) (U 0) (m2 aA (U 1) (ae (.int 0)))) (aZ (U 0)) 0 [1]) true (ae .non) (aZ (U 2)) 0 [6]))
 ag))
 ag)
 ag)))))
 (ah (aH (U 3))
 ag))))
def LG:bg:=bC 7 1 Rz
def RB:aY:=OE.b9 "_law_gone" LG
theorem OH:bL Jd Je (af (top 31))=true:=by decide +kernel
theorem OI:cV OE td (top 31) Jd=some Rz:=rfl
noncomputable def Jf:List Str:=["_law_script","_law_order_here","_law_rows_here","_law_handed","_law_word","_law_found"]
noncomputable def Eu:List Str:=["_law_script"]
def RC:SM:=
 (ah (ay 1 (mN (aP Lx) (aa (U 0) aj)))
 (ah (ay 2 (mN (aP Ly) (aa (U 0) (aa (U 1) (aa (ae (.int 12)) aj)))))
 (ah (ay 2 (bp (mN (aP Oz) (aa (mN (bo F0) (aa (U 2) (aa (m2 (aJ .Add) (ae (.int 3)) (U 0)) aj))) (aa (m2 aA (U 1) (U 0)) aj))) true (ae .non) (bt (aa (mN (aX .len) (aa (U 2) aj)) aj)) 0 [2,0]))
 (ah (ay 3 (bp (mN (aX .list) (aa (U 0) aj)) true (ae .non) (aZ (U 2)) 0 []))
 (ah (uP [4,5] (mN (aP Ox) (aa (U 3) aj)))
 (ah (b8 (fE (m2 (au .NotEq) (U 3) (U 2)) (m2 (au .NotEq) (m2 (au .Eq) (U 4) (ae (.str "order"))) (mN (aP LF) (aa (U 2) aj))))
 (ah (aH (ae (.bl false)))
 ag)
 ag)
 (ah (b8 (m2 (au .Eq) (U 4) (ae (.str "order")))
 (ah (aH (cR (mN (aP Lz) (aa (U 5) (aa (U 2) aj))) (m2 (au .Is) (mN (aP O5) (aa (U 3) (aa (U 5) aj))) (ae (.bl true)))))
 ag)
 ag)
 (ah (b8 (fE (bW (mN (aP LB) (aa (U 2) (aa (U 5) aj)))) (m2 (au .IsNot) (mN (aP O7) (aa (U 3) (aa (U 5) aj))) (ae (.bl true))))
 (ah (aH (ae (.bl false)))
 ag)
 ag)
 (ah (b8 (m2 (au .IsNot) (mN (aP O5) (aa (U 3) (aa (mN (aP LG) (aa (U 2) aj)) aj))) (ae (.bl false)))
 (ah (aH (ae (.bl false)))
 ag)
 ag)
 (ah (aH (cR (m2 (au .Is) (mN (aP O5) (aa (U 3) (aa (U 1) aj))) (ae (.bl false))) (m2 (au .Eq) (U 3) (U 2))))
 ag))))))))))
def Jg:bg:=bC 6 1 RC
theorem OJ:bL Jf Eu (af (top 32))=true:=by decide +kernel
theorem OK:cV RB td (top 32) Jf=some RC:=rfl
theorem Ur:F0=pureOf (bC 2 2 oF):=rfl
theorem Us:F1=pureOf (bC 8 3 mT):=rfl
theorem o1:O1=bC 4 2 qh:=rfl
theorem o2:O2=bC 2 1 (AI O1):=rfl
theorem o6:O6=bC 3 2 (DZ F3):=rfl
theorem o8:O8=bC 11 2 (DG F1):=rfl
theorem o9:O9=bC 6 3 (DI F1):=rfl
theorem Ut:Lw=bC 3 2 (DL F1):=rfl
theorem Uu:Lx=bC 3 1 (AQ F1 F0 O9 O8):=rfl
theorem Uv:Ly=bC 5 3 (DM F1 F0 Lw):=rfl
theorem Uw:Er=bC 4 1 DN:=rfl
theorem Ux:Lz=bC 4 2 (DQ Er):=rfl
theorem Uy:LA=bC 3 2 (D1 F2):=rfl
theorem Uz:LB=bC 4 2 (D4 LA):=rfl
theorem UA:LF=bC 5 1 (D8 Er):=rfl
theorem UB:LG=bC 7 1 Ed:=rfl
theorem UC:Jg=bC 6 1 (A_ F0 Lx Ly Oz Ox LF Lz O5 LB O7 LG):=rfl
theorem UD(i:Int):F2 [.int i]=.ok (false,.bl true):=by
 refine g8 (aq:=[]) rfl ?_ rfl;unfold QY;rw[bK (by rfl)]
 show eS (Lu [some (.int i)] [])=_
 have h1:bG .bool (.int i) []=.ok (.bl false) []:=rfl;have h2:bG .int (.int i) []=.ok (.bl true) []:=rfl;simp[Lu,h1,h2]
theorem UE:Ib F3:=by
 intro p n hp hn;refine g8 (aq:=[]) rfl ?_ rfl;unfold Q1;rw[bK (by rfl)]
 show eS (Lv [some (.int p),some (.int 0),some (.int ((n:Int) - 1))] [])=_
 have h1:bG .bool (.int (p:Int)) []=.ok (.bl false) []:=rfl;have h2:bG .int (.int (p:Int)) []=.ok (.bl true) []:=rfl
 have z1:cC .LtE (.int 0) (.int (p:Int)) []=.ok (.bl true) []:=by
  have:au .LtE (.int 0) (.int (p:Int)) []=.ok (.bl true) []:=by simp
  exact this
 have z2:cC .LtE (.int (p:Int)) (.int ((n:Int) - 1)) []=.ok (.bl true) []:=by
  have:au .LtE (.int (p:Int)) (.int ((n:Int) - 1)) []=.ok (.bl true) []:=by simp;omega
  exact this
 have c:(h_ .LtE .LtE (U 1) (U 0) (U 2)) [some (.int p),some (.int 0),some (.int ((n:Int) - 1))] []=.ok (.bl true) []:=by
  unfold h_;simp[z1,z2];omega
 simp[Lv,h1,h2,c]
theorem RD:AW O4:=HZ H_ (HY (by rw[o1];exact HW)) (by rw[o2,o1];exact BR)
theorem RE:AK O4:=Hx (by rw[o2,o1];exact BR)
theorem yu(ns:List Int)(hl:ns.length<=63):∃ aq,Jg [.lst (ns.map .int)] []=.ok (.bl true) aq:=by
 obtain⟨μ,hμ⟩:=AL;rw[← Us]at hμ;have p8:=yc;rw[← Ur]at p8;have hS:DK O9:=by rw[o9];exact HI hμ
 have hA:yg Er:=by rw[Uw];exact HR
 rw[UC];refine yt p8 ?_ ?_ ?_ ?_ ?_ ?_ ?_ ?_ ?_ ?_ ?_ ns
 ·rw[Uu];exact HM hμ p8 hS (by rw[o8];exact HG hμ)
 ·rw[Uv];exact HP hμ p8 (by rw[Ut];exact HK hμ)
 ·exact Iz hμ
 ·exact IF RE RD
 ·rw[UA];exact Io hA
 ·rw[Ux];exact HV hA
 ·exact En RE
 ·exact Il RD
 ·rw[Uz,Uy];exact Ij (Ie UD)
 ·exact Ig (by rw[o6];exact Ic UE)
 ·rw[UB];exact Iv
noncomputable section
def stI:Stmt:=inClass (top 4) 0
def vI:Expr:=match aV stI with
 | .Assign _ v _::_=>v
 | _=>.Constant .none 0 ⟨0,0,0,0⟩
theorem UG:bL ["self","steps"] ["self","steps"] (af stI)=true:=by decide +kernel
def Jh:List Stmt:=match aV (top 28) with
 | .Try _ [.ExceptHandler _ _ b _] _ _ _::_=>b
 | _=>[]
end
theorem Ji{K:PySem.W.Frag}{mg:Str->Option Value}{B0:Addr}(XB:XBase K mg "LookError" B0):∃ (bn:Str) (B0:Addr) (a1 a2 a3 p1 p2 p3 p4 p5 apos pos:Pos) (pl:Env->Sem Bool),XBase K mg bn B0/\(bn == ("__debug__":Str))=false/\(af stI).names.lookup bn=some .globalImplicit /\
  aV stI=[.Assign [.Attribute (.Name "self" a1) "steps" a2] vI a3,.Expr (.Call (.Attribute (.Name bn p1) "__init__" apos) [.Name "self" p2,.Attribute (.Name "self" p3) "steps" p4] [] pos) p5] /\
  (∀ env,swapsWith vI (some (.Attribute (.Name "self" a1) "steps" a2)) a3.line env=pure false)/\(apos.endLine == pos.line)=true /\
  (∀ env:Env,eval (.Call (.Attribute (.Name bn p1) "__init__" apos) [.Name "self" p2,.Attribute (.Name "self" p3) "steps" p4] [] pos) env=(do
   let ov ← eval (.Name bn p1) env
   standAt apos.atName
   let (f,first) ← holding [ov] (getMethod ov "__init__" (pl env))
   callWith pos f first (backTo pos (starEach [.Name "self" p2,.Attribute (.Name "self" p3) "steps" p4] env)) (backToKw pos (keywordEach [] env)))):=
 ⟨"LookError",B0,_,_,_,_,_,_,_,_,_,_,_,XB,rfl,rfl,rfl,fun _=>rfl,rfl,fun _=>rfl⟩
theorem OL{P:Program}{w:World}{K:PySem.W.Frag}{mg:Str->Option Value}{base:Heap}(W:bJ P w K mg base U4 8){fo fI cI:Addr}{fd:FuncData}{tk:Tok}(F:cp P w K mg base eG 8 fo fd Ba (c7 (bx mg) O0))(hb:Binds K fd Ba [.int 0 tk])(hm:mg "own_copy"=some (.ref fo))(hk:PySem.W.keepIn K (.ref fo)=true) :
    ∀ (A':Around) (ot:List Env) (s':Shared) (e:Addr) (H1:Hp) (E':XK),bY 8 (A'.deeper (envOfC "Ring.__init__" (af stI) s'.heap.objs.size fI (.ref cI)))->bz ((cx eG P w K mg base ["self","steps"] "Ring.__init__" (af stI) fI (.ref cI) A' ot s' H1 E').jv.mk1 e) (bx mg) jk vI (Fq O0):=by
  intro A' ot s' e H1 E' hr
  have G:GoodO ((cx eG P w K mg base ["self","steps"] "Ring.__init__" (af stI) fI (.ref cI) A' ot s' H1 E').jv.mk1 e) (bx mg) U4 8 (af stI) ["self","steps"]:=
    { scope:=rfl,names:=rfl,calm:=rfl,room:=hr,cW:=W.cW,fld:=W.fld,cst:=W.cst
      iV:=fun x F h=>⟨W.iV x F h⟩,fn:=fun x F h=>⟨W.fn x F h⟩,met:=fun m C F h=>⟨W.met m C F h⟩,cls:=fun C F h=>let ⟨j,h1,h2⟩:=W.cls C F h;⟨j,h1,⟨h2⟩⟩,clo:=W.clo }
  exact uY (Dd:=[.int 0]) (sh:=[.int 0]) F hr rfl hm hk hb (.cons ⟨tk,rfl⟩ .nil) (fun _ _ _=>.one (by simp only[aw])) rfl rfl rfl (k9 ((eU 60 _ (af stI) ["self","steps"] _ (mN (aX .list) (aa (U 1) aj)) G rfl).1 _) nP rfl)
theorem Jj{K:PySem.W.Frag}{mg:Str->Option Value}{C N0 fI:Addr}(na:PySem.W.findIn K (.ref C) "steps"=some none) :
  ∀ (X:Cx) (e d:Addr) (oe:Obj),X.env.scope=af (top 28)->X.mg=mg->X.K=K->X.N=Es->JT X e C oe d N0 fI->∃ t,iE X Jh t/\∀ (D:Ends) (σ:L2.St) (H:Hp) (v:V),((some ("e":Str)).isSome=true->σ[2]?=some (some (.ref e)))->H d=some (.xd [("steps",v)])->(∀ p,H p=none->D.rt (.ref p) (upd H p (.tup [.str "ring",v])))->t D σ H:=by
 intro X e d oe h1 h2 h3 h4 Nq;subst h2 h3;obtain⟨p1,p2,p3,g1,g2,j1,x1,Nn⟩:∃ (p1 p2 p3 g1 g2:Pos) (j1 x1:Nat),Jh=[.Return (some (.Tuple [.Constant (.str "ring") j1 p1,.Attribute (.Name "e" g1) "steps" g2] x1 p2)) p3]:=⟨_,_,_,_,_,_,_,rfl⟩;rw[Nn];have hi:X.N[2]?=some ("e":Str):=by rw[h4];rfl
 have hv:yw X.env.scope ("e":Str):=.inl (by rw[h1];rfl)
 refine⟨_,rY (qA (vB (c9 vi (c9 (Gh Nq na hi hv rfl rfl) iu rfl) rfl))),fun D σ H v g1 g3 g5 => ?_⟩
 exact⟨g1 rfl,_,v,g3,by simp[List.lookup],(show 2<=sizeLine by decide),g5⟩
set_option maxHeartbeats 8000000 in
theorem all_mk{P:Program}{w:World}{K:PySem.W.Frag}{h:Heap}{mg:Str->Option Value}{fa:Addr}(X:K.In h)(G:h.Ns mainGlobals mg)(hfa:mg "law"=some (.ref fa))
  (nb:sW K=true)
  {q0:Tok} (z0:PySem.W.nsIn K mainGlobals "DEEPEST"=some (some (.int 8 q0)))
  {f0:Addr} {UH:FuncData} (a0:cO K "_law_cell" (top 16) f0 UH)
  {f1:Addr} {UI:FuncData} (a1:cO K "_law_mix" (top 17) f1 UI)
  {f2:Addr} {UJ:FuncData} (a2:cO K "_law_whole" (top 25) f2 UJ)
  {f3:Addr} {UK:FuncData} (a3:cO K "is_whole" (top 6) f3 UK)
  {Jk T1:Addr} {RF:Obj} {OM:Tok} {n1:Nat} {ON Ew:Option Addr} {OO:Array (Option Value)} {OP Ey Ez EA Bb EB:Value} (Ft:PySem.W.nsIn K mainGlobals "own_copy"=some (some (.ref Jk))) (OQ:K.lookup Jk=some ⟨OP,ON,.func (PySem.W.fnOf "own_copy" "own_copy" (cj (top 2)) (aV (top 2)) (af (top 2)) (.ref T1) Ey Ez EA Ew Bb EB),OO⟩) (OS:PySem.W.codeIn K Bb "own_copy"=true) (EC:PySem.W.keepIn K (.ref Jk)=true) (LH:K.lookup T1=some RF) (LI:RF.data=.seq #[.int 0 OM] n1)
  {UL:Addr} {OT:FuncData} (LJ:cO K "place_behind" (top 10) UL OT)
  {UM:Addr} {OU:FuncData} (LK:cO K "free_name" (top 9) UM OU)
  {UN:Addr} {OV:FuncData} (LM:cO K "ring_among" (top 11) UN OV)
  {RG:Addr} {OW:FuncData} (Jl:cO K "merged" (top 8) RG OW)
  {OX:Addr} {OY OZ:Option Addr} {O_:Array (Option Value)} {Pa Pb Pc Pd Pe:Value} {c5:Addr} (Pf:PySem.W.nsIn K mainGlobals "is_merged"=some (some (.ref OX))) (Pg:K.lookup OX=some ⟨Pa,OY,.func (PySem.W.fnOf "is_merged" "is_merged" (cj (top 12)) (aV (top 12)) (af (top 12)) .none Pb Pc Pd OZ (.ref c5) Pe),O_⟩) (Ph:PySem.W.codeIn K (.ref c5) "is_merged"=true) (LN:PySem.W.keepIn K (.ref OX)=true)
  {UO:Addr} {Pj:FuncData} (LO:cO K "is_claim" (top 14) UO Pj)
  {UP:Addr} {Pk:FuncData} (LP:cO K "is_ring" (top 13) UP Pk)
  {UQ:Addr} {Pl:FuncData} (LQ:cO K "_law_names" (top 18) UQ Pl)
  {UR:Addr} {Pm:FuncData} (LS:cO K "_law_shuffled" (top 19) UR Pm)
  {Pn:Addr} {Jm:FuncData} (Bc:cO K "_law_part" (top 20) Pn Jm)
  {Po:Addr} {Jn:FuncData} (Bd:cO K "_law_order" (top 21) Po Jn)
  {Pp:Addr} {Jo:FuncData} (Be:cO K "_law_rows" (top 22) Pp Jo)
  {Pq:Addr} {Jp:FuncData} (Bf:cO K "_law_all" (top 23) Pq Jp)
  {Pr:Addr} {Jq:FuncData} (Bg:cO K "_law_is_order" (top 24) Pr Jq)
  {Pt:Addr} {Jr:FuncData} (Bh:cO K "_law_is_claim" (top 26) Pt Jr)
  {Pu:Addr} {Js:FuncData} (Bi:cO K "_law_is_ring" (top 27) Pu Js)
  {ED:Addr} {Jt Ju:Option Addr} {Jv:Array (Option Value)} {Jw Jx Jy Jz JA:Value} {RH:Addr} (EE:PySem.W.nsIn K mainGlobals "_law_told"=some (some (.ref ED))) (EF:K.lookup ED=some ⟨Jw,Jt,.func (PySem.W.fnOf "_law_told" "_law_told" (cj (top 28)) (aV (top 28)) (af (top 28)) .none Jx Jy Jz Ju (.ref RH) JA),Jv⟩) (EG:PySem.W.codeIn K (.ref RH) "_law_told"=true) (Bj:PySem.W.keepIn K (.ref ED)=true)
  {Pw:Addr} {JB:FuncData} (Bk:cO K "_law_moved" (top 29) Pw JB)
  {Px:Addr} {JC:FuncData} (Bl:cO K "_law_has_order" (top 30) Px JC)
  {Py:Addr} {JD:FuncData} (Bm:cO K "_law_gone" (top 31) Py JD)
  {EH:Addr} {JE B2:Option Addr} {JF:Array (Option Value)} {JG B3 B4 B5 yv B6:Value} (EJ:PySem.W.nsIn K mainGlobals "law"=some (some (.ref EH))) (EK:K.lookup EH=some ⟨JG,JE,.func (PySem.W.fnOf "law" "law" (cj (top 32)) (aV (top 32)) (af (top 32)) .none B3 B4 B5 B2 yv B6),JF⟩) (EL:PySem.W.codeIn K yv "law"=true) (EN:PySem.W.keepIn K (.ref EH)=true)
  {C N0 B0 fI cI:Addr} (aC:PySem.W.nsIn K mainGlobals "Ring"=some (some (.ref C)))
  {US qC:Str} {HD RI:List Value} {UT:List Str} {Pz:List Value} {UU:Bool} {PC:Option Bool} {UW:Option Addr} {UX UY UZ U_ Va:Option Value} (lC:K.lookup C=some (excClassObj US qC C N0 HD RI true UT Pz UU PC UW UX UY UZ U_ Va "ValueError.__new__")) (nC:PySem.W.nsIn K N0 "__init__"=some (some (.ref fI))) (tC:o5 K RI=true)
  {PD:ClassData} (x1:PySem.W.clsIn K C=some PD) (x2:fi PD.mro=true) (x3:PD.hasDict=true) (x4:PySem.W.findIn K (.ref C) "__setattr__"=some (some (.builtin "object.__setattr__"))) (x5:PySem.W.findIn K (.ref C) "__getattribute__"=some (some (.builtin "BaseException.__getattribute__"))) (PF:PySem.W.findIn K (.ref C) "__getattr__"=some none) (x5c:PySem.W.mroIn K C (.type "BaseException")=some true) (x6:PySem.W.hasDictIn K C=true) (x7:JU K N0 "__init__"=some (some (.ref fI))) (x8:PySem.W.keepIn K (.ref C)=true) (x9:PySem.W.typeIn K (.ref fI)=some (.type "function"))
  {Vb Vc:Option Addr} {Vd:Array (Option Value)} {Ve Vf Vg Vh Vi:Value} (lI:K.lookup fI=some ⟨Ve,Vb,.func (PySem.W.fnOf "__init__" "Ring.__init__" (cj stI) (aV stI) (af stI) .none Vf Vg Vh Vc (.ref cI) Vi),Vd⟩) (yI:PySem.W.codeIn K (.ref cI) "Ring.__init__"=true) (wI:PySem.W.keepIn K (.ref fI)=true)
  (LU:PySem.W.findIn K (.ref C) "steps"=some none) (aB:PySem.W.nsIn K mainGlobals "LookError"=some (some (.ref B0))) (gB:PySem.W.specialIn K (.ref B0) "__getattribute__"=some (some (.builtin "type.__getattribute__"))) (rB:PySem.W.readsIn K B0 (.type "type")=true) (iB:PySem.W.findCls K (.ref B0) (.type "type") "__init__"=some (.val (.builtin "ValueError.__init__")))
  (i1:PySem.W.findIn K (.ref C) "__class__"=some (some (.builtin "object.__class__"))) (i2:PySem.W.specialIn K (.builtin "object.__class__") "__get__"=some (some (.builtin "getset_descriptor.__get__"))) (i3:PySem.W.takesIn K (.builtin "object.__class__")=some true) (i4:PySem.W.mroIn K C (.type "object")=some true)
  (Bn:PySem.W.exmOne K (.ref C) (.ref C)=some true)
  : ∃ fd:FuncData,(∀ (s:Shared) (v:Value),BindsTo s fd ⟨[v],[]⟩ [("_law_script",v)])/\∀ base:Heap,K.In base->base.Ns mainGlobals mg->cp P w K mg base eG 29 fa fd Eu (c7 (bx mg) Jg):=by
 have e:=hfa.symm.trans (PySem.W.mg_of X G EJ);cases e;have E0:=a0.fn;have b0:=E0.binds (ps:=QR) fun _ _ _ _ _ _=>all2 fun _ _=>rfl
 have E1:=a1.fn;have b1:=E1.binds (ps:=QU) fun _ _ _ _ _ _=>Ao fun _ _ _=>rfl
 have E2:=a2.fn;have b2:=E2.binds (ps:=QX) fun _ _ _ _ _ _=>all1 fun _=>rfl
 have E3:=a3.fn;have b3:=E3.binds (ps:=Q0) fun _ _ _ _ _ _=>Ao fun _ _ _=>rfl
 have PH:Dw K "own_copy" "own_copy" (top 2) (.ref T1) Jk _:=⟨⟨_,_,_,_,_,_,_,_,_,rfl,OQ,OS⟩,EC⟩
 have PJ:Binds K (PySem.W.fnOf "own_copy" "own_copy" (cj (top 2)) (aV (top 2)) (af (top 2)) (.ref T1) Ey Ez EA Ew Bb EB) Ba []:=fun s us X hl=>by
  rw[List.append_nil]at hl ⊢;exact all2 (p:=fun us=>BindsTo s _ ⟨us,[]⟩ (Ba.zip us)) (fun _ _=>PySem.W.binds_K X rfl LH LI rfl rfl) us hl
 have PK:Binds K (PySem.W.fnOf "own_copy" "own_copy" (cj (top 2)) (aV (top 2)) (af (top 2)) (.ref T1) Ey Ez EA Ew Bb EB) Ba [.int 0 OM]:=fun s us X hl=>
  all1 (p:=fun us=>BindsTo s _ ⟨us,[]⟩ (Ba.zip (us++[.int 0 OM]))) (fun _=>PySem.W.binds_K X rfl LH LI rfl rfl) us (by simpa[Ba] using hl)
 have EI:=kz (st:=stI) lI yI wI;have bI:=EI.binds (ps:=["self","steps"]) fun _ _ _ _ _ _=>all2 fun _ _=>rfl
 have XB:XBase K mg "LookError" B0:=⟨PySem.W.mg_of X G aB,gB,rB,iB⟩;have XC:nu K C N0 fI:=⟨⟨_,_,_,_,_,_,_,_,_,_,_,_,_,_,lC,sH tC⟩,⟨_,x1,x2,x3⟩,x4,⟨x5,PF,x5c⟩,x6,Bx x7,x8,x9⟩;have XD:vX K mg C N0 fI cI _ stI "Ring.__init__" "steps" "self" "steps" vI:=⟨⟨_,EI⟩,rfl,dP UG,XC,bI,LU,rfl,rfl,rfl,Ji XB⟩;have PL:=LJ.fn;have Vj:=PL.binds (ps:=Q_) fun _ _ _ _ _ _=>all2 fun _ _=>rfl
 have PM:=LK.fn;have Vk:=PM.binds (ps:=Rb) fun _ _ _ _ _ _=>all1 fun _=>rfl
 have PN:=LM.fn;have Vl:=PN.binds (ps:=Rc) fun _ _ _ _ _ _=>all1 fun _=>rfl
 have JH:=Jl.fn;have RJ:=JH.binds (ps:=N5) fun _ _ _ _ _ _=>all1 fun _=>rfl
 have RK:=kz (st:=(top 12)) Pg Ph LN;have Vm:=RK.binds (ps:=Rg) fun _ _ _ _ _ _=>all2 fun _ _=>rfl
 have PQ:=LO.fn;have Vn:=PQ.binds (ps:=Rj) fun _ _ _ _ _ _=>all2 fun _ _=>rfl
 have PR:=LP.fn;have Vo:=PR.binds (ps:=Rk) fun _ _ _ _ _ _=>all2 fun _ _=>rfl
 have PU:=LQ.fn;have Vp:=PU.binds (ps:=Rm) fun _ _ _ _ _ _=>all2 fun _ _=>rfl
 have PV:=LS.fn;have Vq:=PV.binds (ps:=Ro) fun _ _ _ _ _ _=>Ao fun _ _ _=>rfl
 have EO:=Bc.fn;have PX:=EO.binds (ps:=II) fun _ _ _ _ _ _=>all2 fun _ _=>rfl
 have ER:=Bd.fn;have PY:=ER.binds (ps:=IK) fun _ _ _ _ _ _=>all1 fun _=>rfl
 have ES:=Be.fn;have PZ:=ES.binds (ps:=IP) fun _ _ _ _ _ _=>Ao fun _ _ _=>rfl
 have ET:=Bf.fn;have P0:=ET.binds (ps:=IS) fun _ _ _ _ _ _=>all1 fun _=>rfl
 have EU:=Bg.fn;have P1:=EU.binds (ps:=IU) fun _ _ _ _ _ _=>all2 fun _ _=>rfl
 have EV:=Bh.fn;have P2:=EV.binds (ps:=IW) fun _ _ _ _ _ _=>all2 fun _ _=>rfl
 have EW:=Bi.fn;have P4:=EW.binds (ps:=IY) fun _ _ _ _ _ _=>all2 fun _ _=>rfl
 have JI:=kz (st:=(top 28)) EF EG Bj;have P5:=JI.binds (ps:=IZ) fun _ _ _ _ _ _=>all1 fun _=>rfl
 have EX:=Bk.fn;have P6:=EX.binds (ps:=Ja) fun _ _ _ _ _ _=>all2 fun _ _=>rfl
 have EY:=Bl.fn;have P7:=EY.binds (ps:=Jc) fun _ _ _ _ _ _=>all1 fun _=>rfl
 have EZ:=Bm.fn;have P8:=EZ.binds (ps:=Je) fun _ _ _ _ _ _=>all1 fun _=>rfl
 have P9:=kz (st:=(top 32)) EK EL EN;refine⟨PySem.W.fnOf "law" "law" (cj (top 32)) (aV (top 32)) (af (top 32)) .none B3 B4 B5 B2 yv B6,fun s v=>.of_eq rfl,fun base _ _ => ?_⟩
 have V0:bJ P w K mg base ({}:aY) 0:=bJ.start (wX X G nb);have V1:=V0.An (x:="DEEPEST") (d:=.int 8) (v:=.int 8) (PySem.W.mg_of X G z0) ⟨_,rfl⟩ rfl;have Y0:bJ P w K mg base Ls 0:=V1;have q0:=bQ Y0 E0 TR TU;have Y1:bJ P w K mg base NX 1:=(Y0.mono (Nat.le_succ 0)).l6 (x:="_law_cell") (PySem.W.mg_of X G a0.ns) E0.kp b0 (j4 q0) (Nat.le_refl _);have q1:=bQ Y1 E1 TX TY;have Y2:bJ P w K mg base NY 2:=(Y1.mono (Nat.le_succ 1)).l6 (x:="_law_mix") (PySem.W.mg_of X G a1.ns) E1.kp b1 (j4 q1) (Nat.le_refl _);have q2:=bQ Y2 E2 TZ T3;have Y3:bJ P w K mg base NZ 3:=(Y2.mono (Nat.le_succ 2)).l6 (x:="_law_whole") (PySem.W.mg_of X G a2.ns) E2.kp b2 (j4 q2) (Nat.le_refl _);have q3:=bQ Y3 E3 T5 T6;have Y4:bJ P w K mg base Q2 4:=(Y3.mono (Nat.le_succ 3)).l6 (x:="is_whole") (PySem.W.mg_of X G a3.ns) E3.kp b3 (j4 q3) (Nat.le_refl _);have X0:bJ P w K mg base U0 4:=Y4;have wA:=V1.b9 (x:="own_copy") (PySem.W.mg_of X G Ft) EC PJ Dz;have rA:=oA wA PH N1 (N2 _);have wB:=(V1.mono (Nat.le_succ 0)).b9 (x:="own_copy") (PySem.W.mg_of X G Ft) EC PJ rA;have Vr:=oA wB PH N1 (N2 _);have wC:=(V1.mono (by decide:0<=2)).b9 (x:="own_copy") (PySem.W.mg_of X G Ft) EC PJ Vr
 have r0:cp P w K mg base eG 4 Jk _ Ba (c7 (bx mg) O0):=oA wC PH N1 (N2 _);have X1:bJ P w K mg base U1 5:=X0.mono (Nat.le_succ 4);have r1:=bQ X1 PL T9 T_;have X2:bJ P w K mg base U2 6:=X1.b9 (PySem.W.mg_of X G LJ.ns) PL.kp Vj r1;have r2:=bQ X2 PM Ua Ub;have X3:bJ P w K mg base U3 7:=X2.b9 (PySem.W.mg_of X G LK.ns) PM.kp Vk r2;have r3:=oC X3 PN Uc Ud (fun X G _ st c h=>qf G st c h)
 have X4:bJ P w K mg base U4 8:=X3.b9 (PySem.W.mg_of X G LM.ns) PN.kp Vl r3;have Vs:bJ P w K mg base T4 8:=X4.toXt;have r4:cp P w K mg base (jU P w) 11 RG _ N5 (mU (bx mg) O4):=AE Vs rfl ⟨JH.ex,JH.kp⟩ Ue Ug (fun cdv A outer s H E hr G' st' c' h=>rL XD hr (PySem.W.mg_of X G aC) rfl G' (OL X4 (r0.mono (by decide)) PK (PySem.W.mg_of X G Ft) EC) st' c' h)
 have X5:bJ P w K mg base U5 12:=X4.mono (by decide:8<=12)
 have r5:=p9 (nm:=none) (cn:="Ring") (fld:="steps") (i:=0) (cb:=yD O4) (hnd:=yC) (R:=fun _ H Q=>Q (.bl false) H) X5 RK rfl Rh rfl Uh (PySem.W.mg_of X G aC) XC ⟨i1,i2,i3,i4⟩ (PySem.W.mg_of X G aC) Bn rfl (fun _ h=>nomatch h) (fun _ h=>nomatch h) rfl
  (fun A outer s H E xe E' hr G' AF=>BQ (j:=0) (i:=2) (y:="order") G' (r4.mono (by decide)) rfl (PySem.W.mg_of X G Jl.ns) JH.kp RJ AF rfl rfl (dP Rh).nd rfl rfl)
  D6 (fun X e d oe _ _ _ _ _=>⟨_,rY (qA Br),fun D σ H v _ _ h=>h⟩) (fun α Z Ω H d v r av Q S r1 hq k=>by
   simp only[yC,kg]at hq;cases hq;exact k _ H α Z (cg.refl S.has) S (ba rfl))
 have X6:bJ P w K mg base U6 13:=X5.b9 (PySem.W.mg_of X G Pf) LN Vm r5;have r6:=bQ X6 PQ Ui Uj;have X7:bJ P w K mg base U7 14:=X6.b9 (PySem.W.mg_of X G LO.ns) PQ.kp Vn r6;have r7:=oC X7 PR Uk Ul (fun X G _ st c h=>xY G st c h)
 have X8:bJ P w K mg base U8 15:=X7.b9 (PySem.W.mg_of X G LP.ns) PR.kp Vo r7;have r8:=bQ X8 PU Um Uo;have X9:bJ P w K mg base U9 16:=X8.b9 (PySem.W.mg_of X G LQ.ns) PU.kp Vp r8;have r9:=bQ X9 PV Up Uq;have RL:bJ P w K mg base N7 17:=X9.b9 (PySem.W.mg_of X G LS.ns) PV.kp Vq r9;have r10:=bQ RL EO N9 N_;have RM:bJ P w K mg base N8 18:=RL.b9 (PySem.W.mg_of X G Bc.ns) EO.kp PX r10;have r11:=bQ RM ER Ob Oc;have RN:bJ P w K mg base Oa 19:=RM.b9 (PySem.W.mg_of X G Bd.ns) ER.kp PY r11;have r12:=bQ RN ES Oe Of;have RO:bJ P w K mg base Od 20:=RN.b9 (PySem.W.mg_of X G Be.ns) ES.kp PZ r12;have r13:=bQ RO ET Oh Oi;have RP:bJ P w K mg base Og 21:=RO.b9 (PySem.W.mg_of X G Bf.ns) ET.kp P0 r13;have r14:=bQ RP EU Ol Om;have RQ:bJ P w K mg base Oj 22:=RP.b9 (PySem.W.mg_of X G Bg.ns) EU.kp P1 r14;have r15:=bQ RQ EV Oq Ot;have RR:bJ P w K mg base Oo 23:=RQ.b9 (PySem.W.mg_of X G Bh.ns) EV.kp P2 r15;have r16:=bQ RR EW Ov Ow;have RT:bJ P w K mg base Ou 24:=RR.b9 (PySem.W.mg_of X G Bi.ns) EW.kp P4 r16
 have r17:=p9 (nm:=some "e") (cn:="Ring") (fld:="steps") (i:=2) (cb:=cbT O4) (hnd:=hdT) (R:=fun v H Q=>∀ p,H p=none->Q (.ref p) (upd H p (.tup [.str "ring",v]))) RT JI rfl I_ rfl Oy (PySem.W.mg_of X G aC) XC ⟨i1,i2,i3,i4⟩ (PySem.W.mg_of X G aC) Bn rfl (fun _ h=>by cases h;rfl) (fun _ h=>by cases h;rfl) rfl
  (fun A outer s H E xe E' hr G' AF=>BQ (j:=0) (i:=1) (y:="_law_found") G' (r4.mono (by decide)) rfl (PySem.W.mg_of X G Jl.ns) JH.kp RJ AF rfl rfl (dP I_).nd rfl rfl)
  El (Jj LU) (fun α Z Ω H d v r av Q S r1 hq k=>by
   simp only[hdT,kg]at hq;cases hq;exact gF (Φ:=jk) (ds:=[.str "ring",d]) S (.cons (by simp only[aw]) (.one r1)) (fun v' H' α' Z' g s r=>k v' H' α' Z' g s r))
 have RU:bJ P w K mg base LD 25:=RT.b9 (PySem.W.mg_of X G EE) Bj P5 r17;have r18:=oC RU EX OB OD (fun X G _ st c h=>qf G st c h)
 have RV:bJ P w K mg base OA 26:=RU.b9 (PySem.W.mg_of X G Bk.ns) EX.kp P6 r18;have r19:=bQ RV EY OF OG;have RW:bJ P w K mg base OE 27:=RV.b9 (PySem.W.mg_of X G Bl.ns) EY.kp P7 r19;have r20:=bQ RW EZ OH OI;have Vt:bJ P w K mg base RB 28:=RW.b9 (PySem.W.mg_of X G Bm.ns) EZ.kp P8 r20;have r21:=bQ Vt P9 OJ OK;exact r21
theorem walk{l:PySem.W.OpenLaw}{q:Program}{loose:List Str}{XP:(Str->Option Value)->Heap->Prop}{YP:World->Heap->Prop}{d:DefRec}{K:Params->PySem.W.Frag}(hn:l.most=some 63)(hdf:d.params.defaults=[])
  (hY:∀ (w:World) (h:Heap),YP w h->(K w.params).In h) (hK:∀ pm,pC (K pm)=true)
  (F:∀ (w:World) (mg:Str->Option Value) (fa:Addr) (h:Heap),(K w.params).In h->h.Ns mainGlobals mg->mg d.name=some (.ref fa) ->
   ∃ fd:FuncData,(∀ (s:Shared) (u:Value),BindsTo s fd ⟨[u],[]⟩ [("_law_script",u)])/\∀ base:Heap,(K w.params).In base->base.Ns mainGlobals mg->cp l.prog w (K w.params) mg base eG 29 fa fd Eu (c7 (bx mg) Jg)) :
  PySem.W.WalkO q loose XP YP l.row.toRowW d [] (fun f vs=>PySem.call f vs):=
 L2.y6 (n:=63) (k:=29) (x:="_law_script") (CX:=fun _=>eG) (sp:=fun w=>GX Jg) hn (by decide) hdf ⟨rfl,by decide,by decide⟩ hY (fun w mg fa h a b c=>let ⟨fd,q1,q2⟩:=F w mg fa h a b c;⟨fd,q1,fun base d e=>(q2 base d e).imp fun vs H Q E z=>z (bx mg)⟩) (fun w H a ns hl _ hS κ=>Am (Gx (hK w.params) hS) (yu ns hl).choose_spec) fun _ _ _ _ _ z=>z
end vf
def PySem.W.Fast.tw11208425283392562751:Nat:=0
theorem PySem.W.Fast.te11208425283392562751:PySem.W.Fast.tw11208425283392562751=0:=rfl
open PySem PySem.W PyProof.Rows
set_option maxRecDepth 100000 in
set_option maxHeartbeats 0 in
theorem PySem.Challenge.cw_taglook_k14_whole_order_or_ring_holds : PySem.Challenge.rw_taglook_k14_whole_order_or_ring.Holds := by
 w_on;o_law;k_head;(case hw=>w_witness2)
 k_fill
 refine vf.walk (l:=PySem.Challenge.rw_taglook_k14_whole_order_or_ring) rfl rfl (fun w h Y=>PySem.W.kIn_of Y) ?hK ?F
 case hK=>intro pm;exact(Eq.refl true)
 case F=>
  intro w mg fa h KX G hmg;refine' vf.all_mk KX G hmg ?nb ?z0 ?a0 ?a1 ?a2 ?a3 ?Ft ?OQ ?OS ?EC ?LH ?LI ?LJ ?LK ?LM ?Jl ?Pf ?Pg ?Ph ?LN ?LO ?LP ?LQ ?LS ?Bc ?Bd ?Be ?Bf ?Bg ?Bh ?Bi ?EE ?EF ?EG ?Bj ?Bk ?Bl ?Bm ?EJ ?EK ?EL ?EN ?aC ?lC ?nC ?tC ?x1 ?x2 ?x3 ?x4 ?x5 ?PF ?x5c ?x6 ?x7 ?x8 ?x9 ?lI ?yI ?wI ?LU ?aB ?gB ?rB ?iB ?i1 ?i2 ?i3 ?i4 ?Bn
  (case nb=>exact(Eq.refl true))
  (case z0=>k_is)
  (case a0 | a1 | a2 | a3=>refine' Mir.iY ?a ?l ?c ?k;(case a=>k_is);(case l=>k_is);(case c=>k_is);(case k=>k_is))
  (case Ft | OQ | OS | EC | LH=>k_is)
  (case LI=>exact rfl)
  (case LJ | LK | LM | Jl=>refine' Mir.iY ?a ?l ?c ?k;(case a=>k_is);(case l=>k_is);(case c=>k_is);(case k=>k_is))
  (case Pf | Pg | Ph | LN=>k_is)
  (case LO | LP | LQ | LS | Bc | Bd | Be | Bf | Bg | Bh | Bi=>refine' Mir.iY ?a ?l ?c ?k;(case a=>k_is);(case l=>k_is);(case c=>k_is);(case k=>k_is))
  (case EE | EF | EG | Bj=>k_is)
  (case Bk | Bl | Bm=>refine' Mir.iY ?a ?l ?c ?k;(case a=>k_is);(case l=>k_is);(case c=>k_is);(case k=>k_is))
  (case EJ | EK | EL | EN | aC | lC | nC=>k_is)
  (case tC=>exact(Eq.refl true))
  (case x1=>k_is)
  (case x2 | x3=>exact rfl)
  (case x4 | x5 | PF | x5c | x6=>k_is)
  (case x7=>exact rfl)
  (case x8 | x9 | lI | yI | wI | LU | aB | gB | rB | iB | i1 | i2 | i3 | i4=>k_is)
  (case Bn=>exact(Eq.refl (some true)))
