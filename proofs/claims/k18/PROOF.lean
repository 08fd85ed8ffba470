import PyProof.Rows.All
import Wide.All
import OpenK.AllK
import Wide.FinOn
import Lean
import PyProof.EqAt
import PyProof.EqKinds
import PyProof.TupleCall
import PyProof.ExcClass3
import PyProof.ExcAttrAll.ValueError
import KE.KIsAll
import PyProof.ExcBaseAll.ValueError
import PyProof.RulesAs
import KE.KTryMore
import PyProof.EnumFor
import PyProof.EnumMake
import PyProof.EnumStmt
import PyProof.Rows.EnumRows
import PyProof.RulesTry
import PyProof.Rows.StrWeight2
import PyProof.AutoListH
import PyProof.ListRange
import PyProof.ListCopy
import PyProof.Rows.FactsT1
import PyProof.Rows.FactsT2
import PyProof.Rows.SetFrom
import PyProof.SetRoads
import PyProof.Draws
import PyProof.Rows.SortStr
import PyProof.Rows.SortShell
import PyProof.Rows.SortWalk
import PyProof.Rows.StrMeet
import PyProof.FitsReplace
import PySem.Challenge.RW_taglook_k18_other_names_other_orders
set_option Elab.async false
set_option bootstrap.genMatcherCode false
set_option genSizeOfSpec false
set_option linter.all false
set_option maxRecDepth 100000
set_option maxHeartbeats 4000000
noncomputable section
namespace L2
open PySem PySem.Spec PyProof.Rows
abbrev Key:=Sum Int Str
noncomputable def AN:Key->Value->Bool
 | .inl k,v=>Value.isInt k v
 | .inr x,v=>Value.isStrOf x v
noncomputable def J7(w:World):Key->Int
 | .inl k=>hashInt k
 | .inr x=>hashStr w x
theorem bO:∀ {k:Key} {v:Value},AN k v=true->(∃ i t,k=Sum.inl i/\v=Value.int i t)\/(∃ x t,k=Sum.inr x/\v=Value.str x t)
 | .inl i,v,h=>by
  obtain⟨t,e⟩:=Value.isInt_shape (k:=i) (v:=v) h;exact .inl ⟨i,t,rfl,e⟩
 | .inr x,v,h=>by
  obtain⟨t,e⟩:=Value.isStrOf_shape (x:=x) (v:=v) h;exact .inr ⟨x,t,rfl,e⟩
theorem Bq(a b:Int):decide ((Sum.inl a:Key)=Sum.inl b)=(a == b):=by
 by_cases e:a=b
 ·subst e;simp
 ·have h:¬ (Sum.inl a:Key)=Sum.inl b:=fun q=>e (Sum.inl.inj q)
  rw[decide_eq_false h];exact(beq_eq_false_iff_ne.mpr e).symm
theorem Br(a b:Str):decide ((Sum.inr a:Key)=Sum.inr b)=decide (a=b):=by
 by_cases e:a=b
 ·subst e;simp
 ·have h:¬ (Sum.inr a:Key)=Sum.inr b:=fun q=>e (Sum.inr.inj q)
  rw[decide_eq_false h,decide_eq_false e]
theorem Bs(a:Int)(b:Str):decide ((Sum.inl a:Key)=Sum.inr b)=false:=decide_eq_false (fun q=>nomatch q)
theorem Bt(a:Str)(b:Int):decide ((Sum.inr a:Key)=Sum.inl b)=false:=decide_eq_false (fun q=>nomatch q)
def mq(prog:Program)(w:World):PySem.KeyKind prog w Key where
 is:=AN
 hash:=J7 w
 inj:=fun v a b ha hb=>by
  rcases bO ha with ⟨i,t,rfl,rfl⟩ | ⟨x,t,rfl,rfl⟩
  ·rcases bO hb with ⟨j,u,rfl,e⟩ | ⟨y,u,rfl,e⟩
   ·injection e with e1 _;rw[e1]
   ·exact nomatch e
  ·rcases bO hb with ⟨j,u,rfl,e⟩ | ⟨y,u,rfl,e⟩
   ·exact nomatch e
   ·injection e with e1 _;rw[e1]
 byValue:=fun k v h=>by
  rcases bO h with ⟨i,t,rfl,rfl⟩ | ⟨x,t,rfl,rfl⟩<;>rfl
 pyHash:=fun hv h=>by
  rcases bO hv with ⟨i,t,rfl,rfl⟩ | ⟨x,t,rfl,rfl⟩
  ·exact wpAny_pyHash_int h
  ·exact wpAny_pyHash_str h
 eqBool:=fun hu hv h=>by
  rcases bO hu with ⟨i,t,rfl,rfl⟩ | ⟨x,t,rfl,rfl⟩
  ·rcases bO hv with ⟨j,u,rfl,rfl⟩ | ⟨y,u,rfl,rfl⟩
   ·rw[Bq]at h;exact wpAny_eqBool_int h
   ·rw[Bs]at h;exact SeqAt.EqAt.int_str i t y u _ _ _ _ h
  ·rcases bO hv with ⟨j,u,rfl,rfl⟩ | ⟨y,u,rfl,rfl⟩
   ·rw[Bt]at h;exact SeqAt.EqAt.str_int x t j u _ _ _ _ h
   ·rw[Br]at h;exact wpAny_eqBool_str h
 «strs» := fun k x t v h=>by
  rcases bO h with ⟨i,u,rfl,e⟩ | ⟨y,u,rfl,e⟩
  ·exact nomatch e
  ·injection e with e1 _
   subst e1;cases v<;>rfl
inductive V where
 | non | bl (b:Bool) | int (i:Int) | str (x:Str) | D3 (b:Array UInt8) | flt (b:UInt64) | ref (a:Addr) | ty (n:String)
 deriving DecidableEq
def RelV:V->Value->Prop
 | .non,u=>u=Value.none
 | .bl b,u=>u=Value.bool b
 | .int i,u=>∃ t,u=Value.int i t
 | .str x,u=>∃ t,u=Value.str x t
 | .D3 b,u=>∃ t,u=Value.bytes b t
 | .flt b,u=>∃ t,u=Value.float b t
 | .ref a,u=>u=Value.ref a
 | .ty n,u=>u=Value.type n
abbrev Vals:List V->List Value->Prop:=Paired RelV
theorem Vals.length{xs:List V}{us:List Value}(r:Vals xs us):xs.length=us.length:=Paired.length r
theorem Vals.get:∀ {xs:List V} {us:List Value} {i:Nat} {x:V},Vals xs us->xs[i]?=some x->∃ u,us[i]?=some u/\RelV x u
 | _,_,_,_,.nil,e=>by simp at e
 | _,_,0,_,.cons r _,e=>by simp at e;subst e;exact⟨_,rfl,r⟩
 | _,_,i + 1,x,.cons _ t,e=>by
  obtain⟨u,h1,h2⟩:=Vals.get (i:=i) (x:=x) t (by simpa using e)
  exact⟨u,by simpa using h1,h2⟩
theorem Vals.append:∀ {xs ys:List V} {us ws:List Value},Vals xs us->Vals ys ws->Vals (xs++ys) (us++ws)
 | _,_,_,_,.nil,s=>s
 | _,_,_,_,.cons r t,s=>.cons r (Vals.append t s)
theorem Vals.take:∀ {xs:List V} {us:List Value} (n:Nat),Vals xs us->Vals (xs.take n) (us.take n)
 | _,_,0,_=>.nil
 | _,_,_ + 1,.nil=>.nil
 | _,_,n + 1,.cons r t=>.cons r (Vals.take n t)
theorem Vals.drop:∀ {xs:List V} {us:List Value} (n:Nat),Vals xs us->Vals (xs.drop n) (us.drop n)
 | _,_,0,r=>r
 | _,_,_ + 1,.nil=>.nil
 | _,_,n + 1,.cons _ t=>Vals.drop n t
def mr:Option V->Option Value->Prop
 | some v,some u=>RelV v u
 | none,none=>True
 | _,_=>False
def KV{κ:Type}:List (κ×V)->List (κ×Value)->Prop:=Paired fun (p:κ×V) (q:κ×Value)=>p.1=q.1/\RelV p.2 q.2
noncomputable def kV:Key->V
 | .inl i=>.int i
 | .inr x=>.str x
inductive HO where
 | lst (xs:List V)
 | tup (xs:List V)
 | dK (kvs:List (Key×V)) | dT (kvs:List (List Key×V))
 | set (S:Int->Bool) (n:Nat)
 | ins (C dx:Addr) (fs:List (Str×V))
 | own (x:Addr)
 | xd (fs:List (Str×V))
 | met (f x:Addr)
 | J8 (lo hi:Int)
 | jn (o:Obj) (u:HO)
 | Bu (ps:Array Value)
 | ext (φ:Heap->Prop)
abbrev Hp:=Addr->Option HO
noncomputable def upd(H:Hp)(a:Addr)(o:HO):Hp:=fun b=>if b=a then some o else H b
theorem bo{H:Hp}{a:Addr}{o:HO}:upd H a o a=some o:=by unfold upd;rw[if_pos rfl]
theorem aG{H:Hp}{a b:Addr}{o:HO}(h:b≠a):upd H a o b=H b:=by unfold upd;rw[if_neg h]
theorem bb{H:Hp}{a b:Addr}{o:HO}(h:H a=some o)(h':H b=none):a≠b:=by
 intro e;subst e;rw[h]at h';cases h'
section
variable(P:Program)(w:World)
def cm(H:Hp)(h:Heap)(a:Addr):HO->Prop
 | .lst xs=>xs.length<=sizeLine/\∃ (its:List Value) (n:Nat),Vals xs its/\h.get? a=some { cls:=.type "list",data:=.seq its.toArray n }
 | .tup xs=>xs.length<=sizeLine/\∃ its:List Value,Vals xs its/\IsTup h a its.toArray
 | .dK kvs=>kvs.length<=sizeLine/\(a == sysModules)=false/\∃ vs,KV kvs vs/\h.DictOf (mq P w) a vs
 | .dT kvs=>kvs.length<=sizeLine/\(a == sysModules)=false/\∃ xs:List (List Key×Addr×Value),
   Paired (fun (p:List Key×V) (q:List Key×Addr×Value)=>p.1=q.1/\H q.2.1=some (.tup (p.1.map kV))/\RelV p.2 q.2.2) kvs xs /\
   ∃ o es ep,h.get? a=some o/\o.ExactDict/\o.data=.dict es ep/\es.toList=xs.map (entryOfKey (tupleKind (mq P w)))/\(xs.map (·.1)).Nodup
 | .set S n=>h.SetOf (intKind P w) a S n
 | .ins C dx fs=>H dx=some (.own a)/\fs.length<=1000/\dx≠a/\h.get? a=some (PySem.W.instObj C dx) /\
   ∃ mA,h.Ns1 dx mA/\(∀ f,mr (fs.lookup f) (mA f))/\PySem.Within mA (fs.map (·.1))
 | .own _=>∃ o,h.get? a=some o
 | .xd fs=>∃ mA,h.Ns1 a mA/\∀ f,mr (fs.lookup f) (mA f)
 | .J8 lo hi=>∃ t u v,h.get? a=some { cls:=.type "range",data:=.fields #[.int lo t,.int hi u,.int 1 v] }
 | .jn o u=>h.get? a=some o/\cm H h a u
 | .Bu ps=>h.get? a=some { cls:=.none,data:=.fields ps }
 | .met f x=>h.get? a=some (PySem.W.methodObj (.ref f) (.ref x))
 | .ext φ=>φ h/\(∃ o,h.get? a=some o)/\∀ h1 h2:Heap,φ h1->(∀ o,h1.get? a=some o->h2.get? a=some o)->φ h2
def i6(H:Hp)(h:Heap):Prop:=∀ a o,H a=some o->cm P w H h a o
end
section
variable{P:Program}{w:World}{H H':Hp}{h h':Heap}{a:Addr}{o:HO}
theorem cm.lt(x:cm P w H h a o):a < h.objs.size:=by
 cases o with
 | lst xs=>obtain⟨_,_,_,_,e⟩:=x;exact Heap.lt_size e
 | tup xs=>obtain⟨_,_,_,p⟩:=x;exact p.lt
 | dK kvs=>obtain⟨_,_,_,_,o,_,_,e,_⟩:=x;exact Heap.lt_size e
 | dT kvs=>obtain⟨_,_,_,_,o,_,_,e,_⟩:=x;exact Heap.lt_size e
 | set S n=>obtain⟨o,_,_,_,e,_⟩:=x;exact Heap.lt_size e
 | ins C dx fs=>obtain⟨_,_,_,e,_⟩:=x;exact Heap.lt_size e
 | own y=>obtain⟨_,e⟩:=x;exact Heap.lt_size e
 | xd fs=>obtain⟨_,⟨_,_,_,e,_⟩,_⟩:=x;exact Heap.lt_size e
 | J8 lo hi=>obtain⟨_,_,_,e⟩:=x;exact Heap.lt_size e
 | jn ob u=>obtain⟨e,_⟩:=x;exact Heap.lt_size e
 | Bu ps=>exact Heap.lt_size (show h.get? a=some _ from x)
 | met f y=>exact Heap.lt_size (show h.get? a=some _ from x)
 | ext φ=>obtain⟨_,⟨_,e⟩,_⟩:=x;exact Heap.lt_size e
theorem Paired.Es{α β:Type}{F G:α->β->Prop}:∀ {l₁:List α} {l₂:List β},Paired F l₁ l₂->(∀ a b,F a b->G a b)->Paired G l₁ l₂
 | _,_,.nil,_=>.nil
 | _,_,.cons r t,f=>.cons (f _ _ r) (Paired.Es t f)
theorem cm.stay(x:cm P w H h a o)(k:∀ b u,(b=a\/H b=some (.own a))->h.get? b=some u->h'.get? b=some u)
  (ho:∀ b,H b=some (.own a)->H' b=some (.own a)) (ht:∀ b xs,H b=some (.tup xs)->H' b=some (.tup xs)):cm P w H' h' a o:=by
 induction o with
 | lst xs=>obtain⟨z,its,n,r,e⟩:=x;exact⟨z,its,n,r,k _ _ (.inl rfl) e⟩
 | tup xs=>obtain⟨z,its,r,ob,e,c⟩:=x;exact⟨z,its,r,ob,k _ _ (.inl rfl) e,c⟩
 | dK kvs=>obtain⟨z,y,vs,r,ob,es,ep,e,c⟩:=x;exact⟨z,y,vs,r,ob,es,ep,k _ _ (.inl rfl) e,c⟩
 | dT kvs=>
  obtain⟨z,y,xs,r,ob,es,ep,e,c⟩:=x;exact⟨z,y,xs,Paired.Es r fun p q z=>⟨z.1,ht _ _ z.2.1,z.2.2⟩,ob,es,ep,k _ _ (.inl rfl) e,c⟩
 | set S n=>obtain⟨ob,es,ep,t,e,c⟩:=x;exact⟨ob,es,ep,t,k _ _ (.inl rfl) e,c⟩
 | ins C dx fs=>
  obtain⟨d,z,ne,e,mA,⟨od,es,ep,e2,c⟩,r⟩:=x;exact⟨ho _ d,z,ne,k _ _ (.inl rfl) e,mA,⟨od,es,ep,k _ _ (.inr d) e2,c⟩,r⟩
 | own y=>obtain⟨ob,e⟩:=x;exact⟨ob,k _ _ (.inl rfl) e⟩
 | xd fs=>obtain⟨mA,⟨od,es,ep,e,c⟩,r⟩:=x;exact⟨mA,⟨od,es,ep,k _ _ (.inl rfl) e,c⟩,r⟩
 | J8 lo hi=>obtain⟨t,u,v,e⟩:=x;exact⟨t,u,v,k _ _ (.inl rfl) e⟩
 | jn ob u ih=>obtain⟨e,q⟩:=x;exact⟨k _ _ (.inl rfl) e,ih q⟩
 | Bu ps=>
  have e:h.get? a=some { cls:=.none,data:=.fields ps }:=x
  show h'.get? a=some { cls:=.none,data:=.fields ps }
  exact k a _ (.inl rfl) e
 | met f y=>
  have e:h.get? a=some (PySem.W.methodObj (.ref f) (.ref y)):=x
  show h'.get? a=some (PySem.W.methodObj (.ref f) (.ref y))
  exact k a _ (.inl rfl) e
 | ext φ=>obtain⟨p,⟨o,e⟩,st⟩:=x;exact⟨st _ _ p fun o q=>k _ _ (.inl rfl) q,⟨o,k _ _ (.inl rfl) e⟩,st⟩
theorem i6.lt(x:i6 P w H h)(e:H a=some o):a < h.objs.size:=(x a o e).lt
theorem i6.fresh(x:i6 P w H h)(e:h.objs.size<=a):H a=none:=by
 cases q:H a with
 | none=>rfl
 | some u=>exact absurd (Nat.lt_of_lt_of_le (x.lt q) e) (Nat.lt_irrefl _)
theorem i6.kept(x:i6 P w H h)(k:∀ b u,h.get? b=some u->h'.get? b=some u):i6 P w H h':=fun a o e=>
 (x a o e).stay (fun b u _ q=>k b u q) (fun _ q=>q) fun _ _ q=>q
theorem i6.laid(x:i6 P w H h)(k:∀ b u,h.get? b=some u->h'.get? b=some u)(hp:h.objs.size<=a)(new:cm P w (upd H a o) h' a o):i6 P w (upd H a o) h':=fun b u e=>by
 have hn:=x.fresh hp
 by_cases hb:b=a
 ·subst hb;rw[bo]at e;cases e;exact new
 ·rw[aG hb]at e
  exact(x b u e).stay (fun c v _ q=>k c v q) (fun c q=>by rw[aG (bb q hn)];exact q) fun c xs q=>by rw[aG (bb q hn)];exact q
end
def Rd(H:Hp)(a:Addr)(u:HO):Prop:=H a=some u\/∃ o,H a=some (.jn o u)
theorem Rd.ok{P:Program}{w:World}{H:Hp}{h:Heap}{a:Addr}{u:HO}(r:Rd H a u)(x:i6 P w H h):cm P w H h a u:=by
 rcases r with r | ⟨o,r⟩
 ·exact x a u r
 ·obtain⟨_,q⟩:=x a _ r
  exact q
def HU:Option HO->Prop
 | some (.lst _)=>True
 | some (.dK _)=>True
 | some (.dT _)=>True
 | some (.set _ _)=>True
 | some (.ins _ _ _)=>True
 | some (.ext _)=>True
 | _=>False
section
variable{P:Program}{w:World}{H:Hp}{h h':Heap}{x e:Addr}{o':HO}
theorem i6.write(ok:i6 P w H h)(mu:HU (H x))(he:e=x\/H e=some (.own x))(k:∀ b u,b≠e->h.get? b=some u->h'.get? b=some u)(heo:∃ u,h'.get? e=some u)
  (new:cm P w (upd H x o') h' x o'):i6 P w (upd H x o') h':=fun b u q=>by
 have Et:∀ c y,H c=some (.own y)->c≠x:=fun c y r z=>by subst z;rw[r]at mu;exact mu
 have J9:∀ c xs,H c=some (.tup xs)->c≠x:=fun c xs r z=>by subst z;rw[r]at mu;exact mu
 by_cases hb:b=x
 ·subst hb;rw[bo]at q;cases q;exact new
 ·rw[aG hb]at q
  by_cases hbe:b=e
  ·have q':H b=some (.own x):=by
    rcases he with z | z
    ·exact absurd (hbe.trans z) hb
    ·rw[hbe];exact z
   rw[q]at q';cases q'
   obtain⟨v,hv⟩:=heo;exact⟨v,by rw[hbe];exact hv⟩
  ·refine(ok b u q).stay (fun c v hc r=>k c v ?_ r) (fun c r=>by rw[aG (Et c b r)];exact r) fun c xs r=>by rw[aG (J9 c xs r)];exact r
   rcases hc with rfl | hc
   ·exact hbe
   ·rintro rfl
    rcases he with z | z
    ·exact Et c b hc z
    ·rw[hc]at z;cases z;exact hb rfl
end
structure Un(fs ex:List Addr)(H H':Hp)(h h':Heap):Prop where
 keep:∀ b o,h.get? b=some o->H b=none->b∉fs->b∉ex->h'.get? b=some o
 slot:∀ b o,h.get? b=some o->H b=none->b∈fs->b∉ex->∃ sl,h'.get? b=some { o with slots:=sl }
 free:∀ b o,h.get? b=some o->H b=none->b∉ex->H' b=none
 there:∀ b o,h.get? b=some o->b∉ex->∃ o',h'.get? b=some o'
 tups:∀ b xs,H b=some (.tup xs)->H' b=some (.tup xs)
 g7:∀ b o u,H b=some (.jn o u)->H' b=some (.jn o u)
 jo:∀ b ps,H b=some (.Bu ps)->∃ more,H' b=some (.Bu (ps++more))
section
variable{fs fs' ex ex':List Addr}{H H1 H2:Hp}{h h1 h2 h':Heap}{a x e:Addr}{o:HO}
theorem Un.any(u:Un fs ex H H1 h h1){b:Addr}{ob:Obj}(q:h.get? b=some ob)(n:H b=none)(hx:b∉ex):∃ sl,h1.get? b=some { ob with slots:=sl }:=by
 by_cases hb:b∈fs
 ·exact u.slot b ob q n hb hx
 ·exact⟨ob.slots,u.keep b ob q n hb hx⟩
theorem Un.kept(k:∀ b u,h.get? b=some u->h'.get? b=some u):Un fs ex H H h h':=
 ⟨fun b ob q _ _ _=>k b ob q,fun b ob q _ _ _=>⟨ob.slots,k b ob q⟩,fun _ _ _ n _=>n,fun b ob q _=>⟨ob,k b ob q⟩,fun _ _ q=>q,fun _ _ _ q=>q,fun _ ps q=>⟨#[],by rw[q];simp⟩⟩
theorem Un.refl:Un fs ex H H h h:=Un.kept fun _ _ q=>q
theorem Un.laid(k:∀ b u,h.get? b=some u->h'.get? b=some u)(hp:h.objs.size<=a)(hn:H a=none):Un fs ex H (upd H a o) h h' where
 keep:=fun b u q _ _ _=>k b u q
 slot:=fun b u q _ _ _=>⟨u.slots,k b u q⟩
 free:=fun b u q n _=>by rw[aG (Nat.ne_of_lt (Nat.lt_of_lt_of_le (Heap.lt_size q) hp))];exact n
 there:=fun b u q _=>⟨u,k b u q⟩
 tups:=fun b xs q=>by rw[aG (bb q hn)];exact q
 g7:=fun b u xs q=>by rw[aG (bb q hn)];exact q
 jo:=fun b ps q=>⟨#[],by rw[aG (bb q hn),q];simp⟩
theorem Un.write(mu:HU (H x))(he:e=x\/H e=some (.own x))(k:∀ b u,b≠e->h.get? b=some u->h'.get? b=some u)(heo:∃ u,h'.get? e=some u):Un fs ex H (upd H x o) h h':=by
 have hx:∀ b,H b=none->b≠x:=fun b n z=>by subst z;rw[n]at mu;exact mu
 have hb:∀ b,H b=none->b≠e:=fun b n z=>by
  subst z;rcases he with r | r
  ·exact hx b n r
  ·rw[n]at r;cases r
 have hm:∀ b u,H b=some u->¬ HU (some u)->b≠x:=fun b u q nm z=>by subst z;rw[q]at mu;exact nm mu
 refine⟨fun b u q n _ _=>k b u (hb b n) q,fun b u q n _ _=>⟨u.slots,k b u (hb b n) q⟩,fun b u q n _=>by rw[aG (hx b n)];exact n,fun b u q _ => ?_,
  fun b xs q=>by rw[aG (hm b _ q fun z=>z)];exact q,fun b u xs q=>by rw[aG (hm b _ q fun z=>z)];exact q,fun b ps q=>⟨#[],by rw[aG (hm b _ q fun z=>z),q];simp⟩⟩
 by_cases hbe:b=e
 ·subst hbe;exact heo
 ·exact⟨u,k b u hbe q⟩
theorem Un.mono(u:Un fs ex H H1 h h1)(hs:∀ b∈fs,b∈fs')(hx:∀ b∈ex,b∈ex'):Un fs' ex' H H1 h h1:=
 ⟨fun b ob q n hb he=>u.keep b ob q n (fun z=>hb (hs b z)) fun z=>he (hx b z),fun _ _ q n _ he=>u.any q n fun z=>he (hx _ z),fun b ob q n he=>u.free b ob q n fun z=>he (hx b z),fun b ob q he=>u.there b ob q fun z=>he (hx b z),u.tups,u.g7,u.jo⟩
end
noncomputable def HV(h:Heap)(H:Hp):List Addr:=(List.range h.objs.size).filter fun a=>(H a).isSome
def mw(h:Heap)(H:Hp):Heap:=PySem.W.hideAll h (HV h H)
theorem tf(h:Heap)(H:Hp):(mw h H).objs.size=h.objs.size:=PySem.W.hideAll_size _ _
theorem uH{h:Heap}{H:Hp}{b:Addr}{o:Obj}(e:h.get? b=some o)(n:H b=none):(mw h H).get? b=some o:=
 PySem.W.hideAll_get _ e fun hm=>by
  have q:(H b).isSome=true:=(List.mem_filter.mp hm).2;rw[n]at q;simp at q
theorem ya{h:Heap}{H:Hp}{b:Addr}{o:Obj}(e:(mw h H).get? b=some o):h.get? b=some o/\H b=none:=by
 have e':h.get? b=some o:=PySem.W.of_hideAll (HV h H) e;refine⟨e',?_⟩;cases q:H b with
 | none=>rfl
 | some x=>
  have hm:b∈HV h H:=List.mem_filter.mpr ⟨List.mem_range.mpr (Heap.lt_size e'),by simp[q]⟩
  have z:(mw h H).get? b=none:=PySem.W.hideAll_none (HV h H) hm;rw[z]at e;cases e
noncomputable def yb(g h:Heap)(L:Addr):List (Addr×Obj):=(List.range h.objs.size).filterMap fun a=>if a=L\/(g.get? a).isSome=true then none else (h.get? a).map fun o=>(a,o)
def rest(g h:Heap)(L d:Addr):List (Addr×Obj):=(yb g h L).filter fun p=>decide (p.1≠d)
structure Mod(K:PySem.W.Frag)(mg:Str->Option Value)(base:Heap):Prop where
 D4:K.In base
 glob:base.Ns mainGlobals mg
 blt:∃ mb,base.Ns builtinsNs mb/\∀ x:Str,x≠"__name__"->mb x=bootBuiltins x
 nolimit:base.NoLimit
structure Cx where
 prog:Program
 w:World
 K:PySem.W.Frag
 mg:Str->Option Value
 base:Heap
 A:Around
 N:List Str
 s₀:Shared
 H₀:Hp
 env:Env
 outer:List Env
 stack:List Env
 ex:List Addr
 fn:Str->Bool
 calm:Bool
 pn:List (Addr×Obj)
 xe:Value->Shared->Prop
noncomputable def frs(l:List Env):List Addr:=l.filterMap (·.frame)
abbrev Cx.fs(X:Cx):List Addr:=frs X.outer
def xV(sc:Scope)(x:Str):Prop:=sc.names.lookup x=some .local\/sc.names.lookup x=some .cell\/sc.names.lookup x=some .free
def Loc(sc:Scope)(x:Str):Prop:=sc.names.lookup x=some .local\/sc.names.lookup x=some .cell
def Look(env:Env)(h:Heap)(m:Str->Option Value)(x:Str)(u:Value):Prop:=
 (env.kindOf x=some .local/\m x=some u)\/((env.kindOf x=some .cell\/env.kindOf x=some .free)/\∃ c,env.cells.lookup x=some c/\h.IsCell c (some u))
structure Cx.Ok(X:Cx):Prop where
 mod:Mod X.K X.mg X.base
 kind:X.env.scope.kind=.function
 glob:X.env.globals=mainGlobals
 blt:X.env.builtins=builtinsNs
 above:X.s₀.heap.objs.size<=X.env.locals
 inj:∀ x y c,X.env.cells.lookup x=some c->X.env.cells.lookup y=some c->x=y
 has:∀ x,(X.env.kindOf x=some .cell\/X.env.kindOf x=some .free)->∃ c,X.env.cells.lookup x=some c
 cab:∀ x c,X.fn x=true->X.env.cells.lookup x=some c->X.s₀.heap.objs.size<=c
 hd:X.calm=true->X.A.handled=none
 frames:X.A.frames=some X.stack
 AO:X.stack=X.outer\/(X.stack=X.env::X.outer/\X.env.frame=some X.env.locals)
 Bv:∀ b∈X.ex,b≠X.env.locals/\∀ x c,X.env.cells.lookup x=some c->c≠b
 bs:∀ b o,X.base.get? b=some o->X.s₀.heap.get? b=some o/\X.H₀ b=none
 ti:X.base.objs.size<=X.s₀.heap.objs.size
 nV:∀ b o,X.base.get? b=some o->b∉X.ex
 nW:∀ b∈X.ex,b∉X.fs
 fW:X.s₀.heap.FunFrames X.base X.outer
 uI:∀ b∈X.fs,X.H₀ b=none
structure Inv(X:Cx)(pins:List (Addr×Obj))(σ:List (Option V))(H:Hp)(s:Shared):Prop where
 ok:X.Ok
 os:s.os=X.s₀.os
 bare:AllBare s.gens
 base:Un X.fs X.ex X.H₀ H X.s₀.heap s.heap
 loc:∃ m,s.heap.Ns X.env.locals m/\∀ (i:Nat) (x:Str) (v:V),X.N[i]?=some x->σ[i]?=some (some v)->xV X.env.scope x->∃ u,RelV v u/\Look X.env s.heap m x u
 cell:∀ x c,X.env.cells.lookup x=some c->∃ v,s.heap.IsCell c v
 free:H X.env.locals=none
 cU:∀ x c,X.env.cells.lookup x=some c->(H c=none\/∃ o u,H c=some (.jn o u))/\(X.fn x=true->H c=none)
 pin:∀ p∈X.pn++pins,s.heap.get? p.1=some p.2/\H p.1=none/\p.1≠X.env.locals/\p.1∉X.fs/\∀ v,p.2.data≠.cell v
 hok:i6 X.prog X.w H s.heap
 len:σ.length=X.N.length
section
variable{X:Cx}{pins:List (Addr×Obj)}{σ:List (Option V)}{H H':Hp}{s:Shared}{h':Heap}
theorem Cx.Ok.J_(ok:X.Ok){b:Addr}{o:Obj}(e:X.base.get? b=some o):b∉X.fs:=fun hb=>by
 have:=(ok.fW.mem hb).1;rw[e]at this;cases this
theorem Inv.bs(I:Inv X pins σ H s):∀ b o,X.base.get? b=some o->s.heap.get? b=some o/\H b=none:=fun b o e=>
 ⟨I.base.keep b o (I.ok.bs b o e).1 (I.ok.bs b o e).2 (I.ok.J_ e) (I.ok.nV b o e),I.base.free b o (I.ok.bs b o e).1 (I.ok.bs b o e).2 (I.ok.nV b o e)⟩
theorem Inv.bk(I:Inv X pins σ H s):∀ b o,X.base.get? b=some o->s.heap.get? b=some o:=fun b o e=>(I.bs b o e).1
theorem Inv.mod(I:Inv X pins σ H s):Mod X.K X.mg X.base:=I.ok.mod
theorem Inv.fX(I:Inv X pins σ H s):X.K.In s.heap:=I.ok.mod.D4.keeps I.bk
theorem Inv.lt(I:Inv X pins σ H s):X.env.locals < s.heap.objs.size:=let ⟨_,hn,_⟩:=I.loc;hn.lt
theorem Inv.sz(I:Inv X pins σ H s):X.s₀.heap.objs.size<=s.heap.objs.size:=Nat.le_trans I.ok.above (Nat.le_of_lt I.lt)
theorem Inv.Ka(I:Inv X pins σ H s){a:Addr}(h:s.heap.objs.size<=a):a∉X.fs:=fun hb=>by
 obtain⟨_,o,ho,_⟩:=I.ok.fW.mem hb;exact absurd (Nat.lt_of_lt_of_le (Heap.lt_size ho) (Nat.le_trans I.sz h)) (Nat.lt_irrefl _)
theorem Inv.xW(I:Inv X pins σ H s):∀ x c,X.env.cells.lookup x=some c->c≠X.env.locals:=fun x c e z=>by
 obtain⟨v,o,ho,hd⟩:=I.cell x c e;obtain⟨m,⟨o',es,ep,ho',hd',_⟩,_⟩:=I.loc;rw[z,ho']at ho;cases ho;rw[hd']at hd;cases hd
theorem Inv.fW(I:Inv X pins σ H s):s.heap.FunFrames X.base X.outer:=by
 have all:∀ (l:List Env),(∀ b∈frs l,b∈X.fs)->X.s₀.heap.FunFrames X.base l->s.heap.FunFrames X.base l:=by
  intro l
  induction l with
  | nil=>intro _ _;trivial
  | cons env r ih=>
   intro hs hl;obtain⟨hk,⟨L,o,hf,hn,ho,hd⟩,hr⟩:=hl;have hL:L∈X.fs:=hs L (by unfold frs;rw[List.filterMap_cons,hf];exact List.mem_cons_self)
   obtain⟨sl,e⟩:=I.base.slot L o ho (I.ok.uI L hL) hL fun z=>I.ok.nW L z hL
   exact⟨hk,⟨L,_,hf,hn,e,hd⟩,ih (fun b hb=>hs b (by unfold frs;rw[List.filterMap_cons,hf];exact List.mem_cons_of_mem _ hb)) hr⟩
 exact all X.outer (fun _ hb=>hb) I.ok.fW
theorem Inv.stack(I:Inv X pins σ H s):s.heap.FunFrames X.base X.stack:=by
 rcases I.ok.AO with e | ⟨e,hf⟩
 ·rw[e];exact I.fW
 ·rw[e]
  obtain⟨m,hn,_⟩:=I.loc;refine .cons (by rw[I.ok.kind];decide) hf hn ?_ I.fW
  exact Heap.get?_none_of_le (Nat.le_trans I.ok.ti I.ok.above)
theorem Inv.mx(I:Inv X pins σ H s):∀ b∈frs X.stack,b∈X.env.locals::X.fs:=fun b hb=>by
 rcases I.ok.AO with e | ⟨e,hf⟩
 ·rw[e]at hb;exact List.mem_cons_of_mem _ hb
 ·rw[e]at hb
  unfold frs at hb;rw[List.filterMap_cons,hf]at hb;exact hb
theorem Inv.jw(I:Inv X pins σ H s):∀ b∈frs X.stack,H b=none:=fun b hb=>by
 rcases List.mem_cons.mp (I.mx b hb) with e | hb
 ·rw[e];exact I.free
 ·obtain⟨_,o,ho,_⟩:=I.ok.fW.mem hb
  exact I.base.free b o ho (I.ok.uI b hb) fun z=>I.ok.nW b z hb
theorem Inv.step{g':Array GenState}{t':Nat}{d':Drawn}{ch:List Addr}(I:Inv X pins σ H s)
  (hch:∀ b∈ch,(b∈X.ex\/X.s₀.heap.objs.size<=b)/\b≠X.env.locals/\(∀ x c,X.env.cells.lookup x=some c->c≠b)/\∀ p∈X.pn++pins,p.1≠b)
  (keep:∀ b o,b≠X.env.locals->b∉X.fs->b∉ch->s.heap.get? b=some o->H b=none->h'.get? b=some o)
  (slot:∀ b o,b≠X.env.locals->b∈X.fs->b∉ch->s.heap.get? b=some o->H b=none->∃ sl,h'.get? b=some { o with slots:=sl }) (free:∀ b o,b∉ch->s.heap.get? b=some o->H b=none->H' b=none)
  (there:∀ b o,b∉ch->s.heap.get? b=some o->∃ o',h'.get? b=some o')
  (tups:∀ b xs,H b=some (.tup xs)->H' b=some (.tup xs)) (g7:∀ b o u,H b=some (.jn o u)->H' b=some (.jn o u)) (jo:∀ b ps,H b=some (.Bu ps)->∃ more,H' b=some (.Bu (ps++more)))
  (ns:∀ m,s.heap.Ns X.env.locals m->h'.Ns X.env.locals m) (hok:i6 X.prog X.w H' h') (hg:AllBare g') :
  Inv X pins σ H' { s with heap:=h',gens:=g',drawn:=d',toks:=t' }:=by
 have D5:∀ b o,X.s₀.heap.get? b=some o->b≠X.env.locals:=fun b o e=>Nat.ne_of_lt (Nat.lt_of_lt_of_le (Heap.lt_size e) I.ok.above)
 have D6:∀ b o,X.s₀.heap.get? b=some o->b∉X.ex->b∉ch:=fun b o e hx hb=>by
  rcases(hch b hb).1 with z | z
  ·exact hx z
  ·exact absurd (Nat.lt_of_lt_of_le (Heap.lt_size e) z) (Nat.lt_irrefl _)
 have cellK:∀ x c,X.env.cells.lookup x=some c->∀ v,s.heap.IsCell c v->h'.IsCell c v:=fun x c e v ⟨o,ho,hd⟩=>by
  have AQ:c∉ch:=fun z=>(hch c z).2.2.1 x c e rfl
  rcases(I.cU x c e).1 with hn | ⟨oz,uz,hz⟩
  ·by_cases hc:c∈X.fs
   ·obtain⟨sl,q⟩:=slot c o (I.xW x c e) hc AQ ho hn
    exact⟨_,q,hd⟩
   ·exact⟨o,keep c o (I.xW x c e) hc AQ ho hn,hd⟩
  ·have e1:s.heap.get? c=some oz:=(I.hok c _ hz).1
   have e2:h'.get? c=some oz:=(hok c _ (g7 c oz uz hz)).1;rw[ho]at e1;cases e1
   exact⟨o,e2,hd⟩
 refine⟨I.ok,I.os,hg,⟨fun b o e n hb hx => ?_,fun b o e n hb hx => ?_,fun b o e n hx => ?_,fun b o e hx => ?_,fun b xs e=>tups b xs (I.base.tups b xs e),fun b o xs e=>g7 b o xs (I.base.g7 b o xs e),fun b ps e => ?_⟩,?_,fun x c e => ?_,?_,fun x c e => ?_,fun p hp => ?_,hok,I.len⟩
 ·exact keep b o (D5 b o e) hb (D6 b o e hx) (I.base.keep b o e n hb hx) (I.base.free b o e n hx)
 ·obtain⟨sl,e1⟩:=I.base.slot b o e n hb hx
  obtain⟨sl',e2⟩:=slot b _ (D5 b o e) hb (D6 b o e hx) e1 (I.base.free b o e n hx);exact⟨sl',e2⟩
 ·obtain⟨o',e1⟩:=I.base.there b o e hx
  exact free b o' (D6 b o e hx) e1 (I.base.free b o e n hx)
 ·obtain⟨o',e1⟩:=I.base.there b o e hx
  exact there b o' (D6 b o e hx) e1
 ·obtain⟨m1,e1⟩:=I.base.jo b ps e
  obtain⟨m2,e2⟩:=jo b _ e1;exact⟨m1++m2,by rw[e2,Array.append_assoc]⟩
 ·obtain⟨m,hn,hl⟩:=I.loc
  refine⟨m,ns m hn,fun i x v e1 e2 e3 => ?_⟩
  obtain⟨u,r,l⟩:=hl i x v e1 e2 e3;refine⟨u,r,?_⟩;rcases l with l | ⟨k,c,e,z⟩
  ·exact .inl l
  ·exact .inr ⟨k,c,e,cellK x c e _ z⟩
 ·obtain⟨v,z⟩:=I.cell x c e
  exact⟨v,cellK x c e v z⟩
 ·obtain⟨m,⟨o,_,_,ho,_⟩,_⟩:=I.loc
  exact free _ o (fun z=>(hch _ z).2.1 rfl) ho I.free
 ·obtain⟨v,o,ho,hd⟩:=I.cell x c e
  have AQ:c∉ch:=fun z=>(hch c z).2.2.1 x c e rfl
  refine⟨?_,fun hf=>free c o AQ ho ((I.cU x c e).2 hf)⟩
  rcases(I.cU x c e).1 with hn | ⟨oz,uz,hz⟩
  ·exact .inl (free c o AQ ho hn)
  ·exact .inr ⟨oz,uz,g7 c oz uz hz⟩
 ·obtain⟨e,n,ne,nf,d⟩:=I.pin p hp
  have AQ:p.1∉ch:=fun z=>(hch p.1 z).2.2.2 p hp rfl
  exact⟨keep p.1 p.2 ne nf AQ e n,free p.1 p.2 AQ e n,ne,nf,d⟩
theorem Inv.un{t':Nat}(I:Inv X pins σ H s)(u:Un X.fs [] H H' s.heap h')(hok:i6 X.prog X.w H' h'):Inv X pins σ H' { s with heap:=h',toks:=t' }:=by
 obtain⟨m,⟨o,es,ep,ho,r⟩,_⟩:=id I.loc;obtain⟨sl,hL⟩:=u.any ho I.free (by simp)
 exact I.step (g':=s.gens) (d':=s.drawn) (ch:=[]) (fun _ z=>nomatch z) (fun b o _ hb _ e n=>u.keep b o e n hb (by simp)) (fun b o _ hb _ e n=>u.slot b o e n hb (by simp)) (fun b o _ e n=>u.free b o e n (by simp)) (fun b o _ e=>u.there b o e (by simp)) u.tups u.g7 u.jo (fun m' hm=>by
  obtain⟨o',es',ep',ho',r'⟩:=hm;rw[ho]at ho';cases ho'
  exact⟨_,es',ep',hL,r'⟩) hok I.bare
theorem Inv.call{g':Array GenState}{t':Nat}{d':Drawn}{ch:List Addr}(I:Inv X pins σ H s)(u:Un (frs X.stack) ch H H' s.heap h')(hok:i6 X.prog X.w H' h')(hg:AllBare g')
  (hch:∀ b∈ch,(b∈X.ex\/X.s₀.heap.objs.size<=b)/\b≠X.env.locals/\(∀ x c,X.env.cells.lookup x=some c->c≠b)/\∀ p∈X.pn++pins,p.1≠b) :
  Inv X pins σ H' { s with heap:=h',gens:=g',drawn:=d',toks:=t' }:=by
 obtain⟨m,⟨o,es,ep,ho,r⟩,_⟩:=id I.loc;obtain⟨sl,hL⟩:=u.any ho I.free fun z=>(hch _ z).2.1 rfl
 exact I.step (ch:=ch) hch (fun b o hL hb hc e n=>u.keep b o e n (fun z=>(List.mem_cons.mp (I.mx b z)).elim hL hb) hc) (fun b o _ _ hc e n=>u.any e n hc) (fun b o hc e n=>u.free b o e n hc) (fun b o hc e=>u.there b o e hc) u.tups u.g7 u.jo (fun m' hm=>by
  obtain⟨o',es',ep',ho',r'⟩:=hm;rw[ho]at ho';cases ho'
  exact⟨_,es',ep',hL,r'⟩) hok hg
theorem Inv.turned{t':Nat}{it:Addr}(I:Inv X pins σ H s)(k:∀ b o,b≠it->s.heap.get? b=some o->h'.get? b=some o)(hn:H it=none)(hL:it≠X.env.locals)
  (h1:it∈X.ex\/X.s₀.heap.objs.size<=it) (h2:∀ x c,X.env.cells.lookup x=some c->c≠it) (h3:∀ p∈X.pn++pins,p.1≠it):Inv X pins σ H { s with heap:=h',toks:=t' }:=by
 have Nz:∀ b u,H b=some u->b≠it:=fun b u e z=>by rw[z,hn]at e;cases e
 refine I.step (g':=s.gens) (d':=s.drawn) (ch:=[it]) (fun b hb => ?_) (fun b o _ _ hc e _=>k b o (fun z=>hc (by simp[z])) e) (fun b o _ _ hc e _=>⟨o.slots,k b o (fun z=>hc (by simp[z])) e⟩) (fun _ _ _ _ n=>n)
  (fun b o hc e=>⟨o,k b o (fun z=>hc (by simp[z])) e⟩) (fun _ _ e=>e) (fun _ _ _ e=>e) (fun b ps e=>⟨#[],by rw[e];simp⟩) (fun m hm => ?_) (fun b u e => ?_) I.bare
 ·have e:b=it:=by simpa using hb
  subst e;exact⟨h1,hL,h2,h3⟩
 ·obtain⟨o,es,ep,ho,r⟩:=hm
  exact⟨o,es,ep,k _ o (Ne.symm hL) ho,r⟩
 ·refine(I.hok b u e).stay (fun c v hc q=>k c v ?_ q) (fun _ q=>q) fun _ _ q=>q
  rcases hc with z | z
  ·rw[z];exact Nz b u e
  ·exact Nz c _ z
theorem Inv.tok(I:Inv X pins σ H s)(t:Nat):Inv X pins σ H { s with toks:=t }:=I.un (h':=s.heap) (t':=t) Un.refl I.hok
theorem Inv.kept{t':Nat}(I:Inv X pins σ H s)(k:∀ b u,s.heap.get? b=some u->h'.get? b=some u):Inv X pins σ H { s with heap:=h',toks:=t' }:=I.un (Un.kept k) (I.hok.kept k)
theorem Inv.laid{a:Addr}{o:HO}{t':Nat}(I:Inv X pins σ H s)(k:∀ b u,s.heap.get? b=some u->h'.get? b=some u)(hp:s.heap.objs.size<=a)(new:cm X.prog X.w (upd H a o) h' a o) :
  Inv X pins σ (upd H a o) { s with heap:=h',toks:=t' }:=I.un (Un.laid k hp (I.hok.fresh hp)) (I.hok.laid k hp new)
theorem Inv.write{x e:Addr}{o:HO}{t':Nat}(I:Inv X pins σ H s)(mu:HU (H x))(he:e=x\/H e=some (.own x))(k:∀ b u,b≠e->s.heap.get? b=some u->h'.get? b=some u)(heo:∃ u,h'.get? e=some u)
  (new:cm X.prog X.w (upd H x o) h' x o):Inv X pins σ (upd H x o) { s with heap:=h',toks:=t' }:=I.un (Un.write mu he k heo) (I.hok.write mu he k heo new)
theorem Inv.weak{σ':List (Option V)}(I:Inv X pins σ H s)(hl:σ'.length=σ.length)(w:∀ (i:Nat) v,σ'[i]?=some (some v)->σ[i]?=some (some v)):Inv X pins σ' H s:=
 ⟨I.ok,I.os,I.bare,I.base,let ⟨m,hn,hl'⟩:=I.loc;⟨m,hn,fun i x v e1 e2 e3=>hl' i x v e1 (w i v e2) e3⟩,I.cell,I.free,I.cU,I.pin,I.hok,hl.trans I.len⟩
theorem Inv.q_{AR:List (Addr×Obj)}(I:Inv X pins σ H s)(h:∀ p∈AR,s.heap.get? p.1=some p.2/\H p.1=none/\p.1≠X.env.locals/\p.1∉X.fs/\∀ v,p.2.data≠.cell v):Inv X AR σ H s:=
 ⟨I.ok,I.os,I.bare,I.base,I.loc,I.cell,I.free,I.cU,fun p hp=>(List.mem_append.mp hp).elim (fun z=>I.pin p (List.mem_append_left _ z)) (h p),I.hok,I.len⟩
theorem nX{N:List Str}(hN:N.Nodup){i j:Nat}{x:Str}(a:N[i]?=some x)(b:N[j]?=some x):i=j:=by
 obtain⟨h1,e1⟩:=List.getElem?_eq_some_iff.mp a;obtain⟨h2,e2⟩:=List.getElem?_eq_some_iff.mp b;exact(List.getElem_inj hN).mp (e1.trans e2.symm)
theorem lF{M:Model}{A:Around}{E:Value->Shared->Prop}{i:Nat}{x:Str}{v:V}{u:Value}{Q:Unit->Shared->Prop}(I:Inv X pins σ H s)(hN:X.N.Nodup)(hi:X.N[i]?=some x)(hx:Loc X.env.scope x)(r:RelV v u)
  (h:∀ s',Inv X pins (σ.set i (some v)) H s'->(∃ a,Heap.SameBut a s.heap s'.heap/\(a=X.env.locals\/X.env.cells.lookup x=some a))->Q () s') (hf:X.fn x=true\/X.env.scope.names.lookup x=some .local:=by first | exact .inl rfl | exact .inr rfl | assumption):wpAny M A (storeName X.env x u) Q E s:=by
 obtain⟨m,hn,hl⟩:=id I.loc;have hcls:(X.env.scope.kind == .class || (X.env.scope.kind == .module && X.env.locals != X.env.globals))=false:=by rw[I.ok.kind];rfl
 have Eu:i < σ.length:=by rw[I.len];exact(List.getElem?_eq_some_iff.mp hi).1
 have xW:=I.xW
 have tracked:∀ {a:Addr} {h':Heap},(∃ o,s.heap.get? a=some o/\H a=none)->Heap.SameBut a s.heap h'->i6 X.prog X.w H h':=fun {a h'} ha hs b ob e=>by
  obtain⟨_,_,hfree⟩:=ha;refine(I.hok b ob e).stay (fun c w' hc q=>(hs.2 c ?_).trans q) (fun _ q=>q) fun _ _ q=>q
  rintro rfl;rcases hc with rfl | hc
  ·rw[hfree]at e;cases e
  ·rw[hfree]at hc;cases hc
 rcases hx with hk | hk
 ·refine wpAny_storeName_local hk hn (fun h' hn' hs => ?_) hcls
  obtain⟨oL,_,_,hoL,_⟩:=id hn;refine h _ ⟨I.ok,I.os,I.bare,⟨fun b o e n hb hx => ?_,fun b o e n hb hx => ?_,I.base.free,fun b o e hx => ?_,I.base.tups,I.base.g7,I.base.jo⟩,⟨_,hn',fun j y v' e1 e2 e3 => ?_⟩,fun y c e => ?_,I.free,I.cU,fun p hp => ?_,tracked ⟨oL,hoL,I.free⟩ hs,by simpa using I.len⟩ ⟨_,hs,.inl rfl⟩
  ·exact(hs.2 b (Nat.ne_of_lt (Nat.lt_of_lt_of_le (Heap.lt_size e) I.ok.above))).trans (I.base.keep b o e n hb hx)
  ·obtain⟨sl,e1⟩:=I.base.slot b o e n hb hx
   exact⟨sl,(hs.2 b (Nat.ne_of_lt (Nat.lt_of_lt_of_le (Heap.lt_size e) I.ok.above))).trans e1⟩
  ·obtain⟨o',e1⟩:=I.base.there b o e hx
   exact⟨o',(hs.2 b (Nat.ne_of_lt (Nat.lt_of_lt_of_le (Heap.lt_size e) I.ok.above))).trans e1⟩
  ·by_cases hj:j=i
   ·subst hj
    rw[hi]at e1;cases e1
    rw[List.getElem?_set_self Eu]at e2;cases e2;exact⟨u,r,.inl ⟨hk,by simp⟩⟩
   ·rw[List.getElem?_set_ne (Ne.symm hj)]at e2
    obtain⟨u',r',q⟩:=hl j y v' e1 e2 e3;refine⟨u',r',?_⟩;rcases q with ⟨k,e⟩ | ⟨k,c,e,z⟩
    ·refine .inl ⟨k,?_⟩
     have:y≠x:=fun e=>hj (nX hN e1 (e▸hi))
     simp[this,e]
    ·exact .inr ⟨k,c,e,z.sameBut hs (xW y c e)⟩
  ·obtain⟨w',z⟩:=I.cell y c e
   exact⟨w',z.sameBut hs (xW y c e)⟩
  ·obtain⟨e,n,ne,nf,d⟩:=I.pin p hp
   exact⟨(hs.2 p.1 ne).trans e,n,ne,nf,d⟩
 ·have hfn:X.fn x=true:=by
   rcases hf with z | z
   ·exact z
   ·rw[z]at hk;cases hk
  obtain⟨c,hc⟩:=I.ok.has x (.inl hk);obtain⟨w',z⟩:=I.cell x c hc;refine wpAny_storeName_cell I.ok.kind hk hc z (fun h' hc' hs => ?_)
  obtain⟨oc,hoc,Kb⟩:=id z;refine h { s with heap:=h' } ⟨I.ok,I.os,I.bare,⟨fun b o e n hb hx => ?_,fun b o e n hb hx => ?_,I.base.free,fun b o e hx => ?_,I.base.tups,I.base.g7,I.base.jo⟩,⟨m,hn.sameBut hs (Ne.symm (xW x c hc)),fun j y v' e1 e2 e3 => ?_⟩,fun y c' e => ?_,I.free,I.cU,fun p hp => ?_,tracked ⟨oc,hoc,(I.cU x c hc).2 hfn⟩ hs,by simpa using I.len⟩ ⟨c,hs,.inr hc⟩
  ·exact(hs.2 b (Nat.ne_of_lt (Nat.lt_of_lt_of_le (Heap.lt_size e) (I.ok.cab x c hfn hc)))).trans (I.base.keep b o e n hb hx)
  ·obtain⟨sl,e1⟩:=I.base.slot b o e n hb hx
   exact⟨sl,(hs.2 b (Nat.ne_of_lt (Nat.lt_of_lt_of_le (Heap.lt_size e) (I.ok.cab x c hfn hc)))).trans e1⟩
  ·obtain⟨o',e1⟩:=I.base.there b o e hx
   exact⟨o',(hs.2 b (Nat.ne_of_lt (Nat.lt_of_lt_of_le (Heap.lt_size e) (I.ok.cab x c hfn hc)))).trans e1⟩
  ·by_cases hj:j=i
   ·subst hj
    rw[hi]at e1;cases e1
    rw[List.getElem?_set_self Eu]at e2;cases e2;exact⟨u,r,.inr ⟨.inl hk,c,hc,hc'⟩⟩
   ·rw[List.getElem?_set_ne (Ne.symm hj)]at e2
    obtain⟨u',r',q⟩:=hl j y v' e1 e2 e3;refine⟨u',r',?_⟩;rcases q with q | ⟨k,c',e,z'⟩
    ·exact .inl q
    ·refine .inr ⟨k,c',e,z'.sameBut hs ?_⟩
     rintro rfl;exact hj (nX hN e1 (I.ok.inj _ _ _ e hc▸hi))
  ·by_cases hcc:c'=c
   ·subst hcc;exact⟨_,hc'⟩
   ·obtain⟨w2,z2⟩:=I.cell y c' e
    exact⟨w2,z2.sameBut hs hcc⟩
  ·obtain⟨e,n,ne,nf,d⟩:=I.pin p hp
   refine⟨(hs.2 p.1 ?_).trans e,n,ne,nf,d⟩;intro q;rw[q,hoc]at e;have q':oc=p.2:=Option.some.inj e;exact d w' (by rw[← q'];exact Kb)
theorem jV{M:Model}{A:Around}{E:Value->Shared->Prop}{i:Nat}{x:Str}{v:V}{u:Value}{Q:Unit->Shared->Prop}(I:Inv X pins σ H s)(hN:X.N.Nodup)(hi:X.N[i]?=some x)(hx:Loc X.env.scope x)(r:RelV v u)
  (h:∀ s',Inv X pins (σ.set i (some v)) H s'->Q () s') (hf:X.fn x=true\/X.env.scope.names.lookup x=some .local:=by first | exact .inl rfl | exact .inr rfl | assumption):wpAny M A (storeName X.env x u) Q E s:=
 lF I hN hi hx r (fun s' I' _=>h s' I') hf
theorem Inv.call'{s':Shared}{ch:List Addr}(I:Inv X pins σ H s)(ho:s'.os=s.os)(u:Un (frs X.stack) ch H H' s.heap s'.heap)(hok:i6 X.prog X.w H' s'.heap)(hg:AllBare s'.gens)
  (hch:∀ b∈ch,(b∈X.ex\/X.s₀.heap.objs.size<=b)/\b≠X.env.locals/\(∀ x c,X.env.cells.lookup x=some c->c≠b)/\∀ p∈X.pn++pins,p.1≠b):Inv X pins σ H' s':=by
 obtain⟨h',g',d',t',o'⟩:=s';have e:o'=s.os:=ho;subst e;exact I.call (g':=g') (t':=t') (d':=d') u hok hg hch
end
abbrev XK:=Value->Option Addr->Hp->Prop
abbrev St:=List (Option V)
abbrev VK:=V->Hp->Prop
abbrev TE:=St->Hp->VK->Prop
abbrev TT:=St->Hp->(Bool->Hp->Prop)->Prop
abbrev TA:=St->Hp->(List V->Hp->Prop)->Prop
structure Ends where
 nx:St->Hp->Prop
 rt:VK
 bk:St->Hp->Prop:=fun _ _=>False
 ct:St->Hp->Prop:=fun _ _=>False
abbrev TS:=Ends->St->Hp->Prop
def EP(X:Cx)(pins:List (Addr×Obj))(σ:St)(Q:VK)(u:Value)(s':Shared):Prop:=∃ v H',Inv X pins σ H' s'/\RelV v u/\Q v H'
def TP(X:Cx)(pins:List (Addr×Obj))(σ:St)(Q:Bool->Hp->Prop)(b:Bool)(s':Shared):Prop:=∃ H',Inv X pins σ H' s'/\Q b H'
def AP(X:Cx)(pins:List (Addr×Obj))(σ:St)(Q:List V->Hp->Prop)(us:List Value)(s':Shared):Prop:=∃ vs H',Inv X pins σ H' s'/\Vals vs us/\Q vs H'
def SP(X:Cx)(pins:List (Addr×Obj))(D:Ends)(f:Flow)(s':Shared):Prop:=
 match f with
 | .next=>∃ σ' H',Inv X pins σ' H' s'/\D.nx σ' H'
 | .brk=>∃ σ' H',Inv X pins σ' H' s'/\D.bk σ' H'
 | .cont=>∃ σ' H',Inv X pins σ' H' s'/\D.ct σ' H'
 | .ret u=>∃ v σ' H',Inv X pins σ' H' s'/\RelV v u/\D.rt v H'
def PE(X:Cx)(e:Expr)(t:TE):Prop:=
 ∀ (pins:List (Addr×Obj)) (s:Shared) (σ:St) (H:Hp) (Q:VK),Inv X pins σ H s->t σ H Q->wpAny (model X.prog X.w) X.A (eval e X.env) (EP X pins σ Q) X.xe s
def PT(X:Cx)(e:Expr)(t:TT):Prop:=
 ∀ (pins:List (Addr×Obj)) (s:Shared) (σ:St) (H:Hp) (Q:Bool->Hp->Prop),Inv X pins σ H s->t σ H Q->wpAny (model X.prog X.w) X.A (isTrue e X.env (eval e X.env)) (TP X pins σ Q) X.xe s
def PW(X:Cx)(e:Expr)(t:TT):Prop:=
 ∀ (whole:Sem Value) (pins:List (Addr×Obj)) (s:Shared) (σ:St) (H:Hp) (Q:Bool->Hp->Prop),Inv X pins σ H s->t σ H Q->wpAny (model X.prog X.w) X.A (isTrue e X.env whole) (TP X pins σ Q) X.xe s
theorem PW.pt{X:Cx}{e:Expr}{t:TT}(h:PW X e t):PT X e t:=h _
def PA(X:Cx)(es:List Expr)(t:TA):Prop:=
 ∀ (pos:Pos) (pins:List (Addr×Obj)) (s:Shared) (σ:St) (H:Hp) (Q:List V->Hp->Prop),Inv X pins σ H s->t σ H Q->wpAny (model X.prog X.w) X.A (spliced (backTo pos (starEach es X.env))) (AP X pins σ Q) X.xe s
def PS(X:Cx)(st:Stmt)(t:TS):Prop:=
 ∀ (pins:List (Addr×Obj)) (s:Shared) (σ:St) (H:Hp) (D:Ends),Inv X pins σ H s->t D σ H->wpAny (model X.prog X.w) X.A (exec st X.env) (SP X pins D) X.xe s
def ij(X:Cx)(st:List Stmt)(t:TS):Prop:=
 ∀ (pins:List (Addr×Obj)) (s:Shared) (σ:St) (H:Hp) (D:Ends),Inv X pins σ H s->t D σ H->wpAny (model X.prog X.w) X.A (execs st X.env) (SP X pins D) X.xe s
theorem b7{α:Type}{t:Sem α}{Q Q':α->Shared->Prop}{M:Model}{A:Around}{E:Value->Shared->Prop}{s:Shared}(h:wpAny M A t Q E s)(hQ:∀ a s,Q a s->Q' a s):wpAny M A t Q' E s:=wpAny_mono h hQ fun _ _ x=>x
section
variable{X:Cx}
noncomputable def Kc(i:Nat):TE:=fun σ H Q=>∃ v,σ[i]?=some (some v)/\Q v H
noncomputable def tC(v:V):TE:=fun _ H Q=>Q v H
theorem jW{i:Nat}{x:Str}{pos:Pos}(hN:X.N[i]?=some x)(hv:xV X.env.scope x)(hd:(x == ("__debug__":Str))=false:=by decide)(hcd:(x == ("__classdict__":Str))=false:=by decide):PE X (.Name x pos) (Kc i):=by
 intro pins s σ H Q I h;obtain⟨v,e,h⟩:=h;obtain⟨m,hn,hl⟩:=I.loc;obtain⟨u,r,l⟩:=hl i x v hN e hv;have fin:EP X pins σ Q u s:=⟨v,H,I,r,h⟩;rcases l with ⟨hk,hm⟩ | ⟨hk,c,hc,hcell⟩
 ·exact wpAny_Name (wpAny_loadName_local I.ok.kind hk hn hm fin) hd
 ·rcases hk with hk | hk
  ·exact wpAny_Name (wpAny_loadName_cell I.ok.kind hk hc hcell fin) hd
  ·exact wpAny_Name (wpAny_loadName_free I.ok.kind hk hc hcell fin hcd) hd
theorem Bw{i j pos}:PE X (.Constant (.int i) j pos) (tC (.int i)):=fun _ _ _ H _ I h=>wpAny_Constant_int ⟨.int i,H,I.tok _,⟨_,rfl⟩,h⟩
theorem Ew{b j pos}:PE X (.Constant (.bool b) j pos) (tC (.bl b)):=fun _ _ _ H _ I h=>Constant_bool ⟨.bl b,H,I,rfl,h⟩
theorem Bx{j pos}:PE X (.Constant .none j pos) (tC .non):=fun _ _ _ H _ I h=>Constant_none ⟨.non,H,I,rfl,h⟩
theorem uJ{x j pos}:PE X (.Constant (.str x) j pos) (tC (.str x)):=fun _ _ _ H _ I h=>Calls.Constant_str ⟨.str x,H,I.tok _,⟨_,rfl⟩,h⟩
def Gl(X:Cx)(x:Str):Prop:=X.env.kindOf x=some .globalImplicit
theorem gK{E:Value->Shared->Prop}{pins:List (Addr×Obj)}{s:Shared}{σ:St}{H:Hp}{x:Str}{u:Value}{pos:Pos}{Q:Value->Shared->Prop}(I:Inv X pins σ H s)(hg:Gl X x)(hm:X.mg x=some u)(h:Q u s)
  (hd:(x == ("__debug__":Str))=false:=by decide):wpAny (model X.prog X.w) X.A (eval (.Name x pos) X.env) Q E s:=
 Calls.Name_function_global I.ok.kind hg (Calls.loadGlobal_global (by rw[I.ok.glob];exact I.mod.glob.keeps I.bk) hm h) hd
theorem g_{E:Value->Shared->Prop}{pins:List (Addr×Obj)}{s:Shared}{σ:St}{H:Hp}{x:Str}{u:Value}{pos:Pos}{Q:Value->Shared->Prop}(I:Inv X pins σ H s)(hg:Gl X x)(hm:X.mg x=none)(hv:bootBuiltins x=some u)(h:Q u s)
  (hn:x≠"__name__":=by decide) (hd:(x == ("__debug__":Str))=false:=by decide):wpAny (model X.prog X.w) X.A (eval (.Name x pos) X.env) Q E s:=by
 obtain⟨mb,h1,h2⟩:=I.mod.blt;exact Calls.Name_function_global I.ok.kind hg (Calls.loadGlobal_builtin (by rw[I.ok.glob];exact I.mod.glob.keeps I.bk) hm (by rw[I.ok.blt];exact h1.keeps I.bk) ((h2 x hn).trans hv) h) hd
theorem yc{x:Str}{v:V}{u:Value}{pos:Pos}(hg:Gl X x)(hm:X.mg x=some u)(r:RelV v u)(hd:(x == ("__debug__":Str))=false:=by decide):PE X (.Name x pos) (tC v):=
 fun _ _ _ H _ I h=>gK I hg hm ⟨v,H,I,r,h⟩ hd
theorem yd{x:Str}{v:V}{u:Value}{pos:Pos}(hg:Gl X x)(hm:X.mg x=none)(hv:bootBuiltins x=some u)(r:RelV v u)(hn:x≠"__name__":=by decide)(hd:(x == ("__debug__":Str))=false:=by decide):PE X (.Name x pos) (tC v):=
 fun _ _ _ H _ I h=>g_ I hg hm hv ⟨v,H,I,r,h⟩ hn hd
variable{a b:Expr}{ta tb:TE}{pos:Pos}
variable{tA HW:TT}{rest:List Expr}
noncomputable def Kd(t u:TT):TT:=fun σ H Q=>t σ H fun c H1=>if c=true then u σ H1 Q else Q false H1
noncomputable def Pg(t u:TT):TT:=fun σ H Q=>t σ H fun c H1=>if c=true then Q true H1 else u σ H1 Q
noncomputable def Ke(t:TT):TT:=fun σ H Q=>t σ H fun c H1=>Q (!c) H1
theorem pw_and1(ha:PT X a tA):PW X (.BoolOp .And [a] pos) tA:=by
 intro wh pins s σ H Q I h;refine isTrue_and (b7 (ha pins s σ H Q I h) fun c s1 e => ?_)
 cases c with
 | true=>exact isTrue_and_nil e
 | false=>exact e
theorem pw_or1(ha:PT X a tA):PW X (.BoolOp .Or [a] pos) tA:=by
 intro wh pins s σ H Q I h;refine isTrue_or (b7 (ha pins s σ H Q I h) fun c s1 e => ?_)
 cases c with
 | false=>exact isTrue_or_nil e
 | true=>exact e
theorem pw_and(ha:PT X a tA)(hb:PW X (.BoolOp .And (b::rest) pos) HW):PW X (.BoolOp .And (a::b::rest) pos) (Kd tA HW):=by
 intro wh pins s σ H Q I h;refine isTrue_and (b7 (ha pins s σ H _ I h) fun c s1 ⟨H1,I1,q1⟩ => ?_)
 cases c with
 | true=>exact hb wh pins s1 σ H1 Q I1 q1
 | false=>exact⟨H1,I1,q1⟩
theorem pw_or(ha:PT X a tA)(hb:PW X (.BoolOp .Or (b::rest) pos) HW):PW X (.BoolOp .Or (a::b::rest) pos) (Pg tA HW):=by
 intro wh pins s σ H Q I h;refine isTrue_or (b7 (ha pins s σ H _ I h) fun c s1 ⟨H1,I1,q1⟩ => ?_)
 cases c with
 | true=>exact⟨H1,I1,q1⟩
 | false=>exact hb wh pins s1 σ H1 Q I1 q1
theorem By(ha:PT X a tA):PT X (.UnaryOp .Not a pos) (Ke tA):=by
 intro pins s σ H Q I h;exact isTrue_not (ha pins s σ H (fun c H1=>Q (!c) H1) I h)
theorem Bz{op}{t:TE}(h:PE X a t):PE X (.BoolOp op [a] pos) t:=fun pins s σ H Q I hw=>BoolOp_one (h pins s σ H Q I hw)
noncomputable def D7(t:TT)(ta tb:TE):TE:=fun σ H Q=>t σ H fun c H1=>if c=true then ta σ H1 Q else tb σ H1 Q
theorem uK{c:Expr}(hc:PT X c tA)(ha:PE X a ta)(hb:PE X b tb):PE X (.IfExp c a b pos) (D7 tA ta tb):=by
 intro pins s σ H Q I h;refine wpAny_IfExp (b7 (hc pins s σ H _ I h) fun d s1 ⟨H1,I1,q1⟩ => ?_)
 cases d with
 | true=>exact ha pins s1 σ H1 Q I1 q1
 | false=>exact hb pins s1 σ H1 Q I1 q1
end
def i7(K:PySem.W.Frag)(H:Hp)(a:Addr)(xs:List V):Prop:=
 Rd H a (.lst xs) \/
  ∃ (o:Obj) (its:Array Value) (n:Nat),K.lookup a=some o/\o.cls=.type "list"/\o.dict=none/\o.data=.seq its n/\its.size<=sizeLine/\Vals xs its.toList
def fS(K:PySem.W.Frag)(H:Hp)(a:Addr)(xs:List V):Prop:=
 Rd H a (.tup xs) \/
  ∃ (o:Obj) (its:Array Value) (n:Nat),K.lookup a=some o/\o.cls=.type "tuple"/\o.data=.seq its n/\its.size<=sizeLine/\Vals xs its.toList
noncomputable def Kf:Value->Option V
 | .none=>some .non
 | .bool b=>some (.bl b)
 | .int i _=>some (.int i)
 | .str x _=>some (.str x)
 | .bytes b _=>some (.D3 b)
 | .float b _=>some (.flt b)
 | .ref a=>some (.ref a)
 | .type n=>some (.ty n)
 | _=>none
theorem RelV.abs{x:V}{u:Value}(r:RelV x u):Kf u=some x:=by
 cases x with
 | non=>cases r;rfl
 | bl _=>cases r;rfl
 | int _=>obtain⟨t,rfl⟩:=r;rfl
 | str _=>obtain⟨t,rfl⟩:=r;rfl
 | D3 _=>obtain⟨t,rfl⟩:=r;rfl
 | flt _=>obtain⟨t,rfl⟩:=r;rfl
 | ref _=>cases r;rfl
 | ty _=>cases r;rfl
theorem RelV.inj{x y:V}{u:Value}(r:RelV x u)(q:RelV y u):x=y:=Option.some.inj (r.abs.symm.trans q.abs)
theorem Vals.inj:∀ {xs ys:List V} {us:List Value},Vals xs us->Vals ys us->xs=ys
 | _,_,_,.nil,.nil=>rfl
 | _,_,_,.cons r t,.cons r' t'=>by rw[r.inj r',Vals.inj t t']
section
variable{X:Cx}{pins:List (Addr×Obj)}{σ:St}{H:Hp}{s:Shared}{a:Addr}{xs ys:List V}
theorem fS.of{K:PySem.W.Frag}(h:H a=some (.tup xs)):fS K H a xs:=.inl (.inl h)
theorem Inv.list(I:Inv X pins σ H s)(h:i7 X.K H a xs):∃ its:List Value,Vals xs its/\PlainL s.heap a its.toArray/\xs.length<=sizeLine:=by
 rcases h with h | ⟨o,its,n,hk,hc,hd,hs,hz,r⟩
 ·obtain⟨z,its,n,r,e⟩:=h.ok I.hok
  exact⟨its,r,⟨_,n,e,rfl,rfl,rfl⟩,z⟩
 ·refine⟨its.toList,r,⟨o,n,I.fX a o hk,hc,hd,by simpa using hs⟩,?_⟩
  have e:=r.length;simp only[Array.length_toList]at e;omega
theorem Inv.tuple(I:Inv X pins σ H s)(h:fS X.K H a xs):∃ its:List Value,Vals xs its/\IsTup s.heap a its.toArray/\xs.length<=sizeLine:=by
 rcases h with h | ⟨o,its,n,hk,hc,hs,hz,r⟩
 ·obtain⟨z,its,r,p⟩:=h.ok I.hok
  exact⟨its,r,p,z⟩
 ·refine⟨its.toList,r,⟨o,I.fX a o hk,hc,n,by simpa using hs⟩,?_⟩
  have e:=r.length;simp only[Array.length_toList]at e;omega
theorem Inv.nY(I:Inv X pins σ H s)(h:i7 X.K H a xs)(h':i7 X.K H a ys):xs=ys:=by
 obtain⟨its,r,⟨o,n,e,_,_,d⟩,_⟩:=I.list h;obtain⟨its',r',⟨o',n',e',_,_,d'⟩,_⟩:=I.list h';rw[e]at e';cases e'
 rw[d]at d';injection d' with d1 _;have:its=its':=by simpa using congrArg Array.toList d1
 subst this;exact r.inj r'
theorem Inv.lG(I:Inv X pins σ H s)(h:fS X.K H a xs)(h':fS X.K H a ys):xs=ys:=by
 obtain⟨its,r,⟨o,e,_,n,d⟩,_⟩:=I.tuple h;obtain⟨its',r',⟨o',e',_,n',d'⟩,_⟩:=I.tuple h';rw[e]at e';cases e'
 rw[d]at d';injection d' with d1 _;have:its=its':=by simpa using congrArg Array.toList d1
 subst this;exact r.inj r'
end
abbrev Cx.wish(X:Cx)(E:Value->Shared->Prop):Cx:={ X with xe:=E }
abbrev Cx.i8(X:Cx):Cx:=X.wish fun _ _=>False
theorem Cx.Ok.wish{X:Cx}(ok:X.Ok)(E:Value->Shared->Prop):(X.wish E).Ok:=
 ⟨ok.mod,ok.kind,ok.glob,ok.blt,ok.above,ok.inj,ok.has,ok.cab,ok.hd,ok.frames,ok.AO,ok.Bv,ok.bs,ok.ti,ok.nV,ok.nW,ok.fW,ok.uI⟩
theorem Cx.Ok.eS{X:Cx}{E:Value->Shared->Prop}(ok:(X.wish E).Ok):X.Ok:=
 ⟨ok.mod,ok.kind,ok.glob,ok.blt,ok.above,ok.inj,ok.has,ok.cab,ok.hd,ok.frames,ok.AO,ok.Bv,ok.bs,ok.ti,ok.nV,ok.nW,ok.fW,ok.uI⟩
section
variable{X:Cx}{pins:List (Addr×Obj)}{σ:St}{H:Hp}{s:Shared}{E:Value->Shared->Prop}
theorem Inv.wish(I:Inv X pins σ H s)(E:Value->Shared->Prop):Inv (X.wish E) pins σ H s:=⟨I.ok.wish E,I.os,I.bare,I.base,I.loc,I.cell,I.free,I.cU,I.pin,I.hok,I.len⟩
theorem Inv.eS(I:Inv (X.wish E) pins σ H s):Inv X pins σ H s:=⟨I.ok.eS,I.os,I.bare,I.base,I.loc,I.cell,I.free,I.cU,I.pin,I.hok,I.len⟩
theorem SP.eS{D:Ends}{f:Flow}{s':Shared}(h:SP (X.wish E) pins D f s'):SP X pins D f s':=by
 cases f with
 | next=>obtain⟨σ',H',I,q⟩:=h;exact⟨σ',H',I.eS,q⟩
 | brk=>obtain⟨σ',H',I,q⟩:=h;exact⟨σ',H',I.eS,q⟩
 | cont=>obtain⟨σ',H',I,q⟩:=h;exact⟨σ',H',I.eS,q⟩
 | ret u=>obtain⟨v,σ',H',I,r,q⟩:=h;exact⟨v,σ',H',I.eS,r,q⟩
theorem ij.i8{st:List Stmt}{t:TS}(h:ij X.i8 st t):ij X st t:=fun pins s σ H D I hw=>
 wpAny_mono (h pins s σ H D (I.wish _) hw) (fun _ _ q=>q.eS) fun _ _ z=>False.elim z
end
section
variable{X:Cx}{st:Stmt}{rest:List Stmt}{t u:TS}{e:Expr}{te:TE}{pos:Pos}
noncomputable def Ey:TS:=fun D σ H=>D.nx σ H
noncomputable def Kg(t u:TS):TS:=fun D σ H=>t { D with nx:=u D } σ H
theorem ye:ij X [] Ey:=fun _ _ σ H _ I h=>wpAny_execs_nil ⟨σ,H,I,h⟩
theorem uL(h1:PS X st t)(h2:ij X rest u):ij X (st::rest) (Kg t u):=by
 intro pins s σ H D I h;refine wpAny_execs_cons (b7 (h1 pins s σ H { D with nx:=u D } I h) fun f s1 q => ?_)
 cases f with
 | next=>
  obtain⟨σ',H',I',q⟩:=q;exact h2 pins s1 σ' H' D I' q
 | ret v=>exact q
 | brk=>exact q
 | cont=>exact q
theorem yf(h1:PS X st t):ij X [st] t:=by
 intro pins s σ H D I h;refine wpAny_execs_cons (b7 (h1 pins s σ H D I h) fun f s1 q => ?_)
 cases f with
 | next=>exact wpAny_execs_nil q
 | ret v=>exact q
 | brk=>exact q
 | cont=>exact q
theorem Inv.quiet{pins:List (Addr×Obj)}{σ:St}{H:Hp}{s:Shared}(I:Inv X pins σ H s):interactive X.env=false:=by simp[interactive,I.ok.kind]
noncomputable def Ez(te:TE):TS:=fun D σ H=>te σ H fun _ H1=>D.nx σ H1
theorem yg(he:PE X e te)(hs:swapsWith e none pos.line X.env=pure false:=by rfl):PS X (.Expr e pos) (Ez te):=by
 intro pins s σ H D I h;exact wpAny_Expr_any (b7 (he pins s σ H _ I h) fun v s1 ⟨x,H1,I1,r1,q1⟩=>⟨σ,H1,I1,q1⟩) I.quiet hs
noncomputable def Kh(te:TE):TS:=fun D σ H=>te σ H D.rt
theorem uM(he:PE X e te):PS X (.Return (some e) pos) (Kh te):=by
 intro pins s σ H D I h;exact wpAny_Return_some (b7 (he pins s σ H _ I h) fun v s1 ⟨x,H1,I1,r1,q1⟩=>⟨x,σ,H1,I1,r1,q1⟩)
noncomputable def Ki(c:TT)(t u:TS):TS:=fun D σ H=>c σ H fun b H1=>if b=true then t D σ H1 else u D σ H1
theorem EA{c:Expr}{a b:List Stmt}{tc:TT}(hc:PT X c tc)(ha:ij X a t)(hb:ij X b u):PS X (.If c a b pos) (Ki tc t u):=by
 intro pins s σ H D I h;refine wpAny_If (b7 (hc pins s σ H _ I h) fun d s1 ⟨H1,I1,q1⟩ => ?_)
 cases d with
 | true=>exact ha pins s1 σ H1 D I1 q1
 | false=>exact hb pins s1 σ H1 D I1 q1
end
abbrev TG:=V->St->Hp->(St->Hp->Prop)->Prop
abbrev AS:=List V->St->Hp->(St->Hp->Prop)->Prop
def PG(X:Cx)(target:Expr)(t:TG):Prop:=
 ∀ (pins:List (Addr×Obj)) (s:Shared) (σ:St) (H:Hp) (v:V) (u:Value) (Q:St->Hp->Prop),Inv X pins σ H s->RelV v u->t v σ H Q ->
  wpAny (model X.prog X.w) X.A (assign target X.env u) (fun _ s'=>∃ σ' H',Inv X pins σ' H' s'/\Q σ' H') X.xe s
def EB(X:Cx)(ts:List Expr)(t:AS):Prop:=
 ∀ (pins:List (Addr×Obj)) (s:Shared) (σ:St) (H:Hp) (vs:List V) (us:List Value) (Q:St->Hp->Prop),Inv X pins σ H s->Vals vs us->t vs σ H Q ->
  wpAny (model X.prog X.w) X.A (assignInOrder ((assignEach ts X.env).map (·.2)) us) (fun _ s'=>∃ σ' H',Inv X pins σ' H' s'/\Q σ' H') X.xe s
section
variable{X:Cx}{pos:Pos}
noncomputable def gU(i:Nat):TG:=fun v σ H Q=>Q (σ.set i (some v)) H
theorem jx{i:Nat}{x:Str}(hN:X.N.Nodup)(hi:X.N[i]?=some x)(hx:Loc X.env.scope x)(hf:X.fn x=true\/X.env.scope.names.lookup x=some .local:=by first | exact .inl rfl | exact .inr rfl | assumption):PG X (.Name x pos) (gU i):=by
 intro pins s σ H v u Q I r h;exact wpAny_assign_Name (jV I hN hi hx r (fun s' I'=>⟨_,H,I',h⟩) hf)
noncomputable def EC:AS:=fun vs σ H Q=>vs=[]/\Q σ H
noncomputable def AU(t:TG)(u:AS):AS:=fun vs σ H Q=>∃ v r,vs=v::r/\t v σ H fun σ' H'=>u r σ' H' Q
theorem yh:EB X [] EC:=by
 intro pins s σ H vs us Q I r h;obtain⟨e,h⟩:=h;subst e;cases r;exact assignInOrder_nil ⟨σ,H,I,h⟩
theorem uN{e:Expr}{es:List Expr}{t:TG}{u:AS}(h1:PG X e t)(h2:EB X es u)
  (hs:(assignEach (e::es) X.env).map (·.2)=assign e X.env::(assignEach es X.env).map (·.2):=by rfl):EB X (e::es) (AU t u):=by
 intro pins s σ H vs us Q I r h;obtain⟨v,vr,e1,h⟩:=h;subst e1;cases r with
 | cons r rr=>
  rw[hs];refine assignInOrder_cons (b7 (h1 pins s σ H _ _ _ I r h) fun _ s1 ⟨BA,H1,I1,q1⟩ => ?_)
  exact h2 pins s1 BA H1 _ _ Q I1 rr q1
noncomputable def yi(K:PySem.W.Frag)(n:Nat)(t:AS):TG:=fun v σ H Q=>∃ a xs,v=.ref a/\fS K H a xs/\xs.length=n/\t xs σ H Q
theorem BB{es:List Expr}{k:Nat}{t:AS}{n:Nat}(hc:X.calm=true)(h:EB X es t)
  (hn:(assignEach es X.env).length=n:=by rfl) (hst:(assignEach es X.env).findIdx? (·.1)=none:=by rfl):PG X (.Tuple es k pos) (yi X.K n t):=by
 intro pins s σ H v u Q I r hw;obtain⟨a,xs,e1,hq,hl,hw⟩:=hw;subst e1;cases r;obtain⟨its,rv,ht,hz⟩:=I.tuple hq;refine assign_Tuple_tuple (I.ok.hd hc) ht (by simp[hn,← hl,rv.length]) hst fun h' hx => ?_
 have I1:Inv X pins σ H { s with heap:=h' }:=I.kept (t':=s.toks) fun b o e=>hx b o (Nat.ne_of_lt (Heap.lt_size e)) e
 exact h pins _ σ H xs _ Q I1 (by simpa using rv) hw
noncomputable def BC(te:TE)(g:TG):TS:=fun D σ H=>te σ H fun x H1=>g x σ H1 D.nx
theorem BD{tg e:Expr}{te:TE}{g:TG}(he:PE X e te)(hg:PG X tg g)(hs:swapsWithSole [tg] e pos.line X.env=pure false:=by rfl)(hw:swappedStores [tg] e X.env=pure none:=by rfl)
  (h1:(assignEach [tg] X.env).map (·.2)=[assign tg X.env]:=by rfl):PS X (.Assign [tg] e pos) (BC te g):=by
 intro pins s σ H D I h;refine wpAny_Assign_stores (b7 (he pins s σ H _ I h) fun v s1 ⟨x,H1,I1,r1,q1⟩ => ?_) hs hw
 rw[h1];exact b7 (hg pins s1 σ H1 x v _ I1 r1 q1) fun _ s2 q=>q
theorem BE{i:Nat}{x:Str}{e:Expr}{te:TE}{pos':Pos}(hN:X.N.Nodup)(hi:X.N[i]?=some x)(hx:Loc X.env.scope x)(he:PE X e te)(hs:swapsWith e (some (.Name x pos')) pos.line X.env=pure false:=by rfl)(hf:X.fn x=true\/X.env.scope.names.lookup x=some .local:=by first | exact .inl rfl | exact .inr rfl | assumption) :
  PS X (.Assign [.Name x pos'] e pos) (BC te (gU i)):=by
 intro pins s σ H D I h;refine wpAny_Assign_Name (b7 (he pins s σ H _ I h) fun v s1 ⟨y,H1,I1,r1,q1⟩ => ?_) hs
 exact jV I1 hN hi hx r1 (fun s2 I2=>⟨_,H1,I2,q1⟩) hf
noncomputable def BF(c:TT)(tb:TS):TS:=fun D σ H=>∃ W:Nat->St->Hp->Prop,(∃ m,W m σ H)/\∀ m σ H,W m σ H ->
 c σ H fun b H1=>if b=true then ∃ N:St->Hp->Prop,(∀ σ' H',N σ' H'->∃ m',m' < m/\W m' σ' H')/\tb { D with nx:=N,ct:=N,bk:=D.nx } σ H1 else D.nx σ H1
theorem uO{c:Expr}{body:List Stmt}{tc:TT}{tb:TS}(hp:PassesOwn (model X.prog X.w) X.A X.env X.xe)(hc:PT X c tc)(hb:ij X body tb):PS X (.While c body [] pos) (BF tc tb):=by
 intro pins s σ H D I h;obtain⟨W,⟨m0,w0⟩,turn⟩:=h;refine wpAny_While (codeAny_whileLoop (fun n s'=>∃ σ' H',Inv X pins σ' H' s'/\W n σ' H') ?_ m0 ⟨σ,H,I,w0⟩)
 rintro n s1 ⟨BA,H1,I1,w1⟩;refine wpAny_passesOwn hp (b7 (hc pins s1 BA H1 _ I1 (turn n BA H1 w1)) fun b s2 ⟨H2,I2,q2⟩ => ?_)
 cases b with
 | true=>
  obtain⟨N,hN,q2⟩:=q2;rw[if_pos rfl];refine wpAny_passesOwn hp (b7 (hb pins s2 BA H2 _ I2 q2) fun f s3 q3 => ?_)
  cases f with
  | next=>
   obtain⟨pO,H3,I3,n3⟩:=q3;obtain⟨m',hm,w3⟩:=hN pO H3 n3;exact⟨m',hm,pO,H3,I3,w3⟩
  | cont=>
   obtain⟨pO,H3,I3,n3⟩:=q3;obtain⟨m',hm,w3⟩:=hN pO H3 n3;exact⟨m',hm,pO,H3,I3,w3⟩
  | brk=>exact q3
  | ret v=>exact q3
 | false=>
  rw[if_neg Bool.false_ne_true];exact wpAny_execs_nil ⟨BA,H2,I2,q2⟩
end
structure It where
 go:Nat->Hp->Prop
 HX:Nat->Hp->V->Hp->Prop
 stop:Nat->Hp->Prop
def lh(X:Cx)(pins:List (Addr×Obj))(H:Hp)(b:Addr):Prop:=
 H b=none/\b≠X.env.locals/\b∉X.fs/\(b∈X.ex\/X.s₀.heap.objs.size<=b)/\(∀ x c,X.env.cells.lookup x=some c->c≠b)/\∀ p∈X.pn++pins,p.1≠b
theorem Inv.uP{X:Cx}{pins:List (Addr×Obj)}{σ:St}{H H':Hp}{s:Shared}{b:Addr}(I:Inv X pins σ H s)(hb:s.heap.objs.size<=b)(hn:H' b=none):lh X pins H' b:=by
 refine⟨hn,Nat.ne_of_gt (Nat.lt_of_lt_of_le I.lt hb),I.Ka hb,.inr (Nat.le_trans I.sz hb),fun x c e z => ?_,fun p hp z => ?_⟩
 ·obtain⟨v,q⟩:=I.cell x c e
  exact absurd (Nat.lt_of_lt_of_le q.lt (by rw[z];exact hb)) (Nat.lt_irrefl _)
 ·exact absurd (Nat.lt_of_lt_of_le (Heap.lt_size (I.pin p hp).1) (by rw[z];exact hb)) (Nat.lt_irrefl _)
structure Turn(P:Program)(w:World)(K:PySem.W.Frag)(tg:Expr)(J:It)(fp:List Addr)(it:Addr)(tn:Nat->Heap->Prop):Prop where
 mem:it∈fp
 obj:∀ i h,tn i h->∀ b∈fp,∃ o,h.get? b=some o/\∀ v,o.data≠.cell v
 keep:∀ i h h',tn i h->(∀ b∈fp,∀ o,h.get? b=some o->h'.get? b=some o)->tn i h'
 item:∀ (X:Cx),X.prog=P->X.w=w->X.K=K->X.calm=true->∀ (i:Nat) (pins:List (Addr×Obj)) (s:Shared) (σ:St) (H:Hp) (E:Value->Shared->Prop),Inv X pins σ H s->(∀ b∈fp,lh X pins H b)->tn i s.heap->J.go i H ->
  wpAny (model P w) X.A (pyNext (.ref it)) (fun r s1=>∃ u,r=some u /\
   wpAny (model P w) X.A (letOwnedTupleGo tg (.ref it) u) (fun _ s2=>∃ x H',Inv X pins σ H' s2/\RelV x u/\J.HX i H x H'/\tn (i + 1) s2.heap/\∀ b∈fp,H' b=none) E s1) E s
 done:∀ (X:Cx),X.prog=P->X.w=w->X.K=K->X.calm=true->∀ (i:Nat) (pins:List (Addr×Obj)) (s:Shared) (σ:St) (H:Hp) (E:Value->Shared->Prop),Inv X pins σ H s->(∀ b∈fp,lh X pins H b)->tn i s.heap->J.stop i H ->
  wpAny (model P w) X.A (pyNext (.ref it)) (fun r s1=>r=none/\Inv X pins σ H s1) E s
 self:∀ (A:Around) (i:Nat) (s:Shared) (Q:Value->Shared->Prop) (E:Value->Shared->Prop),tn i s.heap->Q (.ref it) s->wpAny (model P w) A (pyIter (.ref it)) Q E s
abbrev TI:=St->Hp->(It->Hp->Prop)->Prop
def PIE(X:Cx)(pins:List (Addr×Obj))(σ:St)(tg:Expr)(R:It->Hp->Prop)(itv:Value)(s2:Shared):Prop:=
 ∃ (it:Addr) (fp:List Addr) (tn:Nat->Heap->Prop) (J:It) (H':Hp),itv=.ref it/\Inv X pins σ H' s2/\Turn X.prog X.w X.K tg J fp it tn/\tn 0 s2.heap/\(∀ b∈fp,lh X pins H' b)/\R J H'
def PI(X:Cx)(tg iter:Expr)(wi:TI):Prop:=
 ∀ (pins:List (Addr×Obj)) (s:Shared) (σ:St) (H:Hp) (R:It->Hp->Prop),Inv X pins σ H s->wi σ H R ->
  wpAny (model X.prog X.w) X.A (eval iter X.env) (fun v s1=>wpAny (model X.prog X.w) X.A (pyIter v) (PIE X pins σ tg R) X.xe s1) X.xe s
theorem rb{M:Model}{A:Around}{E:Value->Shared->Prop}{s:Shared}{tg:Expr}{it:Addr}{u:Value}{o:Obj}{n:String}{vs:Array Value}{Q:Unit->Shared->Prop}(ho:s.heap.get? it=some o)(hc:o.cls=.type n)(hd:o.data=.fields vs)
    (hn:["enumerate","zip","dict_itemiterator","dict_reverseitemiterator","odict_iterator","itertools.zip_longest","itertools.pairwise"].contains n=false) (hQ:Q () s):wpAny M A (letOwnedTupleGo tg (.ref it) u) Q E s:=by
  unfold letOwnedTupleGo
  cases tg<;>first
    | exact wpAny_pure hQ
    | (cases u<;>first
        | exact wpAny_pure hQ
        | (refine wpAny_bind (wpAny_load ho ?_)
           rw[hc,hd]
           show wpAny M A (if (["enumerate","zip","dict_itemiterator","dict_reverseitemiterator","odict_iterator","itertools.zip_longest","itertools.pairwise"].contains n && vs[0]? == some (rawInt _))=true then _ else _) Q E s
           rw[if_neg (by intro h;rw[hn,Bool.false_and]at h;cases h)]
           exact wpAny_pure hQ))
noncomputable def Kj(K:PySem.W.Frag)(a:Addr):It:=
 ⟨fun i H=>∃ xs x,i7 K H a xs/\xs[i]?=some x,fun i H x H'=>H'=H/\∀ xs,i7 K H a xs->xs[i]?=some x,fun i H=>∃ xs,i7 K H a xs/\xs.length<=i⟩
noncomputable def Kk(K:PySem.W.Frag)(a:Addr):It:=
 ⟨fun i H=>∃ xs x,fS K H a xs/\xs[i]?=some x,fun i H x H'=>H'=H/\∀ xs,fS K H a xs->xs[i]?=some x,fun i H=>∃ xs,fS K H a xs/\xs.length<=i⟩
noncomputable def ED(lo:Int)(n:Nat):It:=⟨fun i _=>i < n,fun i H x H'=>H'=H/\x=.int (lo + i),fun i _=>n<=i⟩
theorem tj{P:Program}{w:World}{K:PySem.W.Frag}{tg:Expr}(a it:Addr):Turn P w K tg (Kj K a) [it] it (fun i h=>h.IsListIter it a i) where
 mem:=by simp
 obj:=fun i h st b hb=>by
  have e:b=it:=by simpa using hb
  subst e;obtain⟨o,e,c,d⟩:=st;exact⟨o,e,fun v z=>by rw[d]at z;cases z⟩
 keep:=fun i h h' st k=>st.at fun o e=>k it (by simp) o e
 item:=by
  intro X hP hw hK hc i pins s σ H E I hf st hg;subst hP hw hK;obtain⟨xs,x,hq,hx⟩:=hg;obtain⟨its,rv,p,hz⟩:=I.list hq;obtain⟨u,hu,ru⟩:=rv.get hx;obtain⟨f0,f1,f2,f3,f4,f5⟩:=hf it (by simp)
  refine wpAny_pyNext_list_item st p.isList (x:=u) (by simpa using hu) fun h' st' sb => ?_
  have I1:Inv X pins σ H { s with heap:=h' }:=I.turned (t':=s.toks) (fun b o hb e=>(sb.2 b hb).trans e) f0 f1 f3 f4 f5
  obtain⟨o,e,c,d⟩:=id st';exact⟨u,rfl,rb (s:={ s with heap:=h' }) e c d (by decide) ⟨x,H,I1,ru,⟨rfl,fun ys hy=>by rw[I.nY hy hq];exact hx⟩,st',fun b hb=>(hf b hb).1⟩⟩
 done:=by
  intro X hP hw hK hc i pins s σ H E I hf st hg;subst hP hw hK;obtain⟨xs,hq,hx⟩:=hg;obtain⟨its,rv,p,hz⟩:=I.list hq;obtain⟨f0,f1,f2,f3,f4,f5⟩:=hf it (by simp)
  have hl:=rv.length;exact wpAny_pyNext_list_end (I.ok.hd hc) st p.isList (by simp;omega) fun h' eb=>⟨rfl,I.turned (t':=s.toks) (fun b o hb e=>eb b o hb e) f0 f1 f3 f4 f5⟩
 self:=fun _ _ _ _ _ st h=>wpAny_pyIter_listiter st h
theorem pP{P:Program}{w:World}{K:PySem.W.Frag}{tg:Expr}(a it:Addr):Turn P w K tg (Kk K a) [it] it (fun i h=>h.IsTupleIter it a i) where
 mem:=by simp
 obj:=fun i h st b hb=>by
  have e:b=it:=by simpa using hb
  subst e;obtain⟨o,e,c,d⟩:=st;exact⟨o,e,fun v z=>by rw[d]at z;cases z⟩
 keep:=fun i h h' st k=>st.at fun o e=>k it (by simp) o e
 item:=by
  intro X hP hw hK hc i pins s σ H E I hf st hg;subst hP hw hK;obtain⟨xs,x,hq,hx⟩:=hg;obtain⟨its,rv,p,hz⟩:=I.tuple hq;obtain⟨u,hu,ru⟩:=rv.get hx;obtain⟨f0,f1,f2,f3,f4,f5⟩:=hf it (by simp)
  refine wpAny_pyNext_tuple_item st (show s.heap.IsTuple a its.toArray from p) (x:=u) (by simpa using hu) fun h' st' sb => ?_
  have I1:Inv X pins σ H { s with heap:=h' }:=I.turned (t':=s.toks) (fun b o hb e=>(sb.2 b hb).trans e) f0 f1 f3 f4 f5
  obtain⟨o,e,c,d⟩:=id st';exact⟨u,rfl,rb (s:={ s with heap:=h' }) e c d (by decide) ⟨x,H,I1,ru,⟨rfl,fun ys hy=>by rw[I.lG hy hq];exact hx⟩,st',fun b hb=>(hf b hb).1⟩⟩
 done:=by
  intro X hP hw hK hc i pins s σ H E I hf st hg;subst hP hw hK;obtain⟨xs,hq,hx⟩:=hg;obtain⟨its,rv,p,hz⟩:=I.tuple hq;obtain⟨f0,f1,f2,f3,f4,f5⟩:=hf it (by simp)
  have hl:=rv.length;exact wpAny_pyNext_tuple_end (I.ok.hd hc) st (show s.heap.IsTuple a its.toArray from p) (by simp;omega) fun h' eb=>⟨rfl,I.turned (t':=s.toks) (fun b o hb e=>eb b o hb e) f0 f1 f3 f4 f5⟩
 self:=fun _ _ _ _ _ st h=>wpAny_pyIter_tupleiter st h
theorem pQ{P:Program}{w:World}{K:PySem.W.Frag}{tg:Expr}(it:Addr)(lo:Int)(n:Nat):Turn P w K tg (ED lo n) [it] it (fun i h=>IsRangeIter h it (lo + (i:Nat) * 1) ((n:Int) - (i:Nat)) 1) where
 mem:=by simp
 obj:=fun i h st b hb=>by
  have e:b=it:=by simpa using hb
  subst e
  exact⟨_,st,fun v z=>by
   have z':Data.fields _=Data.cell v:=z;cases z'⟩
 keep:=fun i h h' st k=>k it (by simp) _ st
 item:=by
  intro X hP hw hK hc i pins s σ H E I hf st hg;subst hP hw hK;obtain⟨f0,f1,f2,f3,f4,f5⟩:=hf it (by simp)
  have W:=Walks.range (prog:=X.prog) (w:=X.w) (I.ok.hd hc) it lo 1 n;refine W.item i s _ _ hg st fun v h' tk hv st' kk => ?_
  obtain⟨t,rfl⟩:=hv;have I1:Inv X pins σ H { s with heap:=h',toks:=tk }:=I.turned (fun b o hb e=>kk b o (by simpa using hb) e) f0 f1 f3 f4 f5
  refine⟨_,rfl,rb (s:={ s with heap:=h',toks:=tk }) (n:="range_iterator") st' rfl rfl (by decide) ⟨.int (lo + i),H,I1,⟨t,?_⟩,⟨rfl,rfl⟩,st',fun b hb=>(hf b hb).1⟩⟩
  rw[Int.mul_one]
 done:=by
  intro X hP hw hK hc i pins s σ H E I hf st hg;subst hP hw hK;obtain⟨f0,f1,f2,f3,f4,f5⟩:=hf it (by simp)
  exact wpAny_pyNext_range_end (I.ok.hd hc) st (by have:n<=i:=hg;omega) fun h' eb=>⟨rfl,I.turned (t':=s.toks) (fun b o hb e=>eb b o hb e) f0 f1 f3 f4 f5⟩
 self:=fun _ _ _ _ _ st h=>wpAny_pyIter_rangeiter st h
section
variable{X:Cx}{tg:Expr}
theorem uQ{pins:List (Addr×Obj)}{σ:St}{H:Hp}{s:Shared}{R:It->Hp->Prop}{E:Value->Shared->Prop}{lo hi:Int}{t u v:Tok}{tk:Nat}(I:Inv X pins σ H s)(h1 : -(2 ^ 62)<=lo)(h2:lo < 2 ^ 62)(h3 : -(2 ^ 62)<=hi)(h4:hi < 2 ^ 62)
  (q:R (ED lo (hi - lo).toNat) H):wpAny (model X.prog X.w) X.A (pyIter (.ref s.heap.objs.size)) (PIE X pins σ tg R) E { s with heap:=s.heap.push { cls:=.type "range",data:=.fields #[.int lo t,.int hi u,.int 1 v] },toks:=tk }:=by
 refine wpAny_pyIter_range (IsRange.new ..) (small_one h1 h2 h3 h4) ?_;have I1:Inv X pins σ H { s with heap:=s.heap.push { cls:=.type "range",data:=.fields #[.int lo t,.int hi u,.int 1 v] },toks:=tk }:=I.kept fun b o e=>Heap.get?_push_of_some _ e
 refine⟨(s.heap.push { cls:=.type "range",data:=.fields #[.int lo t,.int hi u,.int 1 v] }).objs.size,[(s.heap.push { cls:=.type "range",data:=.fields #[.int lo t,.int hi u,.int 1 v] }).objs.size],_,_,H,rfl,
  I1.kept (t':=tk) fun b o e=>Heap.get?_push_of_some _ e,pQ _ lo (hi - lo).toNat,?_,fun b hb => ?_,q⟩
 ·have e1:lo + ((0:Nat):Int) * 1=lo:=by simp
  have e2:(((hi - lo).toNat:Nat):Int) - ((0:Nat):Int)=Builtin.Range.rangeSize lo hi 1:=by rw[rangeSize_one];split<;>omega
  show IsRangeIter _ _ (lo + ((0:Nat):Int) * 1) ((((hi - lo).toNat:Nat):Int) - ((0:Nat):Int)) 1
  rw[e1,e2];exact Heap.get?_push_size _ rfl
 ·have e:b=(s.heap.push { cls:=.type "range",data:=.fields #[.int lo t,.int hi u,.int 1 v] }).objs.size:=by simpa using hb
  subst e;exact I1.uP (Nat.le_refl _) (I1.hok.fresh (Nat.le_refl _))
def EE(ta:TA):TI:=fun σ H R=>ta σ H fun vs H1=>∃ j:Int,vs=[.int j] /\ -(2 ^ 62)<=j/\j < 2 ^ 62/\R (ED 0 j.toNat) H1
theorem tm{a:Expr}{ta:TA}{p pos:Pos}(hg:Gl X "range")(hm:X.mg "range"=none)(ha:PA X [a] ta)(hs:starEach [a] X.env=[(false,eval a X.env)]:=by rfl):PI X tg (.Call (.Name "range" p) [a] [] pos) (EE ta):=by
 intro pins s σ H R I h;refine Call_ (g_ I hg hm boot_range (PyProof.Rows.callWith_type1 (b7 (ha pos pins s σ H _ I h) fun us s1 ⟨vs,H1,I1,r1,q1⟩ => ?_) hs rfl))
 obtain⟨j,e,q1,q2,q⟩:=q1;subst e;cases r1 with
 | cons r rr=>
  cases rr;obtain⟨t,rfl⟩:=r;exact call_range_1 (uQ I1 (by omega) (by omega) q1 q2 (by simpa using q))
noncomputable def Kl(wi:TI)(g:TG)(tb:TS):TS:=fun D σ H=>wi σ H fun J H1=>∃ W:Nat->Nat->St->Hp->Prop,(∃ m,W 0 m σ H1)/\∀ i m σ H,W i m σ H ->
 (J.stop i H/\D.nx σ H)\/(J.go i H/\∃ N:St->Hp->Prop,(∀ σ' H',N σ' H'->∃ m',m' < m/\W (i + 1) m' σ' H')/\∀ x H',J.HX i H x H'->g x σ H' fun HY H2=>tb { D with nx:=N,ct:=N,bk:=D.nx } HY H2)
noncomputable def jX(fp:List Addr)(h:Heap):List (Addr×Obj):=fp.filterMap fun b=>(h.get? b).map fun o=>(b,o)
theorem fy{fp:List Addr}{h:Heap}{b:Addr}{o:Obj}(hb:b∈fp)(e:h.get? b=some o):(b,o)∈jX fp h:=List.mem_filterMap.mpr ⟨b,hb,by rw[e];rfl⟩
theorem tq{fp:List Addr}{h:Heap}{p:Addr×Obj}(hp:p∈jX fp h):p.1∈fp/\h.get? p.1=some p.2:=by
 obtain⟨b,hb,e⟩:=List.mem_filterMap.mp hp;cases q:h.get? b with
 | none=>rw[q]at e;cases e
 | some o=>
  rw[q]at e;have e':(b,o)=p:=Option.some.inj e;subst e';exact⟨hb,q⟩
theorem Inv.pinned{pins:List (Addr×Obj)}{σ:St}{H:Hp}{s:Shared}{fp:List Addr}(I:Inv X pins σ H s)(hf:∀ b∈fp,lh X pins H b)(ho:∀ b∈fp,∃ o,s.heap.get? b=some o/\∀ v,o.data≠.cell v):Inv X (pins++jX fp s.heap) σ H s:=
 I.q_ fun p hp=>(List.mem_append.mp hp).elim (fun z=>I.pin p (List.mem_append_right _ z)) fun z=>by
  obtain⟨hb,e⟩:=tq z;obtain⟨f0,f1,f2,_⟩:=hf p.1 hb;obtain⟨o,e',d⟩:=ho p.1 hb;rw[e]at e';cases e'
  exact⟨e,f0,f1,f2,d⟩
theorem Inv.ik{pins pl:List (Addr×Obj)}{σ:St}{H:Hp}{s:Shared}(I:Inv X (pins++pl) σ H s):Inv X pins σ H s:=I.q_ fun p hp=>I.pin p (List.mem_append_right _ (List.mem_append_left _ hp))
theorem BG{iter:Expr}{body:List Stmt}{wi:TI}{g:TG}{tb:TS}{pos:Pos}(hp:PassesOwn (model X.prog X.w) X.A X.env X.xe)(hc:X.calm=true)(hi:PI X tg iter wi)(hg:PG X tg g)(hb:ij X body tb)
  (hs:∀ x,foldedSetIterable iter X.env x=pure x:=by intro _;rfl):PS X (.For tg iter body [] pos) (Kl wi g tb):=by
 intro pins s σ H D I h;refine wpAny_For (b7 (hi pins s σ H _ I h) fun v s1 h1=>b7 h1 fun itv s2 h2 => ?_) hs
 obtain⟨it,fp,tn,J,H2,e,I2,T,st2,f2,W,⟨m0,w0⟩,turn⟩:=h2;subst e;have stat:∀ {H':Hp},(∀ b∈fp,H' b=none)->∀ b∈fp,lh X pins H' b:=fun hn b hb=>⟨hn b hb,(f2 b hb).2⟩
 refine codeAny_forLoop_any (fun n s'=>∃ i σ' H',Inv X pins σ' H' s'/\tn i s'.heap/\(∀ b∈fp,H' b=none)/\W i n σ' H') ?_ m0 ⟨0,σ,H2,I2,st2,fun b hb=>(f2 b hb).1,w0⟩
 rintro n s3 ⟨i,pO,H3,I3,st3,NA,w3⟩;rcases turn i n pO H3 w3 with ⟨stop,qn⟩ | ⟨go,N,hN,step⟩
 ·refine wpAny_passesOwn hp (b7 (T.done X rfl rfl rfl hc i pins s3 pO H3 X.xe I3 (stat NA) st3 stop) fun r s4 ⟨hr,I4⟩ => ?_)
  subst hr;exact wpAny_execs_nil ⟨pO,H3,I4,qn⟩
 ·refine wpAny_passesOwn hp (b7 (T.item X rfl rfl rfl hc i pins s3 pO H3 X.xe I3 (stat NA) st3 go) fun r s4 ⟨u,hr,h4⟩ => ?_)
  subst hr;refine wpAny_passesOwn hp (b7 h4 fun _ s5 ⟨x,H5,I5,r5,y5,D8,Ph⟩ => ?_)
  have Pj:=I5.pinned (stat Ph) (T.obj _ _ D8);refine wpAny_passesOwn hp (b7 (hg _ s5 pO H5 x u _ Pj r5 (step x H5 y5)) fun _ s6 ⟨HZ,H6,I6,q6⟩ => ?_)
  refine wpAny_passesOwn hp (b7 (hb _ s6 HZ H6 _ I6 q6) fun f s7 q7 => ?_)
  have again:∀ {uR:St} {H7:Hp},Inv X (pins++jX fp s5.heap) uR H7 s7->N uR H7->∃ m,m < n/\∃ i σ' H',Inv X pins σ' H' s7/\tn i s7.heap/\(∀ b∈fp,H' b=none)/\W i m σ' H':=fun {uR H7} I7 n7=>by
   obtain⟨m',hm,w7⟩:=hN uR H7 n7;refine⟨m',hm,i + 1,uR,H7,I7.ik,T.keep _ _ _ D8 fun b hb o e=>(I7.pin (b,o) (List.mem_append_right _ (List.mem_append_right _ (fy hb e)))).1,fun b hb => ?_,w7⟩
   obtain⟨o,e,d⟩:=T.obj _ _ D8 b hb;exact(I7.pin (b,o) (List.mem_append_right _ (List.mem_append_right _ (fy hb e)))).2.1
  cases f with
  | next=>obtain⟨uR,H7,I7,n7⟩:=q7;exact again I7 n7
  | cont=>obtain⟨uR,H7,I7,n7⟩:=q7;exact again I7 n7
  | brk=>obtain⟨uR,H7,I7,q7⟩:=q7;exact⟨uR,H7,I7.ik,q7⟩
  | ret v=>obtain⟨x7,uR,H7,I7,r7,q7⟩:=q7;exact⟨x7,uR,H7,I7.ik,r7,q7⟩
end
abbrev R2:=V->V->Hp->VK->Prop
def fT(X:Cx)(f:Value->Value->Sem Value)(r:R2):Prop:=
 ∀ (pins:List (Addr×Obj)) (s:Shared) (σ:St) (H:Hp) (x y:V) (v u:Value) (Q:VK),Inv X pins σ H s->RelV x v->RelV y u->r x y H Q ->
  wpAny (model X.prog X.w) X.A (f v u) (EP X pins σ Q) X.xe s
def Km(X:Cx)(f:Value->Sem Value)(r:V->Hp->VK->Prop):Prop:=
 ∀ (pins:List (Addr×Obj)) (s:Shared) (σ:St) (H:Hp) (x:V) (v:Value) (Q:VK),Inv X pins σ H s->RelV x v->r x H Q ->
  wpAny (model X.prog X.w) X.A (f v) (EP X pins σ Q) X.xe s
def dQ(X:Cx)(f:Value)(r:List V->Hp->VK->Prop):Prop:=
 ∀ (pins:List (Addr×Obj)) (s:Shared) (σ:St) (H:Hp) (xs:List V) (us:List Value) (Q:VK),Inv X pins σ H s->Vals xs us->r xs H Q ->
  wpAny (model X.prog X.w) X.A (call f us) (EP X pins σ Q) X.xe s
def Kn(X:Cx)(r:V->Hp->(Bool->Hp->Prop)->Prop):Prop:=
 ∀ (pins:List (Addr×Obj)) (s:Shared) (σ:St) (H:Hp) (x:V) (v:Value) (Q:Bool->Hp->Prop),Inv X pins σ H s->RelV x v->r x H Q ->
  wpAny (model X.prog X.w) X.A (truthy v) (TP X pins σ Q) X.xe s
noncomputable def D9(r:R2)(ta tb:TE):TE:=fun σ H Q=>ta σ H fun x H1=>tb σ H1 fun y H2=>r x y H2 Q
noncomputable def Pk(r:V->Hp->VK->Prop)(ta:TE):TE:=fun σ H Q=>ta σ H fun x H1=>r x H1 Q
noncomputable def rI(C:Int->Int->Prop)(g:Int->Int->V):R2:=fun x y H Q=>∃ i j,x=.int i/\y=.int j/\C i j/\Q (g i j) H
noncomputable def yj(g:Int->Int->V):R2:=fun x y H Q=>∃ i j,x=.int i/\y=.int j/\Q (g i j) H
def rU(g:Int->V):V->Hp->VK->Prop:=fun x H Q=>∃ i,x=.int i/\Q (g i) H
section
variable{X:Cx}{a b c:Expr}{ta tb tc:TE}{pos:Pos}
theorem BH(ha:PE X a ta)(hb:PE X b tb){pins:List (Addr×Obj)}{s:Shared}{σ:St}{H:Hp}{R:V->V->Hp->Prop}(I:Inv X pins σ H s)
  (h:ta σ H fun x H1=>tb σ H1 fun y H2=>R x y H2) {Q:Value->Shared->Prop} {f:Value->Value->Sem Value}
  (hf:∀ v u s2 x y H2,Inv X pins σ H2 s2->RelV x v->RelV y u->R x y H2->wpAny (model X.prog X.w) X.A (f v u) Q X.xe s2) :
  wpAny (model X.prog X.w) X.A (eval a X.env) (fun v s₁=>wpAny (model X.prog X.w) X.A (eval b X.env) (fun u s₂=>wpAny (model X.prog X.w) X.A (f v u) Q X.xe s₂) X.xe s₁) X.xe s:=by
 refine b7 (ha pins s σ H _ I h) fun v s1 ⟨x,H1,I1,r1,q1⟩ => ?_
 refine b7 (hb pins s1 σ H1 _ I1 q1) fun u s2 ⟨y,H2,I2,r2,q2⟩ => ?_
 exact hf v u s2 x y H2 I2 r1 r2 q2
theorem uS{op:Operator}{r:R2}(ho:fT X (binaryOp op) r)(ha:PE X a ta)(hb:PE X b tb):PE X (.BinOp a op b pos) (D9 r ta tb):=by
 intro pins s σ H Q I h;exact wpAny_BinOp (BH ha hb I h fun v u s2 x y H2 I2 rx ry q=>ho pins s2 σ H2 x y v u Q I2 rx ry q)
theorem EF{op:UnaryOp}{r:V->Hp->VK->Prop}(ho:Km X (unaryOp op) r)(ha:PE X a ta):PE X (.UnaryOp op a pos) (Pk r ta):=by
 intro pins s σ H Q I h;exact UnaryOp_ (b7 (ha pins s σ H _ I h) fun v s1 ⟨x,H1,I1,r1,q1⟩=>ho pins s1 σ H1 x v Q I1 r1 q1)
theorem H_{f:Value->Value->Sem Value}{C:Int->Int->Prop}{g:Int->Int->Int}
  (rule:∀ (i j:Int) (t u:Tok) (s:Shared) (Q:Value->Shared->Prop) (E:Value->Shared->Prop),C i j->Q (.int (g i j) s.toks) { s with toks:=s.toks + 1 }->wpAny (model X.prog X.w) X.A (f (.int i t) (.int j u)) Q E s) :
  fT X f (rI C fun i j=>.int (g i j)):=by
 intro pins s σ H x y v u Q I rx ry h;obtain⟨i,j,rfl,rfl,hc,q⟩:=h;obtain⟨t,rfl⟩:=rx;obtain⟨t',rfl⟩:=ry;exact rule i j t t' s _ _ hc ⟨.int (g i j),H,I.tok _,⟨_,rfl⟩,q⟩
theorem EG{f:Value->Value->Sem Value}{g:Int->Int->Int}
  (rule:∀ (i j:Int) (t u:Tok) (s:Shared) (Q:Value->Shared->Prop) (E:Value->Shared->Prop),Q (.int (g i j) s.toks) { s with toks:=s.toks + 1 }->wpAny (model X.prog X.w) X.A (f (.int i t) (.int j u)) Q E s) :
  fT X f (yj fun i j=>.int (g i j)):=by
 intro pins s σ H x y v u Q I rx ry h;obtain⟨i,j,rfl,rfl,q⟩:=h;obtain⟨t,rfl⟩:=rx;obtain⟨t',rfl⟩:=ry;exact rule i j t t' s _ _ ⟨.int (g i j),H,I.tok _,⟨_,rfl⟩,q⟩
theorem yk{f:Value->Value->Sem Value}{g:Int->Int->Bool}
  (rule:∀ (i j:Int) (t u:Tok) (s:Shared) (Q:Value->Shared->Prop) (E:Value->Shared->Prop),Q (.bool (g i j)) s->wpAny (model X.prog X.w) X.A (f (.int i t) (.int j u)) Q E s) :
  fT X f (yj fun i j=>.bl (g i j)):=by
 intro pins s σ H x y v u Q I rx ry h;obtain⟨i,j,rfl,rfl,q⟩:=h;obtain⟨t,rfl⟩:=rx;obtain⟨t',rfl⟩:=ry;exact rule i j t t' s _ _ ⟨.bl (g i j),H,I,rfl,q⟩
def EH(i j:Int):Prop:=0 < j/\j < 1073741824
def EJ(i j:Int):Prop:=0<=j/\j<=1000000/\i.natAbs < 2 ^ 64
def ym(i j:Int):Prop:=(-(2 ^ 64) < i/\i < 2 ^ 64)\/(-(2 ^ 64) < j/\j < 2 ^ 64)
theorem ym.ok{i j:Int}(h:ym i j):IntMulOk i j:=by
 rcases h with ⟨h1,h2⟩ | ⟨h1,h2⟩
 ·exact .of_left (intBits_le_64 h1 h2)
 ·exact .of_right (intBits_le_64 h1 h2)
theorem BI:fT X (binaryOp .Add) (yj fun i j=>.int (i + j)):=EG fun _ _ _ _ _ _ _ q=>add_int q
theorem BJ:fT X (binaryOp .Sub) (yj fun i j=>.int (i - j)):=EG fun _ _ _ _ _ _ _ q=>sub_int q
theorem BK:fT X (binaryOp .Mult) (rI ym fun i j=>.int (i * j)):=H_ fun _ _ _ _ _ _ _ hc q=>mul_int q hc.ok
theorem yo:fT X (binaryOp .FloorDiv) (rI EH fun i j=>.int (i / j)):=H_ fun i j _ _ _ _ _ hc q=>by
 have h1:(0:Int) < j:=hc.1;have h2:j < 1073741824:=hc.2;exact floordiv_int (by omega) (by rw[Int.fdiv_eq_ediv_of_nonneg i (by omega)];exact q) (.inl (PyProof.noPylong_small (by omega)))
theorem BL:fT X (binaryOp .Mod) (rI (fun _ j=>0 < j) fun i j=>.int (i % j)):=H_ fun i j _ _ _ _ _ hc q=>by
 have h1:(0:Int) < j:=hc;exact mod_int' (by omega) (by rw[Int.fmod_eq_emod_of_nonneg i (by omega)];exact q)
theorem BN:fT X (binaryOp .Pow) (rI EJ fun i j=>.int (i ^ j.toNat)):=H_ fun _ _ _ _ _ _ _ hc q=>pow_int_small hc.1 hc.2.1 hc.2.2 q
theorem Pl{f:Value->Sem Value}{g:Int->Int}
  (rule:∀ (i:Int) (t:Tok) (s:Shared) (Q:Value->Shared->Prop) (E:Value->Shared->Prop),Q (.int (g i) s.toks) { s with toks:=s.toks + 1 }->wpAny (model X.prog X.w) X.A (f (.int i t)) Q E s) :
  Km X f (rU fun i=>.int (g i)):=by
 intro pins s σ H x v Q I rx h;obtain⟨i,rfl,q⟩:=h;obtain⟨t,rfl⟩:=rx;exact rule i t s _ _ ⟨.int (g i),H,I.tok _,⟨_,rfl⟩,q⟩
theorem BO:Km X (unaryOp .USub) (rU fun i=>.int (-i)):=Pl fun _ _ _ _ _ q=>neg_int q
theorem my{pins:List (Addr×Obj)}{σ:St}{H:Hp}{s:Shared}{Q:VK}{k k':Bool}(I:Inv X pins σ H s)(q:Q (.bl k) H)(e:k=k'):EP X pins σ Q (.bool k') s:=by
 subst e;exact⟨.bl k,H,I,rfl,q⟩
theorem EK:fT X (compareOp .Lt) (yj fun i j=>.bl (decide (i < j))):=yk fun _ _ _ _ _ _ _ q=>lt_int q
theorem EL:fT X (compareOp .LtE) (yj fun i j=>.bl (decide (i<=j))):=yk fun _ _ _ _ _ _ _ q=>le_int q
theorem EN:fT X (compareOp .Gt) (yj fun i j=>.bl (decide (j < i))):=yk fun _ _ _ _ _ _ _ q=>gt_int q
theorem EO:fT X (compareOp .GtE) (yj fun i j=>.bl (decide (j<=i))):=yk fun _ _ _ _ _ _ _ q=>ge_int q
theorem tw:fT X (compareOp .In) (fun x y H Q=>∃ i j,x=.str i/\y=.str j/\Q (.bl (!(Builtin.Str.occurrences j i 0 j.length 1).isEmpty)) H):=by
 intro pins s σ H x y v u Q I rx ry h;obtain⟨i,j,rfl,rfl,q⟩:=h;obtain⟨t,rfl⟩:=rx;obtain⟨t',rfl⟩:=ry;exact in_str (my I q rfl)
theorem uT:fT X (compareOp .Is) (fun x y H Q=>y=.non/\Q (.bl (decide (x=.non))) H):=by
 intro pins s σ H x y v u Q I rx ry h;obtain⟨rfl,q⟩:=h;cases ry;refine is_none_gen (my I q ?_)
 cases x<;>first
  | (cases rx;rfl)
  | (obtain⟨t,rfl⟩:=rx;rfl)
theorem rf:fT X (compareOp .IsNot) (fun x y H Q=>y=.non/\Q (.bl (!decide (x=.non))) H):=by
 intro pins s σ H x y v u Q I rx ry h;obtain⟨rfl,q⟩:=h;cases ry;refine isnot_none_gen (my I q ?_)
 cases x<;>first
  | (cases rx;rfl)
  | (obtain⟨t,rfl⟩:=rx;rfl)
theorem mz:fT X (compareOp .NotIn) (fun x y H Q=>∃ i j,x=.str i/\y=.str j/\Q (.bl (!(!(Builtin.Str.occurrences j i 0 j.length 1).isEmpty))) H):=by
 intro pins s σ H x y v u Q I rx ry h;obtain⟨i,j,rfl,rfl,q⟩:=h;obtain⟨t,rfl⟩:=rx;obtain⟨t',rfl⟩:=ry;exact notIn_str (my I q rfl)
theorem fT.or{f:Value->Value->Sem Value}{r r':R2}(h:fT X f r)(h':fT X f r'):fT X f (fun x y H Q=>r x y H Q\/r' x y H Q):=by
 intro pins s σ H x y v u Q I rx ry q;rcases q with q | q
 ·exact h pins s σ H x y v u Q I rx ry q
 ·exact h' pins s σ H x y v u Q I rx ry q
theorem il{op:CmpOp}{r:R2}(ho:fT X (compareOp op) r)(ha:PE X a ta)(hb:PE X b tb)(hm:behindInMarks op b=false):PE X (.Compare a [op] [b] pos) (D9 r ta tb):=by
 intro pins s σ H Q I h;exact wpAny_Compare1 (BH ha hb I h fun v u s2 x y H2 I2 rx ry q=>ho pins s2 σ H2 x y v u Q I2 rx ry q) hm
noncomputable def uU(t:TE):TT:=fun σ H Q=>t σ H fun x H'=>∃ k,x=.bl k/\Q k H'
theorem ip{op:CmpOp}{r:R2}(ho:fT X (compareOp op) r)(ha:PE X a ta)(hb:PE X b tb)(hm:behindInMarks op b=false):PT X (.Compare a [op] [b] pos) (uU (D9 r ta tb)):=by
 intro pins s σ H Q I h
 refine wpAny_isTrue_Compare1 (b7 (ha pins s σ H _ I h) fun v s1 ⟨x,H1,I1,r1,q1⟩=>b7 (hb pins s1 σ H1 _ I1 q1) fun u s2 ⟨y,H2,I2,r2,q2⟩=>
  b7 (ho pins s2 σ H2 x y v u _ I2 r1 r2 q2) fun c s3 ⟨z,H3,I3,r3,k,e,q3⟩ => ?_) hm
 subst e;cases r3;exact wpAny_truthy_bool ⟨H3,I3,q3⟩
noncomputable def pR(r r':R2)(ta tb tc:TE):TE:=fun σ H Q=>ta σ H fun x H1=>tb σ H1 fun y H2=>r x y H2 fun z H3=>∃ k,z=.bl k /\
 (if k=true then tc σ H3 fun w' H4=>r' y w' H4 Q else Q (.bl false) H3)
theorem uV{op op':CmpOp}{r r':R2}(ho:fT X (compareOp op) r)(ho':fT X (compareOp op') r')(ha:PE X a ta)(hb:PE X b tb)(hc:PE X c tc)
  (hm:lastMarks [op,op'] [b,c]=false:=by with_unfolding_all rfl):PE X (.Compare a [op,op'] [b,c] pos) (pR r r' ta tb tc):=by
 intro pins s σ H Q I h
 refine Compare_chain (b7 (ha pins s σ H _ I h) fun v s1 ⟨x,H1,I1,r1,q1⟩=>chain_link (b7 (hb pins s1 σ H1 _ I1 q1) fun u s2 ⟨y,H2,I2,r2,q2⟩=>
  b7 (ho pins s2 σ H2 x y v u _ I2 r1 r2 q2) fun d s3 ⟨z,H3,I3,r3,k,e,q3⟩ => ?_)) hm
 subst e;cases r3;refine wpAny_truthy_bool ?_;cases k with
 | false=>exact ite_ff ⟨.bl false,H3,I3,rfl,q3⟩
 | true=>exact ite_tt (chain_last (b7 (hc pins s3 σ H3 _ I3 q3) fun w' s4 ⟨z',H4,I4,r4,q4⟩=>ho' pins s4 σ H4 y z' u w' Q I4 r2 r4 q4))
theorem uW{op op':CmpOp}{r r':R2}(ho:fT X (compareOp op) r)(ho':fT X (compareOp op') r')(ha:PE X a ta)(hb:PE X b tb)(hc:PE X c tc)
  (hm:lastMarks [op,op'] [b,c]=false:=by with_unfolding_all rfl):PT X (.Compare a [op,op'] [b,c] pos) (uU (pR r r' ta tb tc)):=by
 intro pins s σ H Q I h
 refine isTrue_chain (b7 (ha pins s σ H _ I h) fun v s1 ⟨x,H1,I1,r1,q1⟩=>test_link (b7 (hb pins s1 σ H1 _ I1 q1) fun u s2 ⟨y,H2,I2,r2,q2⟩=>
  b7 (ho pins s2 σ H2 x y v u _ I2 r1 r2 q2) fun d s3 ⟨z,H3,I3,r3,k,e,q3⟩ => ?_)) hm
 subst e;cases r3;refine wpAny_truthy_bool ?_;cases k with
 | false=>
  obtain⟨k',e',q'⟩:=q3;cases e';exact ite_ff ⟨H3,I3,q'⟩
 | true=>
  refine ite_tt (test_last (b7 (hc pins s3 σ H3 _ I3 q3) fun w' s4 ⟨z',H4,I4,r4,q4⟩=>b7 (ho' pins s4 σ H4 y z' u w' _ I4 r2 r4 q4) fun d' s5 ⟨z2,H5,I5,r5,k2,e2,q5⟩ => ?_))
  subst e2;cases r5;exact wpAny_truthy_bool ⟨H5,I5,q5⟩
def n4(K:PySem.W.Frag)(x:V)(H:Hp)(k:Bool):Prop:=
 match x with
 | .non=>k=false
 | .bl b=>k=b
 | .int i=>k=(i != 0)
 | .str y=>y.length<=sizeLine/\k=((y.length:Int) != 0)
 | .D3 y=>y.size<=sizeLine/\k=((y.size:Int) != 0)
 | .ref p=>(∃ xs,i7 K H p xs/\k = !xs.isEmpty)\/(∃ xs,fS K H p xs/\k = !xs.isEmpty)\/∃ kvs,H p=some (.dK kvs)/\k = !kvs.isEmpty
 | _=>False
theorem pS{κ:Type}{kvs:List (κ×V)}{vs:List (κ×Value)}(r:KV kvs vs):(!vs.isEmpty) = !kvs.isEmpty:=by
 cases r<;>rfl
theorem jY{xs:List V}{its:List Value}(r:Vals xs its):(!its.toArray.isEmpty) = !xs.isEmpty:=by
 cases r<;>simp
theorem hU:(sizeLine:Nat) < 2 ^ 63:=by rw[sizeLine_eq];decide
theorem mB:Kn X (fun x H Q=>∃ k,n4 X.K x H k/\Q k H):=by
 intro pins s σ H x v Q I rx h;obtain⟨k,e,q⟩:=h;have hl:=hU;have hs:sizeLine=16777216:=sizeLine_eq;cases x with
 | non=>
  cases rx;have e':k=false:=e;subst e';exact truthy_none ⟨H,I,q⟩
 | bl b=>
  cases rx;have e':k=b:=e;subst e';exact wpAny_truthy_bool ⟨H,I,q⟩
 | int i=>
  obtain⟨t,rfl⟩:=rx;have e':k=(i != 0):=e;subst e';exact PySem.P.truthy_int ⟨H,I,q⟩
 | str y=>
  obtain⟨t,rfl⟩:=rx;obtain⟨hy,e'⟩:y.length<=sizeLine/\k=((y.length:Int) != 0):=e;subst e';exact PySem.P.truthy_str (by omega) ⟨H,I.tok _,q⟩
 | D3 y=>
  obtain⟨t,rfl⟩:=rx;obtain⟨hy,e'⟩:y.size<=sizeLine/\k=((y.size:Int) != 0):=e;subst e';exact PySem.W.truthy_bytes (by omega) ⟨H,I.tok _,q⟩
 | ref p=>
  cases rx;have e':(∃ xs,i7 X.K H p xs/\k = !xs.isEmpty)\/(∃ xs,fS X.K H p xs/\k = !xs.isEmpty)\/∃ kvs,H p=some (.dK kvs)/\k = !kvs.isEmpty:=e;rcases e' with ⟨xs,hx,e'⟩ | ⟨xs,hx,e'⟩ | ⟨kvs,hx,e'⟩
  ·subst e'
   obtain⟨its,r,pl,hz⟩:=I.list hx;have hlen:=r.length;exact wpAny_truthy_list pl.isList (by simp only[List.size_toArray];omega) ⟨H,I.tok _,by rw[jY r];exact q⟩
  ·subst e'
   obtain⟨its,r,pl,hz⟩:=I.tuple hx;have hlen:=r.length;exact truthy_tuple pl (by simp only[List.size_toArray];omega) ⟨H,I.tok _,by rw[jY r];exact q⟩
  ·subst e'
   obtain⟨hz,hS,vs,r,m⟩:kvs.length<=sizeLine/\(p == sysModules)=false/\∃ vs,KV kvs vs/\s.heap.DictOf (mq X.prog X.w) p vs:=I.hok p _ hx;have hlen:kvs.length=vs.length:=Paired.length r;exact wpAny_truthy_dict hS m (by omega) ⟨H,I.tok _,by rw[pS r];exact q⟩
 | _=>exact(show False from e).elim
theorem uX(ha:PE X a ta)(he:∀ whole,isTrue a X.env whole=(do let v ← whole;standAt a.pos;holding [v] (truthy v))) :
  PT X a (fun σ H Q=>ta σ H fun x H'=>∃ k,n4 X.K x H' k/\Q k H'):=by
 intro pins s σ H Q I h;exact isTrue_plain (b7 (ha pins s σ H _ I h) fun v s1 ⟨x,H1,I1,r1,q1⟩=>mB pins s1 σ H1 x v Q I1 r1 q1) (he _)
theorem pT:fT X (binaryOp .Add) (fun x y H Q=>∃ i j,x=.str i/\y=.str j/\i.length + j.length<=sizeLine/\Q (.str (i++j)) H):=by
 intro pins s σ H x y v u Q I rx ry h;obtain⟨i,j,rfl,rfl,hz,q⟩:=h;obtain⟨t,rfl⟩:=rx;obtain⟨t',rfl⟩:=ry;exact add_str (fun t' tk=>⟨.str (i++j),H,I.tok _,⟨_,rfl⟩,q⟩) hz
theorem vals1{x:V}{us:List Value}(r:Vals [x] us):∃ u,us=[u]/\RelV x u:=by
 cases r with
 | cons r1 r2=>cases r2;exact⟨_,rfl,r1⟩
theorem vals2{x y:V}{us:List Value}(r:Vals [x,y] us):∃ u w',us=[u,w']/\RelV x u/\RelV y w':=by
 cases r with
 | cons r1 r2=>
  cases r2 with
  | cons r3 r4=>cases r4;exact⟨_,_,rfl,r1,r3⟩
theorem tB(hc:X.calm=true):dQ X (.builtin "min") (fun xs H Q=>∃ i j,xs=[.int i,.int j]/\Q (.int (if j < i then j else i)) H):=by
 intro pins s σ H xs us Q I r h;obtain⟨i,j,rfl,q⟩:=h;obtain⟨u,w',rfl,⟨t,rfl⟩,⟨t',rfl⟩⟩:=vals2 r;refine min_two_ints (I.ok.hd hc) fun h' tk k=>⟨_,H,I.kept k,?_,q⟩
 by_cases hj:j < i
 ·rw[if_pos hj,if_pos hj];exact⟨_,rfl⟩
 ·rw[if_neg hj,if_neg hj];exact⟨_,rfl⟩
theorem tD:dQ X (.type "int") (fun xs H Q=>(∃ i,xs=[.int i]/\Q (.int i) H)\/∃ k,xs=[.bl k]/\Q (.int (if k then 1 else 0)) H):=by
 intro pins s σ H xs us Q I r h;rcases h with ⟨i,rfl,q⟩ | ⟨k,rfl,q⟩
 ·obtain⟨u,rfl,t,rfl⟩:=vals1 r
  exact call_int_int ⟨.int i,H,I,⟨_,rfl⟩,q⟩
 ·obtain⟨u,rfl,r1⟩:=vals1 r
  cases r1;exact call_int_bool ⟨.int (if k then 1 else 0),H,I.tok _,⟨_,rfl⟩,q⟩
end
structure BP(h:Heap)(x dx C:Addr)(mA:Str->Option Value):Prop where
 obj:h.get? x=some (PySem.W.instObj C dx)
 ns:h.Ns1 dx mA
 ne:dx≠x
theorem iQ{h:Heap}{dx:Addr}{mA:Str->Option Value}(n:h.Ns1 dx mA):∃ od,h.get? dx=some od/\∀ name,PySem.W.lookIn name od=some (mA name):=by
 obtain⟨o,es,ep,ho,hd,hk,_,hm⟩:=n;refine⟨o,ho,fun name => ?_⟩
 have e:=hm name;unfold nsFind findBy at e;rw[← Array.find?_toList]at e;unfold PySem.W.lookIn;rw[hd];dsimp only;split
 ·rename_i y q
  rw[q]at e;exact congrArg some e
 ·rename_i q
  rw[q]at e
  have a:es.toList.any (·.refKey)=false:=by
   rw[List.any_eq_false];intro y hy;obtain⟨z,t,hkey⟩:=hk y (Array.mem_toList_iff.mp hy);simp[DictEntry.refKey,hkey]
  have a':¬ es.toList.any (·.refKey)=true:=by rw[a];exact Bool.false_ne_true
  rw[if_neg a'];exact congrArg some e
theorem BP.look{h:Heap}{x dx C:Addr}{mA:Str->Option Value}(I:BP h x dx C mA):∃ od,PySem.W.InstAt h x (PySem.W.instObj C dx) C (some od)/\∀ name,PySem.W.lookIn name od=some (mA name):=
 let ⟨od,ho,hl⟩:=iQ I.ns
 ⟨od,⟨I.obj,rfl,rfl,ho⟩,hl⟩
section
variable{prog:Program}{w:World}{A:Around}{E:Value->Shared->Prop}{s:Shared}{K:PySem.W.Frag}{x dx C f:Addr}{mA:Str->Option Value}{name:Str}{v:Value}
end
noncomputable def eT(f:Str)(v:V):List (Str×V)->List (Str×V)
 | []=>[(f,v)]
 | (g,x)::r=>if g=f then (g,v)::r else (g,x)::eT f v r
theorem mr.some_of{v:V}{o:Option Value}(r:mr (some v) o):∃ u,o=some u/\RelV v u:=by
 cases o with
 | none=>exact(show False from r).elim
 | some u=>exact⟨u,rfl,r⟩
theorem tE{v:V}{u:Value}(r:RelV v u):PySem.W.handedIn u=true:=by
 cases v with
 | non=>cases (show u=Value.none from r);rfl
 | bl b=>cases (show u=Value.bool b from r);rfl
 | int i=>obtain⟨t,e⟩:=(show ∃ t,u=Value.int i t from r);cases e;rfl
 | str x=>obtain⟨t,e⟩:=(show ∃ t,u=Value.str x t from r);cases e;rfl
 | D3 b=>obtain⟨t,e⟩:=(show ∃ t,u=Value.bytes b t from r);cases e;rfl
 | flt b=>obtain⟨t,e⟩:=(show ∃ t,u=Value.float b t from r);cases e;rfl
 | ref a=>cases (show u=Value.ref a from r);rfl
 | ty n=>cases (show u=Value.type n from r);rfl
section
variable{P:Program}{w:World}{H H':Hp}{h h':Heap}{a C dx:Addr}{fs fs':List (Str×V)}
theorem yq(hok:i6 P w H h)(e:H a=some (.ins C dx fs)):∃ mA,BP h a dx C mA/\(∀ f,mr (fs.lookup f) (mA f))/\PySem.Within mA (fs.map (·.1))/\fs.length<=1000/\H dx=some (.own a):=by
 obtain⟨d,z,ne,ob,mA,n,r,q⟩:=(show cm P w H h a (.ins C dx fs) from hok a _ e)
 exact⟨mA,⟨ob,n,ne⟩,r,q,z,d⟩
end
structure D_(K:PySem.W.Frag)(C:Addr):Prop where
 pg:PySem.W.plainGet K C Str.empty=true
 hd:PySem.W.hasDictIn K C=true
 po:PySem.W.plainOver K C=true
 sa:PySem.W.findIn K (.ref C) "__setattr__"=some (some (.builtin "object.__setattr__"))
theorem D_.get{K:PySem.W.Frag}{C:Addr}(c:D_ K C)(f:Str):PySem.W.plainGet K C f=true:=c.pg
def fB(K:PySem.W.Frag)(C:Addr)(f:Str):Prop:=PySem.W.findIn K (.ref C) f=some none
theorem fB.taker{K:PySem.W.Frag}{C:Addr}{f:Str}(n:fB K C f):PySem.W.takerIn K C f=some none:=by
 unfold PySem.W.takerIn;rw[show PySem.W.findIn K (.ref C) f=some none from n]
 rfl
structure Meth(K:PySem.W.Frag)(C:Addr)(m:Str)(f:Addr):Prop where
 at_:PySem.W.findIn K (.ref C) m=some (some (.ref f))
 fn:PySem.W.isFn K (.ref f)=true
 kp:PySem.W.keepIn K (.ref f)=true
section
variable{X:Cx}{pins:List (Addr×Obj)}{σ:St}{H:Hp}{s:Shared}{a C dx:Addr}{fs:List (Str×V)}{f:Str}{v:V}{A:Around}{E:Value->Shared->Prop}
theorem rh{prog:Program}{w:World}{env:Env}{e:Expr}{f:Str}{pos:Pos}{s:Shared}{Q:Value->Shared->Prop}(hb:attributeBase e f env (eval e env)=eval e env)
  (h:wpAny (model prog w) A (eval e env) (fun o s₁=>wpAny (model prog w) A (getAttr o f true) Q E s₁) E s):wpAny (model prog w) A (eval (.Attribute e f pos) env) Q E s:=
 Attribute_any_ h (by rw[arm_eval_Attribute,hb])
end
section
variable{X:Cx}{o e value:Expr}{f:Str}{pos pos' tpos:Pos}{ta tv:TE}
end
section
variable{X:Cx}{pins:List (Addr×Obj)}{σ:St}{H:Hp}{s:Shared}{A:Around}{E:Value->Shared->Prop}{Q:Value->Shared->Prop}{c:Value}{b:Bool}
inductive jq (K:PySem.W.Frag) (H:Hp):V->Value->Prop where
 | non:jq K H .non (.type "NoneType")
 | bl (x:Bool):jq K H (.bl x) (.type "bool")
 | int (i:Int):jq K H (.int i) (.type "int")
 | str (x:Str):jq K H (.str x) (.type "str")
 | flt (x:UInt64):jq K H (.flt x) (.type "float")
 | lst {a:Addr} {xs:List V} (e:H a=some (.lst xs)):jq K H (.ref a) (.type "list")
 | jn {a:Addr} {o:Obj} {xs:List V} (e:H a=some (.jn o (.lst xs))):jq K H (.ref a) (.type "list")
 | tup {a:Addr} {xs:List V} (e:H a=some (.tup xs)):jq K H (.ref a) (.type "tuple")
 | dK {a:Addr} {kvs:List (Key×V)} (e:H a=some (.dK kvs)):jq K H (.ref a) (.type "dict")
 | dT {a:Addr} {kvs:List (List Key×V)} (e:H a=some (.dT kvs)):jq K H (.ref a) (.type "dict")
 | ins {a C dx:Addr} {fs:List (Str×V)} (e:H a=some (.ins C dx fs)) (cl:D_ K C) (ha:PySem.W.findIn K (.ref C) "__class__"=some (some (.builtin "object.__class__")))
   (hn:PySem.W.specialIn K (.builtin "object.__class__") "__get__"=some (some (.builtin "getset_descriptor.__get__"))) (htk:PySem.W.takesIn K (.builtin "object.__class__")=some true)
   (hm:PySem.W.mroIn K C (.type "object")=some true):jq K H (.ref a) (.ref C)
theorem ck{x:V}{u t:Value}(I:Inv X pins σ H s)(rx:RelV x u)(ty:jq X.K H x t)(e:PySem.W.kitOne X.K t c=some b)(h:∀ tk,Q (.bool b) { s with toks:=tk }) :
  wpAny (model X.prog X.w) A (call (.builtin "isinstance") [u,c]) Q E s:=by
 cases ty with
 | non=>cases (show u=Value.none from rx);exact PySem.W.kia_one PySem.W.kitx_none I.fX True.intro e (fun z=>nomatch z) h
 | bl y=>cases (show u=Value.bool y from rx);exact PySem.W.kia_one PySem.W.kitx_bool I.fX True.intro e (fun z=>nomatch z) h
 | int i=>obtain⟨t,q⟩:=(show ∃ t,u=Value.int i t from rx);cases q;exact PySem.W.kia_one PySem.W.kitx_int I.fX True.intro e (fun z=>nomatch z) h
 | str y=>obtain⟨t,q⟩:=(show ∃ t,u=Value.str y t from rx);cases q;exact PySem.W.kia_one PySem.W.kitx_str I.fX True.intro e (fun z=>nomatch z) h
 | flt y=>obtain⟨t,q⟩:=(show ∃ t,u=Value.float y t from rx);cases q;exact PySem.W.kia_one PySem.W.kitx_float I.fX True.intro e (fun z=>nomatch z) h
 | @lst a xs ea=>
  cases (show u=Value.ref a from rx)
  obtain⟨_,_,n,_,h1⟩:=(show cm X.prog X.w H s.heap a (.lst xs) from I.hok a _ ea)
  exact PySem.W.kia_one PySem.W.kitx_list I.fX ⟨_,h1,rfl⟩ e (fun z=>nomatch z) h
 | @jn a ob xs ea=>
  cases (show u=Value.ref a from rx)
  obtain⟨_,_,_,n,_,h1⟩:=(show cm X.prog X.w H s.heap a (.jn ob (.lst xs)) from I.hok a _ ea)
  exact PySem.W.kia_one PySem.W.kitx_list I.fX ⟨_,h1,rfl⟩ e (fun z=>nomatch z) h
 | @tup a xs ea=>
  cases (show u=Value.ref a from rx)
  obtain⟨_,_,_,p⟩:=(show cm X.prog X.w H s.heap a (.tup xs) from I.hok a _ ea)
  obtain⟨o,h1,h2,_⟩:=p;exact PySem.W.kia_one PySem.W.kitx_tuple I.fX ⟨o,h1,h2⟩ e (fun z=>nomatch z) h
 | @dK a kvs ea=>
  cases (show u=Value.ref a from rx)
  obtain⟨_,_,vs,_,p⟩:=(show cm X.prog X.w H s.heap a (.dK kvs) from I.hok a _ ea)
  obtain⟨o,es,ep,h1,h2,_⟩:=p;exact PySem.W.kia_one PySem.W.kitx_dict I.fX ⟨o,h1,h2.1⟩ e (fun z=>nomatch z) h
 | @dT a kvs ea=>
  cases (show u=Value.ref a from rx)
  obtain⟨_,_,xs,_,o,es,ep,h1,h2,_⟩:=(show cm X.prog X.w H s.heap a (.dT kvs) from I.hok a _ ea)
  exact PySem.W.kia_one PySem.W.kitx_dict I.fX ⟨o,h1,h2.1⟩ e (fun z=>nomatch z) h
 | @ins a C dx fs ea cl ha hn htk hm=>
  cases (show u=Value.ref a from rx)
  obtain⟨mA,O,_⟩:=yq I.hok ea;obtain⟨od,J,_⟩:=O.look;exact PySem.W.kia_one (PySem.W.kitx_own (cl.get _) cl.hd ha hn htk hm) I.fX J e (fun z=>nomatch z) h
end
structure bP(k:Nat)(A:Around):Prop where
 hd:A.handled=none
 dp:A.depth + 3 * k + 5 < recursionLimit
 un:A.units + 16 * k + 200 < cLine
theorem bP.mono{j k:Nat}{A:Around}(r:bP k A)(h:j<=k):bP j A:=⟨r.hd,by have:=r.dp;omega,by have:=r.un;omega⟩
theorem bP.deeper{k:Nat}{A:Around}(r:bP (k + 1) A)(env:Env):bP k (A.deeper env):=
 ⟨r.hd,by have:=r.dp;show A.depth + 1 + 3 * k + 5 < _;omega,by have:=r.un;show A.units + 3 + 16 * k + 200 < _;omega⟩
theorem bP.in1{k:Nat}{A:Around}(r:bP (k + 1) A):bP k A.in1:=
 ⟨r.hd,by have:=r.dp;show A.depth + 3 * k + 5 < _;omega,by have:=r.un;show A.units + 1 + 16 * k + 200 < _;omega⟩
theorem pU{A:Around}{C:Addr}{us:List Value}{kw:List (Str×Value)}:(A.under (.builtin "type.__call__" ⟨.ref C::us,kw⟩)).depth=A.depth + 1:=by
 first | rfl | simp[Around.under,Code.weight,Code.isCreation,Code.isGuard,Code.isCaller,Code.frames,Code.isFrame,guardIds]
theorem pV{A:Around}{C:Addr}{us:List Value}{kw:List (Str×Value)}:(A.under (.builtin "type.__call__" ⟨.ref C::us,kw⟩)).units=A.units + 1:=by
 first | rfl | simp[Around.under,Code.cUnits,Code.frames,Code.isFrame]
theorem bP.make{k:Nat}{A:Around}(r:bP (k + 1) A)(C:Addr)(us:List Value)(kw:List (Str×Value)):bP k (A.under (.builtin "type.__call__" ⟨.ref C::us,kw⟩)):=
 ⟨r.hd,by have:=r.dp;rw[pU];omega,by have:=r.un;rw[pV];omega⟩
theorem bP.depth{k:Nat}{A:Around}(r:bP k A):A.depth < recursionLimit:=by have:=r.dp;omega
theorem bP.units{k:Nat}{A:Around}(r:bP k A):A.units + 64 < cLine:=by have:=r.un;omega
noncomputable def ER:TA:=fun _ H Q=>Q [] H
noncomputable def ES(ta:TE)(tr:TA):TA:=fun σ H Q=>ta σ H fun x H1=>tr σ H1 fun xs H2=>Q (x::xs) H2
section
variable{X:Cx}{e:Expr}{es:List Expr}{te:TE}{t:TA}{pos:Pos}
theorem iR:PA X [] ER:=fun _ _ _ _ H Q I h=>Calls.spliced_nil ⟨[],H,I,.nil,h⟩
theorem cV(ha:PE X e te)(hr:PA X es t)(hs:starEach (e::es) X.env=(false,eval e X.env)::starEach es X.env:=by rfl):PA X (e::es) (ES te t):=by
 intro pos pins s σ H Q I h;rw[hs]
 show wpAny _ _ (spliced ((false,eval e X.env)::backTo pos (starEach es X.env))) _ _ s
 refine Calls.spliced_cons (b7 (ha pins s σ H _ I h) fun u s1 ⟨x,H1,I1,r1,q1⟩ => ?_)
 exact b7 (hr pos pins s1 σ H1 _ I1 q1) fun us s2 ⟨xs,H2,I2,r2,q2⟩=>⟨x::xs,H2,I2,.cons r1 r2,q2⟩
def Ko(t:TA):TE:=fun σ H Q=>t σ H fun xs H1=>xs.length<=sizeLine/\∀ p,H1 p=none->Q (.ref p) (upd H1 p (.tup xs))
def Kp(t:TA):TE:=fun σ H Q=>t σ H fun xs H1=>xs.length<=sizeLine/\∀ p,H1 p=none->Q (.ref p) (upd H1 p (.lst xs))
theorem uY{x1}(h:PA X es t):PE X (.Tuple es x1 pos) (Ko t):=by
 intro pins s σ H Q I hq;refine wpAny_Tuple_spliced (b7 (h pos pins s σ H _ I hq) fun us s1 ⟨xs,H1,I1,r,z,q⟩=>⟨by rw[← r.length];exact z,?_⟩)
 have hf:H1 s1.heap.objs.size=none:=I1.hok.fresh (Nat.le_refl _);refine⟨.ref s1.heap.objs.size,upd H1 s1.heap.objs.size (.tup xs),I1.laid (t':=s1.toks) (fun b u e=>Heap.get?_push_of_some _ e) (Nat.le_refl _) ?_,rfl,q _ hf⟩
 exact⟨z,us,r,⟨_,Heap.get?_push_size _ rfl,rfl,_,rfl⟩⟩
theorem BQ(h:PA X es t):PE X (.List es pos) (Kp t):=by
 intro pins s σ H Q I hq;refine wpAny_List_spliced (b7 (h pos pins s σ H _ I hq) fun us s1 ⟨xs,H1,I1,r,z,q⟩=>⟨by rw[← r.length];exact z,?_⟩)
 have hf:H1 s1.heap.objs.size=none:=I1.hok.fresh (Nat.le_refl _);refine⟨.ref s1.heap.objs.size,upd H1 s1.heap.objs.size (.lst xs),I1.laid (t':=s1.toks) (fun b u e=>Heap.get?_push_of_some _ e) (Nat.le_refl _) ?_,rfl,q _ hf⟩
 exact⟨z,us,0,r,Heap.get?_push_size _ rfl⟩
end
abbrev Sp:=List V->Hp->VK->XK->Prop
abbrev ri:=List Env->Hp->Shared->XK->Value->Shared->Prop
structure n5(P:Program)(w:World)(K:PySem.W.Frag)(mg:Str->Option Value)(base:Heap)(A:Around)(outer:List Env)(s:Shared)(H:Hp):Prop where
 frames:A.frames=some outer
 mod:Mod K mg base
 bs:∀ b o,base.get? b=some o->s.heap.get? b=some o/\H b=none
 ti:base.objs.size<=s.heap.objs.size
 fW:s.heap.FunFrames base outer
 uI:∀ b∈frs outer,H b=none
 hok:i6 P w H s.heap
 bare:AllBare s.gens
def CE(outer:List Env)(P:Program)(w:World)(H:Hp)(s:Shared)(Q:VK)(u:Value)(s':Shared):Prop:=
 ∃ v H',s'.os=s.os/\AllBare s'.gens/\Un (frs outer) [] H H' s.heap s'.heap/\i6 P w H' s'.heap/\RelV v u/\Q v H'
def CR(CX:ri)(outer:List Env)(P:Program)(w:World)(H:Hp)(s:Shared)(Q:VK)(E:XK)(r:Result)(s':Shared):Prop:=
 match r with
 | .ok (.ret u)=>CE outer P w H s Q u s'
 | .ok _=>False
 | .error e=>CX outer H s E e s'
structure bU(P:Program)(w:World)(K:PySem.W.Frag)(mg:Str->Option Value)(base:Heap)(CX:ri)(k:Nat)(f:Addr)(fd:FuncData)(ps:List Str)(sp:Sp):Prop where
 len:∀ vs H Q E,sp vs H Q E->vs.length=ps.length
 run:∀ (A:Around) (outer:List Env) (s:Shared) (H:Hp) (args:Args) (us:List Value) (vs:List V) (Q:VK) (E:XK),bP k A->n5 P w K mg base A outer s H->BindsTo s fd args (ps.zip us)->Vals vs us->sp vs H Q E ->
  codeAny (model P w) A (.call (.ref f) args) (CR CX outer P w H s Q E) s
theorem bU.mono{P:Program}{w:World}{K:PySem.W.Frag}{mg:Str->Option Value}{base:Heap}{CX:ri}{j k:Nat}{f:Addr}{fd:FuncData}{ps:List Str}{sp:Sp}(F:bU P w K mg base CX j f fd ps sp)(h:j<=k) :
  bU P w K mg base CX k f fd ps sp:=⟨F.len,fun A outer s H args us vs Q E hr=>F.run A outer s H args us vs Q E (hr.mono h)⟩
theorem bU.imp{P:Program}{w:World}{K:PySem.W.Frag}{mg:Str->Option Value}{base:Heap}{CX:ri}{k:Nat}{f:Addr}{fd:FuncData}{ps:List Str}{sp NB:Sp}(F:bU P w K mg base CX k f fd ps sp)
  (h:∀ vs H Q E,NB vs H Q E->sp vs H Q E):bU P w K mg base CX k f fd ps NB:=
 ⟨fun vs H Q E q=>F.len vs H Q E (h _ _ _ _ q),fun A outer s H args us vs Q E hr he hb hv hs=>F.run A outer s H args us vs Q E hr he hb hv (h _ _ _ _ hs)⟩
theorem n5.make{P:Program}{w:World}{K:PySem.W.Frag}{mg:Str->Option Value}{base:Heap}{A:Around}{outer:List Env}{s:Shared}{H:Hp}(e:n5 P w K mg base A outer s H)(C:Addr)(us:List Value)(kw:List (Str×Value)) :
  n5 P w K mg base (A.under (.builtin "type.__call__" ⟨.ref C::us,kw⟩)) outer s H:=⟨by first | exact e.frames | (simpa[Around.under,Code.envs,Code.isFrame,pushEnvs] using e.frames),e.mod,e.bs,e.ti,e.fW,e.uI,e.hok,e.bare⟩
section
variable{X:Cx}{pins:List (Addr×Obj)}{σ:St}{H:Hp}{s s':Shared}
theorem Inv.env0(I:Inv X pins σ H s):n5 X.prog X.w X.K X.mg X.base X.A X.stack s H:=
 ⟨I.ok.frames,I.ok.mod,I.bs,Nat.le_trans I.ok.ti I.sz,I.stack,I.jw,I.hok,I.bare⟩
theorem Inv.after{Q:VK}{u:Value}(I:Inv X pins σ H s)(h:CE X.stack X.prog X.w H s Q u s'):EP X pins σ Q u s':=by
 obtain⟨v,H',os,bare,un,hok,r,q⟩:=h;obtain⟨hh,g,d,t,os'⟩:=s';obtain rfl:os'=s.os:=os;exact⟨v,H',I.call (h':=hh) (g':=g) (d':=d) (t':=t) (ch:=[]) un hok bare (fun b z=>absurd z (by simp)),r,q⟩
end
noncomputable def AV(sp:Sp)(rj:List V)(E:XK)(t:TA):TE:=fun σ H Q=>t σ H fun vs H1=>sp (vs++rj) H1 Q E
def Binds(K:PySem.W.Frag)(fd:FuncData)(ps:List Str)(ds:List Value):Prop:=
 ∀ (s:Shared) (us:List Value),K.In s.heap->(us++ds).length=ps.length->BindsTo s fd ⟨us,[]⟩ (ps.zip (us++ds))
theorem Binds.all{K:PySem.W.Frag}{fd:FuncData}{ps:List Str}(h:∀ us:List Value,us.length=ps.length->bindArgs fd ⟨us,[]⟩=pure (ps.zip us)):Binds K fd ps []:=fun s us _ hl=>by
 rw[List.append_nil]at hl ⊢;exact .of_eq (h us hl)
def Passes(CX:ri)(X:Cx)(E:XK):Prop:=∀ (pins:List (Addr×Obj)) (σ:St) (H:Hp) (s:Shared) (e:Value) (s':Shared),Inv X pins σ H s->CX X.stack H s E e s'->X.xe e s'
section
variable{X:Cx}{CX:ri}{k:Nat}{f C:Addr}{fd:FuncData}{ps:List Str}{sp:Sp}{rj:List V}{ds:List Value}{E:XK}{x m:Str}{p pos apos:Pos}{e o:Expr}{es:List Expr}{ta:TE}{t:TA}
theorem uZ{pins:List (Addr×Obj)}{σ:St}{H:Hp}{s:Shared}{Q:VK}{us:List Value}{vs:List V}(F:bU X.prog X.w X.K X.mg X.base CX k f fd ps sp)(hr:bP k X.A)(hb:Binds X.K fd ps ds)(hd:Vals rj ds)(hx:Passes CX X E)
  (I:Inv X pins σ H s) (r:Vals vs us) (h:sp (vs++rj) H Q E):wpAny (model X.prog X.w) X.A (call (.ref f) us) (EP X pins σ Q) X.xe s:=by
 have r2:Vals (vs++rj) (us++ds):=r.append hd;have hl:(us++ds).length=ps.length:=by rw[← r2.length];exact F.len _ _ _ _ h
 refine wpAny_call (codeAny_mono (F.run X.A X.stack s H ⟨us,[]⟩ (us++ds) (vs++rj) Q E hr I.env0 (hb s us I.fX hl) r2 h) fun r s' hq => ?_)
 cases r with
 | error e=>exact hx pins σ H s e s' I hq
 | ok fl=>
  cases fl with
  | ret u=>exact I.after hq
  | next=>exact False.elim hq
  | brk=>exact False.elim hq
  | cont=>exact False.elim hq
theorem jy(F:bU X.prog X.w X.K X.mg X.base CX k f fd ps sp)(hr:bP k X.A)(hg:Gl X x)(hm:X.mg x=some (.ref f))(hk:PySem.W.keepIn X.K (.ref f)=true)(hb:Binds X.K fd ps ds)(hd:Vals rj ds)(hx:Passes CX X E)
  (ha:PA X (e::es) t) (hdb:(x == ("__debug__":Str))=false:=by decide) (he:starEach (e::es) X.env=(false,eval e X.env)::starEach es X.env:=by rfl) (hpl:(backTo pos (starEach es X.env)).any (·.1)=false:=by rfl) :
  PE X (.Call (.Name x p) (e::es) [] pos) (AV sp rj E t):=by
 intro pins s σ H Q I h;refine wpAny_Call_Name_kw (gK I hg hm ?_ hdb);refine PySem.W.callWith_K (h₀:=X.base) I.ok.mod.D4 hk (b7 (ha pos pins s σ H _ I h) fun us s1 ⟨vs,H1,I1,r,q⟩=>⟨I1.fX,?_⟩) he hpl
 exact uZ F hr hb hd hx I1 r q
theorem u0(F:bU X.prog X.w X.K X.mg X.base CX k f fd ps sp)(hr:bP k X.A)(hg:Gl X x)(hm:X.mg x=some (.ref f))(hk:PySem.W.keepIn X.K (.ref f)=true)(hb:Binds X.K fd ps ds)(hd:Vals rj ds)(hx:Passes CX X E)
  (hdb:(x == ("__debug__":Str))=false:=by decide):PE X (.Call (.Name x p) [] [] pos) (AV sp rj E ER):=by
 intro pins s σ H Q I h;refine wpAny_Call_Name_kw (gK I hg hm ?_ hdb);exact PySem.W.callWith_K0 I.fX hk (uZ (us:=[]) F hr hb hd hx I .nil h)
structure Mk(K:PySem.W.Frag)(C f:Addr):Prop where
 makes:PySem.W.makesIn K C=true
 init:PySem.W.findIn K (.ref C) "__init__"=some (some (.ref f))
 fn:PySem.W.isFn K (.ref f)=true
 kp:PySem.W.keepIn K (.ref C)=true
end
section
variable{X:Cx}{CX:ri}{k:Nat}{f C:Addr}{fd:FuncData}{ps ks:List Str}{sp:Sp}{E:XK}{x m:Str}{p pos apos Pm:Pos}{e o:Expr}{es:List Expr}{kws:List Keyword}{te ta:TE}{t tk:TA}{nm:Option Str}
variable{g:List Value->List Value->List Value}{gV:List V->List V->List V}
end
structure fD(N P:List Str)(sc:Scope):Prop where
 kind:sc.kind=.function
 co:sc.isCoroutine=false
 gen:sc.isGenerator=false
 nd:N.Nodup
 pre:N.take P.length=P
 par:∀ x∈P,sc.names.lookup x=some .local\/sc.names.lookup x=some .cell
 BR:∀ y∈sc.names,y.2≠.free
theorem lH{kindOf:Str->Option NameKind}{x:Str}:∀ {binds:List (Str×Value)} {m:Str->Option Value},(∀ v,(x,v)∉binds)->bindL kindOf binds m x=m x
 | [],_,_=>rfl
 | (n,v)::r,m,h=>by
  unfold bindL;rw[lH fun w hw=>h w (List.mem_cons_of_mem _ hw)]
  split
  ·have:x≠n:=by rintro rfl;exact h v List.mem_cons_self
   simp[this]
  ·rfl
theorem lJ{kindOf:Str->Option NameKind}{x:Str}:∀ {binds:List (Str×Value)} {m:Str->Option Value},(∀ v,(x,v)∉binds)->bindC kindOf binds m x=m x
 | [],_,_=>rfl
 | (n,v)::r,m,h=>by
  unfold bindC;rw[lJ fun w hw=>h w (List.mem_cons_of_mem _ hw)]
  split
  ·rfl
  ·have:x≠n:=by rintro rfl;exact h v List.mem_cons_self
   simp[this]
theorem lK{kindOf:Str->Option NameKind}{x:Str}{v:Value}:∀ {P:List Str} {vs:List Value} {i:Nat} {m:Str->Option Value},P.Nodup->P[i]?=some x->vs[i]?=some v->kindOf x=some .local ->
  bindL kindOf (P.zip vs) m x=some v
 | [],_,_,_,_,h,_,_=>by simp at h
 | _::_,[],_,_,_,_,h,_=>by simp at h
 | p::P,w::vs,0,m,nd,h1,h2,hk=>by
  simp at h1 h2;subst h1;subst h2
  show bindL kindOf ((p,w)::P.zip vs) m p=_
  unfold bindL;rw[lH fun v hv=>(List.nodup_cons.mp nd).1 (List.of_mem_zip hv).1,if_pos hk]
  simp
 | p::P,w::vs,i + 1,m,nd,h1,h2,hk=>by
  show bindL kindOf ((p,w)::P.zip vs) m x=_
  unfold bindL;exact lK (i:=i) (List.nodup_cons.mp nd).2 (by simpa using h1) (by simpa using h2) hk
theorem lL{kindOf:Str->Option NameKind}{x:Str}{v:Value}:∀ {P:List Str} {vs:List Value} {i:Nat} {m:Str->Option Value},P.Nodup->P[i]?=some x->vs[i]?=some v->kindOf x≠some .local ->
  bindC kindOf (P.zip vs) m x=some v
 | [],_,_,_,_,h,_,_=>by simp at h
 | _::_,[],_,_,_,_,h,_=>by simp at h
 | p::P,w::vs,0,m,nd,h1,h2,hk=>by
  simp at h1 h2;subst h1;subst h2
  show bindC kindOf ((p,w)::P.zip vs) m p=_
  unfold bindC;rw[lJ fun v hv=>(List.nodup_cons.mp nd).1 (List.of_mem_zip hv).1,if_neg hk]
  simp
 | p::P,w::vs,i + 1,m,nd,h1,h2,hk=>by
  show bindC kindOf ((p,w)::P.zip vs) m x=_
  unfold bindC;exact lL (i:=i) (List.nodup_cons.mp nd).2 (by simpa using h1) (by simpa using h2) hk
noncomputable def start(N:List Str)(vs:List V):St:=vs.map some++List.replicate (N.length - vs.length) none
noncomputable def bZ(CX:ri)(P:Program)(w:World)(K:PySem.W.Frag)(mg:Str->Option Value)(base:Heap)(N:List Str)(qual:Str)(scope:Scope)(f:Addr)(cd:Value)(A:Around)(outer:List Env)(s:Shared)(H:Hp)(E:XK):Cx where
 prog:=P
 w:=w
 K:=K
 mg:=mg
 base:=base
 A:=A.deeper (envOfC qual scope s.heap.objs.size f cd)
 N:=N
 s₀:=s
 H₀:=H
 env:=envOfC qual scope s.heap.objs.size f cd
 outer:=outer
 stack:=envOfC qual scope s.heap.objs.size f cd::outer
 ex:=[]
 calm:=true
 fn:=fun _=>true
 pn:=[]
 xe:=fun e s'=>wpAny (model P w) (A.deeper (envOfC qual scope s.heap.objs.size f cd)) (leaving (envOfC qual scope s.heap.objs.size f cd) e) (fun _ s''=>CX outer H s E e s'') (fun e' s''=>CX outer H s E e' s'') s'
theorem n8{sc:Scope}{n:Nat}{x:Str}(h:sc.names.lookup x=some .cell):∃ c,(cellsFrom n sc.names []).lookup x=some c:=by
 have q:=PySem.W.cellsFrom_some sc.names n [] (.inl h);exact Option.isSome_iff_exists.mp q
theorem iS{CX:ri}{P:Program}{w:World}{K:PySem.W.Frag}{mg:Str->Option Value}{base:Heap}{N ps:List Str}{qual:Str}{scope:Scope}{f:Addr}{cd:Value}{A:Around}{outer:List Env}{s s1:Shared}{H:Hp}{E:XK}{us:List Value}{vs:List V}
  (S:fD N ps scope) (hd:A.handled=none) (e0:n5 P w K mg base A outer s H) (hl:vs.length=ps.length) (r:Vals vs us)
  (x:InCallC s s.heap.objs.size (bindL (envOfC qual scope s.heap.objs.size f cd).kindOf (ps.zip us) fun _=>none) (cellsFrom (s.heap.objs.size + 1) scope.names []) (bindC (envOfC qual scope s.heap.objs.size f cd).kindOf (ps.zip us) fun _=>none) s1) :
  Inv (bZ CX P w K mg base N qual scope f cd A outer s H E) [] (start N vs) H s1:=by
 have hpl:ps.length<=N.length:=by have:=congrArg List.length S.pre;rw[List.length_take]at this;omega
 obtain⟨h1,tk,rfl,hk⟩:=x.done;have ET:∀ b:Addr,b∉(bZ CX P w K mg base N qual scope f cd A outer s H E).ex:=fun b z=>absurd (show b∈([]:List Addr) from z) (by simp)
 refine⟨⟨e0.mod,S.kind,rfl,rfl,Nat.le_refl _,fun y z c h1 h2 => ?_,fun y hy => ?_,fun y c _ h => ?_,fun _=>hd,Around.frames_deeper e0.frames,.inr ⟨rfl,rfl⟩,fun b z=>absurd z (ET b),e0.bs,e0.ti,fun b _ _=>ET b,fun b z=>absurd z (ET b),e0.fW,e0.uI⟩,
  rfl,e0.bare,Un.kept hk,⟨_,x.toInCall.ns,fun i y v h1 h2 h3 => ?_⟩,fun y c h=>⟨_,x.cell y c h⟩,e0.hok.fresh (Nat.le_refl _),fun y c h => ?_,fun p hp=>absurd (show p∈([]:List (Addr×Obj)) from hp) (by simp),e0.hok.kept hk,?_⟩
 ·exact name_of_addr x.apart (PySem.mem_of_lookup h1) (PySem.mem_of_lookup h2)
 ·have hy:scope.names.lookup y=some .cell\/scope.names.lookup y=some .free:=hy
  rcases hy with hy | hy
  ·exact n8 hy
  ·exact absurd rfl (S.BR _ (PySem.mem_of_lookup hy))
 ·exact Nat.le_of_lt (x.above y c (PySem.mem_of_lookup h))
 ·have hi:i < vs.length:=by
   unfold start at h2
   by_cases hi:i < vs.length
   ·exact hi
   ·rw[List.getElem?_append_right (by simpa using hi)]at h2
    rw[List.getElem?_replicate]at h2;split at h2<;>cases h2
  have ha:vs[i]?=some v:=by
   unfold start at h2;rw[List.getElem?_append_left (by simpa using hi),List.getElem?_map]at h2
   cases e:vs[i]? with
   | none=>rw[e]at h2;cases h2
   | some a=>rw[e]at h2;cases h2;rfl
  obtain⟨u,hu,rv⟩:=r.get ha
  have hp:ps[i]?=some y:=by
   rw[← S.pre,List.getElem?_take_of_lt (by omega)];exact h1
  have NC:ps.Nodup:=by rw[← S.pre];exact S.nd.sublist (List.take_sublist _ _)
  refine⟨u,rv,?_⟩;rcases S.par y (List.mem_of_getElem? hp) with k | k
  ·exact .inl ⟨k,lK NC hp hu k⟩
  ·obtain⟨c,e⟩:=n8 (n:=s.heap.objs.size + 1) k
   refine .inr ⟨.inl k,c,e,?_⟩;have q:=x.cell y c e;rw[lL NC hp hu (by show scope.names.lookup y≠_;rw[k];decide)]at q
   exact q
 ·have hz:=e0.hok.fresh (Nat.le_of_lt (x.above y c (PySem.mem_of_lookup h)))
  exact⟨.inl hz,fun _=>hz⟩
 ·unfold start
  show _=N.length
  rw[List.length_append,List.length_map,List.length_replicate];omega
theorem u3{CX:ri}{P:Program}{w:World}{K:PySem.W.Frag}{mg:Str->Option Value}{base:Heap}{k:Nat}{f:Addr}{name qual:Str}{params:Arguments}{body:List Stmt}{scope:Scope}{dV kV doc pm cdv ct oc:Value}{an od:Option Addr}
  {osl:Array (Option Value)} {N ps:List Str} {sp:Sp} (lk:K.lookup f=some ⟨oc,od,.func (PySem.W.fnOf name qual params body scope dV kV doc pm an cdv ct),osl⟩) (hcd:PySem.W.codeIn K cdv qual=true) (S:fD N ps scope)
  (len:∀ vs H Q E,sp vs H Q E->vs.length=ps.length)
  (hbody:∀ (A:Around) (outer:List Env) (s:Shared) (H:Hp) (vs:List V) (Q:VK) (E:XK),bP k (A.deeper (envOfC qual scope s.heap.objs.size f cdv))->sp vs H Q E ->
   ∃ t,ij (bZ CX P w K mg base N qual scope f cdv A outer s H E) body t/\t { nx:=fun _ H'=>Q .non H',rt:=Q } (start N vs) H) :
  bU P w K mg base CX (k + 1) f (PySem.W.fnOf name qual params body scope dV kV doc pm an cdv ct) ps sp:=by
 refine⟨len,fun A outer s H args us vs Q E hr e0 hb r hsp => ?_⟩
 have hl:=len _ _ _ _ hsp;have KX:K.In s.heap:=e0.mod.D4.keeps fun b o e=>(e0.bs b o e).1
 have lim:s.heap.NoLimit:=e0.mod.nolimit.keeps fun b o e=>(e0.bs b o e).1
 have hkind:∀ y∈ps.zip us,scope.names.lookup y.1=some .local\/(scope.names.lookup y.1=some .cell/\((cellsFrom (s.heap.objs.size + 1) scope.names []).lookup y.1).isSome=true):=fun ⟨n,v⟩ hy=>by
  rcases S.par n (List.of_mem_zip hy).1 with q | q
  ·exact .inl q
  ·exact .inr ⟨q,PySem.W.cellsFrom_some _ _ _ (.inl q)⟩
 refine codeAny_call_function hr.depth (KX _ _ lk) rfl S.co S.gen rfl (PySem.W.codeRec_of KX hcd) (hb _ _ _ _ ?_);refine wpAny_newFunctionEnv_cells S.kind hkind fun env he s1 x => ?_
 subst he;refine⟨lim.keeps x.toInCall.keep,codeAny_func ?_⟩;obtain⟨t,ht,hq⟩:=hbody A outer s H vs Q E (hr.deeper _) hsp;have I:Inv (bZ CX P w K mg base N qual scope f cdv A outer s H E) [] (start N vs) H s1:=iS S hr.hd e0 hl r x;refine wpAny_mono (ht [] s1 (start N vs) H _ I hq) (fun fl s' hs => ?_) fun e s' hs=>hs
 have fin:∀ {σ':St} {H':Hp} {v:V} {u:Value},Inv (bZ CX P w K mg base N qual scope f cdv A outer s H E) [] σ' H' s'->RelV v u->Q v H'->CE outer P w H s Q u s':=
  fun {σ' H' v u} J rv q=>⟨v,H',J.os,J.bare,J.base,J.hok,rv,q⟩
 cases fl with
 | ret u=>
  obtain⟨v,σ',H',J,rv,q⟩:=hs;exact fin J rv q
 | next=>
  obtain⟨σ',H',J,q⟩:=hs;exact fin (v:=V.non) (u:=Value.none) J rfl q
 | brk=>
  obtain⟨_,_,_,q⟩:=hs;exact False.elim q
 | cont=>
  obtain⟨_,_,_,q⟩:=hs;exact False.elim q
section
variable{X:Cx}{x:Str}{p pos:Pos}{e:Expr}{es:List Expr}{t:TA}{id T:String}{r:List V->Hp->VK->Prop}
noncomputable def ND(r:List V->Hp->VK->Prop)(t:TA):TE:=fun σ H Q=>t σ H fun vs H1=>r vs H1 Q
theorem jZ(hc:dQ X (.builtin id) r)(hg:Gl X x)(hm:X.mg x=none)(hv:bootBuiltins x=some (.builtin id))(ha:PA X (e::es) t)(hn:x≠"__name__":=by decide)(hdb:(x == ("__debug__":Str))=false:=by decide)
  (he:starEach (e::es) X.env=(false,eval e X.env)::starEach es X.env:=by rfl) (hpl:(backTo pos (starEach es X.env)).any (·.1)=false:=by rfl):PE X (.Call (.Name x p) (e::es) [] pos) (ND r t):=by
 intro pins s σ H Q I h;refine wpAny_Call_Name_kw (g_ I hg hm hv ?_ hn hdb);exact PyProof.Rows.callWith_builtin1 (b7 (ha pos pins s σ H _ I h) fun us s1 ⟨vs,H1,I1,r1,q1⟩=>hc pins s1 σ H1 vs us Q I1 r1 q1) he hpl
theorem tF(hc:dQ X (.type T) r)(hg:Gl X x)(hm:X.mg x=none)(hv:bootBuiltins x=some (.type T))(ha:PA X (e::es) t)(hn:x≠"__name__":=by decide)(hdb:(x == ("__debug__":Str))=false:=by decide)
  (he:starEach (e::es) X.env=(false,eval e X.env)::starEach es X.env:=by rfl) (hpl:(backTo pos (starEach es X.env)).any (·.1)=false:=by rfl):PE X (.Call (.Name x p) (e::es) [] pos) (ND r t):=by
 intro pins s σ H Q I h;refine wpAny_Call_Name_kw (g_ I hg hm hv ?_ hn hdb);exact PyProof.Rows.callWith_type1 (b7 (ha pos pins s σ H _ I h) fun us s1 ⟨vs,H1,I1,r1,q1⟩=>hc pins s1 σ H1 vs us Q I1 r1 q1) he hpl
end
end L2
namespace HT
open PySem PyProof.Rows
section
open PySem.SeqAt
open PySem.AutoSeq1 (wpAny_loadPart')
open PySem.MeetsSeq PySem.MeetsSeq2 PySem.MeetsSeq3
end
section
variable{prog:Program}{w:World}{A:Around}{E:Value->Shared->Prop}{s:Shared}
theorem yr{t b:Addr}{vs ws:List Value}{Q:Value->Shared->Prop}(ht:IsTup s.heap t vs.toArray)(hb:IsTup s.heap b ws.toArray)(hv:vs≠[])
  (h1:ws=[]->Q (.ref t) s) (h2:ws≠[]->Q (.ref s.heap.objs.size) { s with heap:=s.heap.push { cls:=.type "tuple",data:=.seq (vs++ws).toArray } })
  (hsz:vs.length + ws.length<=sizeLine):wpAny (model prog w) A (binaryOp .Add (.ref t) (.ref b)) Q E s:=by
 obtain⟨⟨cls,dd,data,sl⟩,ho,hc,n,hd⟩:=id ht;obtain⟨⟨cls2,dd2,data2,sl2⟩,ho2,hc2,n2,hd2⟩:=id hb;simp only at hc hd hc2 hd2;subst hc hd hc2 hd2;have e:vs.toArray++ws.toArray=(vs++ws).toArray:=by simp
 by_cases hw:ws=[]
 ·exact concat_meets ⟨_,ho,rfl⟩ ⟨_,ho2,rfl⟩ noFill_tuple_add seq_tuple_add PySem.F.slot_tuple_add PySem.F.entry_tuple_add (PySem.F.args_tuple_add_2 _ _)
   (tuple_addW1 t b vs.toArray ws.toArray n n2 dd dd2 sl sl2 (by simpa using hv) (by simp[hw])) ⟨ho,ho2,h1 hw⟩
 ·refine concat_meets ⟨_,ho,rfl⟩ ⟨_,ho2,rfl⟩ noFill_tuple_add seq_tuple_add PySem.F.slot_tuple_add PySem.F.entry_tuple_add (PySem.F.args_tuple_add_2 _ _)
   (tuple_addW2 t b vs.toArray ws.toArray n n2 dd dd2 sl sl2 (by simpa using hv) (by simpa using hw) (by rw[List.size_toArray,List.size_toArray];exact hsz)) ⟨ho,ho2,?_⟩
  rw[e];exact h2 hw
noncomputable def cj(n d:Nat):Option Int->Nat
 | none=>d
 | some v=>if v < 0 then (v + (n:Int)).toNat else min v.toNat n
theorem n9(n d:Nat):cj n d none=d:=rfl
theorem rk(n d k:Nat):cj n d (some (k:Int))=min k n:=by
 show(if (k:Int) < 0 then ((k:Int) + (n:Int)).toNat else min (k:Int).toNat n)=min k n
 rw[if_neg (by omega),Int.toNat_natCast]
theorem mD(n d:Nat)(hd:d<=n)(o:Option Int):cj n d o<=n:=by
 cases o with
 | none=>exact hd
 | some v=>
  show(if v < 0 then (v + (n:Int)).toNat else min v.toNat n)<=n
  by_cases hv:v < 0
  ·rw[if_pos hv];omega
  ·rw[if_neg hv];exact Nat.min_le_right _ _
theorem rn(v:Int)(n d:Nat):(if v < 0 then max (v + (n:Int)) 0 else min v (n:Int))=((cj n d (some v):Nat):Int):=by
 show(if v < 0 then max (v + (n:Int)) 0 else min v (n:Int))=(((if v < 0 then (v + (n:Int)).toNat else min v.toNat n):Nat):Int)
 by_cases hv:v < 0
 ·simp only[if_pos hv];omega
 ·simp only[if_neg hv];omega
theorem pW(lo hi:Option Int)(n:Nat):Builtin.Slice.sliceAdjust lo hi 1 (n:Int)=(((cj n 0 lo:Nat):Int),((cj n n hi:Nat):Int)):=by
 have h1:¬ ((1:Int) < 0):=by omega
 unfold Builtin.Slice.sliceAdjust;simp only[h1,if_false];refine Prod.ext ?_ ?_
 ·cases lo with
  | none=>rfl
  | some v=>exact rn v n 0
 ·cases hi with
  | none=>rfl
  | some v=>exact rn v n n
theorem pX(i j:Nat):Builtin.Slice.slicePlaces (i:Int) (j:Int) 1=j - i:=by
 unfold Builtin.Slice.slicePlaces;have h1:(1:Int) > 0:=by omega
 simp only[h1,if_true,Int.ediv_one];split<;>omega
theorem j2{v:Value}{o:Option Int}{Q:Option Int->Shared->Prop}(p:IsPart v o)(h:Q o s):wpAny (model prog w) A (Builtin.Slice.slicePartIndex v) Q E s:=by
 cases p with
 | none=>exact slicePart_none h
 | int i t=>exact slicePart_int h
theorem eZ{sl:Addr}{vl vu:Value}{lo hi:Option Int}{n:Nat}{Q:Int×Int×Nat->Shared->Prop}(hs:s.heap.IsSliceOf sl vl vu .none)(pl:IsPart vl lo)(pu:IsPart vu hi)
  (h:Q (((cj n 0 lo:Nat):Int),1,cj n n hi - cj n 0 lo) s):wpAny (model prog w) A (Builtin.Slice.sliceApplied (.ref sl) (pure (n:Int))) Q E s:=by
 obtain⟨os,hos,hcs,hds⟩:=id hs;unfold Builtin.Slice.sliceApplied Builtin.Slice.sliceFields;refine wpAny_bind (wpAny_bind (wpAny_field hos hds (x:=vl) rfl (wpAny_bind (wpAny_field hos hds (x:=vu) rfl (wpAny_bind (wpAny_field hos hds (x:=.none) rfl (wpAny_pure ?_)))))));refine wpAny_bind (slicePart_none ?_)
 show wpAny _ _ (if ((1:Int) == 0)=true then _ else _) _ _ s
 rw[if_neg (by decide)]
 refine wpAny_bind (j2 pl (wpAny_bind (j2 pu (wpAny_bind (wpAny_pure ?_)))))
 show wpAny _ _ (match Builtin.Slice.sliceAdjust lo hi 1 (n:Int) with | (lo,hi)=>pure (lo,(1:Int),Builtin.Slice.slicePlaces lo hi 1)) _ _ s
 rw[pW lo hi n]
 show wpAny _ _ (pure (((cj n 0 lo:Nat):Int),(1:Int),Builtin.Slice.slicePlaces ((cj n 0 lo:Nat):Int) ((cj n n hi:Nat):Int) 1)) _ _ s
 rw[pX];exact wpAny_pure h
theorem u4(xs:Array Value)(i k:Nat):((List.range k).filterMap fun (m:Nat)=>xs[((i:Int) + (m:Int) * 1).toNat]?).toArray=((xs.toList.drop i).take k).toArray:=by
 have e:(fun (m:Nat)=>xs[((i:Int) + (m:Int) * 1).toNat]?)=fun m=>xs[i + m]?:=by
  funext m
  have:((i:Int) + (m:Int) * 1).toNat=i + m:=by omega
  rw[this]
 rw[e];have:=pick_run xs i k;rw[List.filterMap_map]at this;have e2:((fun x=>xs[x]?) ∘ fun x=>i + x)=fun m=>xs[i + m]?:=rfl
 rw[e2]at this;rw[this]
theorem iq{t sl:Addr}{items:Array Value}{vl vu:Value}{lo hi:Option Int}{Q:Value->Shared->Prop}(ht:IsTup s.heap t items)(hs:s.heap.IsSliceOf sl vl vu .none)(pl:IsPart vl lo)(pu:IsPart vu hi)
  (hw:¬ (cj items.size 0 lo=0/\cj items.size items.size hi=items.size))
  (h:Q (.ref s.heap.objs.size) { s with heap:=s.heap.push { cls:=.type "tuple",data:=.seq ((items.toList.drop (cj items.size 0 lo)).take (cj items.size items.size hi - cj items.size 0 lo)).toArray } })
  (hsz:items.size<=sizeLine):wpAny (model prog w) A (getItem (.ref t) (.ref sl)) Q E s:=by
 have ro:sizeOk (.seq ((items.toList.drop (cj items.size 0 lo)).take (cj items.size items.size hi - cj items.size 0 lo)).toArray):=by
  show((items.toList.drop (cj items.size 0 lo)).take (cj items.size items.size hi - cj items.size 0 lo)).toArray.size<=sizeLine
  rw[List.size_toArray,List.length_take,List.length_drop,Array.length_toList];omega
 have hj:cj items.size items.size hi<=items.size:=mD _ _ (Nat.le_refl _) hi;obtain⟨os,hos,hcs,hds⟩:=id hs;have hTs:s.TypeIs (.ref sl) "slice":=⟨os,hos,hcs⟩;unfold getItem
 try with_reducible refine wpAny_holding ?_
 first | refine wpAny_bind (wpAny_pure ?_) | skip
 refine wpAny_bind (wpAny_sequenceKey ht.typeIs (by decide) ?_)
 refine wpAny_bind (wpAny_callSpecial?_slot (name:=Str.ofString "__getitem__") ht.typeIs PyProof.Rows.slot_tuple_getitem
  (wpAny_call_entry PyProof.Rows.slot_tuple_getitem ht.typeIs entry_tuple_getitem ?_ (args_tuple_getitem _ _)))
 show wpAny _ _ (Builtin.Tuple.tupleItemsOf (.ref t) >>= _) _ _ s
 refine wpAny_bind (tupleItemsOf_ ht ?_);refine wpAny_bind (wpAny_typeOf hTs ?_);rw[if_pos (by decide)]
 refine wpAny_bind (eZ hs pl pu ?_)
 have hno:¬ ((((cj items.size 0 lo:Nat):Int) == 0 && (1:Int) == 1 && (cj items.size items.size hi - cj items.size 0 lo) == items.size)=true):=by
  intro q;rw[Bool.and_eq_true,Bool.and_eq_true]at q;have q1:((cj items.size 0 lo:Nat):Int)=0:=eq_of_beq q.1.1;have q2:cj items.size items.size hi - cj items.size 0 lo=items.size:=eq_of_beq q.2;exact hw ⟨by omega,by omega⟩
 show wpAny _ _ (if (((cj items.size 0 lo:Nat):Int) == 0 && (1:Int) == 1 && (cj items.size items.size hi - cj items.size 0 lo) == items.size)=true then _ else _) _ _ s
 rw[if_neg hno,u4]
 first
  | exact wpAny_bind (m:=Builtin.Tuple.tupleExact _) (wpAny_newObj_type (wpAny_pure ⟨_,rfl,wpAny_pure h⟩) ro)
  | exact wpAny_bind (m:=Builtin.Tuple.tupleExact _) (wpAny_newObj_type (wpAny_bind (wpAny_pure (wpAny_pure ⟨_,rfl,wpAny_pure h⟩))) ro)
  | exact wpAny_bind (wpAny_bind (m:=Builtin.Tuple.tupleExact _) (wpAny_newObj_type (wpAny_pure (wpAny_pure ⟨_,rfl,wpAny_pure h⟩)) ro))
  | exact wpAny_bind (wpAny_bind (m:=Builtin.Tuple.tupleExact _) (wpAny_newObj_type (wpAny_pure ⟨_,rfl,wpAny_pure h⟩) ro))
end
end HT
namespace L2
open PySem PySem.Spec PyProof.Rows
abbrev TO:=St->Hp->(Option Int->Hp->Prop)->Prop
def PO(X:Cx)(e:Option Expr)(t:TO):Prop:=
 ∀ (pins:List (Addr×Obj)) (s:Shared) (σ:St) (H:Hp) (Q:Option Int->Hp->Prop),Inv X pins σ H s->t σ H Q ->
  wpAny (model X.prog X.w) X.A (evalPart e X.env) (fun u s'=>∃ o H',Inv X pins σ H' s'/\IsPart u o/\Q o H') X.xe s
noncomputable def rp:TO:=fun _ H Q=>Q none H
noncomputable def EU(t:TE):TO:=fun σ H Q=>t σ H fun x H1=>∃ i,x=.int i/\Q (some i) H1
theorem intsAre_of{ns:List Int}:∀ {us:List Value},Vals (ns.map V.int) us->IntsAre us ns:=by
 induction ns with
 | nil=>intro us r;rw[List.map_nil]at r;cases r;exact .nil
 | cons n ns ih=>
  intro us r;rw[List.map_cons]at r;cases r with
  | cons r1 r2=>
   obtain⟨t,e⟩:=r1;subst e;exact .cons n t (ih r2)
section
variable{X:Cx}{e:Expr}{te:TE}{lo hi:Option Expr}{tl th:TO}{pos p2:Pos}
theorem yt:PO X none rp:=by
 intro pins s σ H Q I h;rw[evalPart_none];exact wpAny_pure ⟨none,H,I,.none,h⟩
theorem yu(h:PE X e te):PO X (some e) (EU te):=by
 intro pins s σ H Q I hw;rw[evalPart_some];refine b7 (h pins s σ H _ I hw) fun u s1 ⟨x,H1,I1,r1,q1⟩ => ?_
 obtain⟨i,rfl,q⟩:=q1;obtain⟨t,rfl⟩:=r1;exact⟨some i,H1,I1,.int i t,q⟩
def yv(X:Cx)(r:V->Option Int->Option Int->Hp->VK->Prop):Prop:=
 ∀ (pins:List (Addr×Obj)) (s:Shared) (σ:St) (H:Hp) (x:V) (v vl vu:Value) (lo hi:Option Int) (sl:Addr) (Q:VK),Inv X pins σ H s->RelV x v->s.heap.IsSliceOf sl vl vu .none->IsPart vl lo->IsPart vu hi->r x lo hi H Q ->
  ∃ T id,typeLookup (.type T) "__getitem__"=pure (some (.builtin id))/\s.TypeIs v T/\wpAny (model X.prog X.w) X.A (getItem v (.ref sl)) (EP X pins σ Q) X.xe s
theorem yv.or{r r':V->Option Int->Option Int->Hp->VK->Prop}(h:yv X r)(h':yv X r'):yv X (fun x lo hi H Q=>r x lo hi H Q\/r' x lo hi H Q):=by
 intro pins s σ H x v vl vu lo hi sl Q I rx hs pl pu q;rcases q with q | q
 ·exact h pins s σ H x v vl vu lo hi sl Q I rx hs pl pu q
 ·exact h' pins s σ H x v vl vu lo hi sl Q I rx hs pl pu q
noncomputable def Pn(r:V->Option Int->Option Int->Hp->VK->Prop)(te:TE)(tl th:TO):TE:=fun σ H Q=>te σ H fun x H1=>tl σ H1 fun l H2=>th σ H2 fun u H3=>r x l u H3 Q
theorem fY{r:V->Option Int->Option Int->Hp->VK->Prop}(hr:yv X r)(he:PE X e te)(hl:PO X lo tl)(hu:PO X hi th):PE X (.Subscript e (.Slice lo hi none p2) pos) (Pn r te tl th):=by
 intro pins s σ H Q I h;refine Subscript_ (b7 (he pins s σ H _ I h) fun v s1 ⟨x,H1,I1,r1,q1⟩ => ?_)
 refine wpAny_Slice (b7 (hl pins s1 σ H1 _ I1 q1) fun vl s2 ⟨l,H2,I2,pl,q2⟩=>b7 (hu pins s2 σ H2 _ I2 q2) fun vu s3 ⟨u,H3,I3,pu,q3⟩ => ?_)
 rw[evalPart_none];refine wpAny_pure ?_;have I4:Inv X pins σ H3 { s3 with heap:=s3.heap.push { cls:=.type "slice",data:=.fields #[vl,vu,.none] } }:=I3.kept (t':=s3.toks) fun b ob q=>Heap.get?_push_of_some _ q
 obtain⟨T,id,hT,ht,hg⟩:=hr pins { s3 with heap:=s3.heap.push { cls:=.type "slice",data:=.fields #[vl,vu,.none] } } σ H3 x v vl vu l u s3.heap.objs.size Q I4 r1 (Heap.IsSliceOf.new ..) pl pu q3
 show wpAny (model X.prog X.w) X.A (subscriptTail e (.Slice lo hi none p2) v (.ref s3.heap.objs.size)) (EP X pins σ Q) X.xe { s3 with heap:=s3.heap.push { cls:=.type "slice",data:=.fields #[vl,vu,.none] } }
 exact tail_any (ops:=[.ref s3.heap.objs.size,v]) ht hT hg (by with_unfolding_all rfl)
def n_(xs:List V)(lo hi:Option Int):List V:=(xs.drop (HT.cj xs.length 0 lo)).take (HT.cj xs.length xs.length hi - HT.cj xs.length 0 lo)
theorem i9(xs:List V)(lo hi:Option Int):(n_ xs lo hi).length<=xs.length:=by
 unfold n_;rw[List.length_take,List.length_drop];omega
def EV(K:PySem.W.Frag):V->Option Int->Option Int->Hp->VK->Prop:=fun x lo hi H Q=>∃ a xs,x=.ref a/\fS K H a xs /\
 ¬ (HT.cj xs.length 0 lo=0/\HT.cj xs.length xs.length hi=xs.length)/\∀ p,H p=none->Q (.ref p) (upd H p (.tup (n_ xs lo hi)))
theorem j3:yv X (EV X.K):=by
 intro pins s σ H x v vl vu lo hi sl Q I rx hs pl pu h;obtain⟨a,xs,rfl,hx,hw,q⟩:=h;cases rx;obtain⟨its,r,ht,hz⟩:=I.tuple hx;have hlen:its.toArray.size=xs.length:=by rw[List.size_toArray];exact r.length.symm
 refine⟨"tuple",_,PyProof.Rows.slot_tuple_getitem.lookup,ht.typeIs,?_⟩;refine HT.iq ht hs pl pu (by rw[hlen];exact hw) ?_ (by rw[hlen];exact hz)
 rw[hlen];refine⟨.ref s.heap.objs.size,_,I.laid (t':=s.toks) (o:=.tup (n_ xs lo hi)) (fun b ob q=>Heap.get?_push_of_some _ q) (Nat.le_refl _) ?_,rfl,q _ (I.hok.fresh (Nat.le_refl _))⟩
 exact⟨Nat.le_trans (i9 xs lo hi) hz,_,(r.drop (HT.cj xs.length 0 lo)).take (HT.cj xs.length xs.length hi - HT.cj xs.length 0 lo),IsTup.new _ _⟩
def AW(K:PySem.W.Frag):R2:=fun x y H Q=>∃ a b xs ys,x=.ref a/\y=.ref b/\fS K H a xs/\fS K H b ys/\xs≠[]/\xs.length + ys.length<=sizeLine /\
 (ys=[]->Q (.ref a) H)/\(ys≠[]->∀ p,H p=none->Q (.ref p) (upd H p (.tup (xs++ys))))
theorem Vals.mE{xs:List V}{us:List Value}(r:Vals xs us):us=[]↔xs=[]:=by
 cases r with
 | nil=>simp
 | cons _ _=>simp
theorem yw:fT X (binaryOp .Add) (AW X.K):=by
 intro pins s σ H x y v u Q I rx ry h;obtain⟨a,b,xs,ys,rfl,rfl,ha,hb,hx,hz,q1,q2⟩:=h;cases rx;cases ry;obtain⟨its,r1,p1,_⟩:=I.tuple ha;obtain⟨its2,r2,p2,_⟩:=I.tuple hb;refine HT.yr p1 p2 (fun z=>hx (r1.mE.mp z)) (fun z=>⟨.ref a,H,I,rfl,q1 (r2.mE.mp z)⟩) (fun z => ?_) (by rw[← r1.length,← r2.length];exact hz)
 refine⟨.ref s.heap.objs.size,_,I.laid (t':=s.toks) (o:=.tup (xs++ys)) (fun b ob q=>Heap.get?_push_of_some _ q) (Nat.le_refl _) ?_,rfl,q2 (fun w=>z (r2.mE.mpr w)) _ (I.hok.fresh (Nat.le_refl _))⟩
 exact⟨by rw[List.length_append];exact hz,_,r1.append r2,IsTup.new _ _⟩
end
noncomputable def uF(n:Nat)(i:Int):Option Nat:=if 0<=i then (if i < n then some i.toNat else none) else if -(n:Int)<=i then some (i + n).toNat else none
def i_{α:Type}(xs:List α)(i:Int):Option α:=(uF xs.length i).bind fun j=>xs[j]?
theorem rq{n:Nat}{i:Int}{j:Nat}(h:uF n i=some j):seqIndex? i n=some j/\j < n /\ -(n:Int)<=i/\i < n:=by
 unfold uF at h
 by_cases h0:0<=i
 ·rw[if_pos h0]at h
  by_cases h1:i < n
  ·rw[if_pos h1]at h
   have e:i.toNat=j:=Option.some.inj h;exact⟨by rw[seqIndex_of h0 h1,e],by omega,by omega,h1⟩
  ·rw[if_neg h1]at h;cases h
 ·rw[if_neg h0]at h
  by_cases h1 : -(n:Int)<=i
  ·rw[if_pos h1]at h
   have e:(i + n).toNat=j:=Option.some.inj h;exact⟨by rw[seqIndex_neg (by omega) h1,e],by omega,h1,by omega⟩
  ·rw[if_neg h1]at h;cases h
theorem mF{α:Type}{xs:List α}{i:Int}{v:α}(h:i_ xs i=some v):∃ j,seqIndex? i xs.length=some j/\xs[j]?=some v/\j < xs.length /\ -(xs.length:Int)<=i/\i < xs.length:=by
 unfold i_ at h;cases e:uF xs.length i with
 | none=>rw[e]at h;cases h
 | some j=>
  rw[e]at h;obtain⟨h1,h2,h3,h4⟩:=rq e;exact⟨j,h1,h,h2,h3,h4⟩
theorem bK{α:Type}{xs:List α}{j:Nat}{v:α}(h:xs[j]?=some v):i_ xs (j:Int)=some v:=by
 have hj:j < xs.length:=(List.getElem?_eq_some_iff.mp h).1
 have e:uF xs.length (j:Int)=some j:=by
  unfold uF;rw[if_pos (by omega),if_pos (by omega)];simp
 unfold i_;rw[e];exact h
def rz(b:Expr):Prop:=∀ o i,subscripted b false o i=operate [o,i] (getItem o i)
def yx(X:Cx)(r:R2):Prop:=
 ∀ (value slice:Expr) (pins:List (Addr×Obj)) (s:Shared) (σ:St) (H:Hp) (x y:V) (v u:Value) (Q:VK),Inv X pins σ H s->RelV x v->RelV y u->r x y H Q ->
  subscripted slice false v u=operate [v,u] (getItem v u)->wpAny (model X.prog X.w) X.A (subscriptTail value slice v u) (EP X pins σ Q) X.xe s
def Eb(X:Cx)(id:String)(r:V->List V->Hp->VK->Prop):Prop:=
 ∀ (pins:List (Addr×Obj)) (s:Shared) (σ:St) (H:Hp) (x:V) (xs:List V) (v:Value) (us:List Value) (Q:VK),Inv X pins σ H s->RelV x v->Vals xs us->r x xs H Q ->
  wpAny (model X.prog X.w) X.A (call (.builtin id) (v::us)) (EP X pins σ Q) X.xe s
section
variable{X:Cx}{a b:Expr}{ta tb:TE}{pos:Pos}
theorem yx.or{r r':R2}(h:yx X r)(h':yx X r'):yx X (fun x y H Q=>r x y H Q\/r' x y H Q):=by
 intro value slice pins s σ H x y v u Q I rx ry q hs;rcases q with q | q
 ·exact h value slice pins s σ H x y v u Q I rx ry q hs
 ·exact h' value slice pins s σ H x y v u Q I rx ry q hs
theorem u5{r:R2}(hr:yx X r)(ha:PE X a ta)(hb:PE X b tb)(hs:rz b):PE X (.Subscript a b pos) (D9 r ta tb):=by
 intro pins s σ H Q I h;exact Subscript_ (BH ha hb I h fun v u s2 x y H2 I2 rx ry q=>hr a b pins s2 σ H2 x y v u Q I2 rx ry q (hs _ _))
def EW(K:PySem.W.Frag):R2:=fun x y H Q=>∃ p xs i v,x=.ref p/\y=.int i/\i7 K H p xs/\i_ xs i=some v/\Q v H
def EY(K:PySem.W.Frag):R2:=fun x y H Q=>∃ p xs i v,x=.ref p/\y=.int i/\fS K H p xs/\i_ xs i=some v/\Q v H
def EZ:R2:=fun x y H Q=>∃ z i c,x=.str z/\y=.int i/\z.length<=sizeLine/\i_ z.cps.toList i=some c/\Q (.str ⟨#[c]⟩) H
theorem yy:yx X (EW X.K):=by
 intro value slice pins s σ H x y v u Q I rx ry h hs;obtain⟨p,xs,i,z,rfl,rfl,hq,he,q⟩:=h;cases rx;obtain⟨t,rfl⟩:=ry;obtain⟨its,r,pl,hz⟩:=I.list hq;obtain⟨j,h1,h2,h3,h4,h5⟩:=mF he;obtain⟨w,ew,xX⟩:=r.get h2;have hl:=r.length;have hn:=hU;have fin:EP X pins σ Q w s:=⟨z,H,I,xX,q⟩
 by_cases h0:0<=i
 ·have hj:i.toNat=j:=by
   rw[seqIndex_of h0 h5]at h1;exact Option.some.inj h1
  exact item_listR pl.isList h0 (by omega) (by rw[hj];simpa using ew) fin hs
 ·have hj:(i + (its.toArray.size:Int)).toNat=j:=by
   rw[seqIndex_neg (by omega) h4]at h1
   rw[List.size_toArray,← hl];exact Option.some.inj h1
  exact subscriptTail_builtinR (x:=w) pl.isList.typeIs slot_list_getitem.lookup
   (wpAny_getItem_list_neg (Q:=fun r s'=>r=w/\EP X pins σ Q r s') pl.isList (by omega) (by rw[List.size_toArray]<;>omega) (by omega) (by rw[hj];simpa using ew) ⟨rfl,fin⟩) hs
theorem BS:yx X (EY X.K):=by
 intro value slice pins s σ H x y v u Q I rx ry h hs;obtain⟨p,xs,i,z,rfl,rfl,hq,he,q⟩:=h;cases rx;obtain⟨t,rfl⟩:=ry;obtain⟨its,r,pl,hz⟩:=I.tuple hq;obtain⟨j,h1,h2,h3,h4,h5⟩:=mF he;obtain⟨w,ew,xX⟩:=r.get h2;have hl:=r.length;have hn:=hU;have fin:EP X pins σ Q w s:=⟨z,H,I,xX,q⟩
 exact subscriptTail_builtinR (x:=w) pl.typeIs slot_tuple_getitem.lookup
  (getItem_tuple (j:=j) (Q:=fun r s'=>r=w/\EP X pins σ Q r s') pl (by omega) (by omega) (by rw[List.size_toArray,← hl];exact h1) (by simpa using ew) ⟨rfl,fin⟩) hs
theorem BU:yx X EZ:=by
 intro value slice pins s σ H x y v u Q I rx ry h hs;obtain⟨z,i,c,rfl,rfl,hz,he,q⟩:=h;obtain⟨t,rfl⟩:=rx;obtain⟨t',rfl⟩:=ry;obtain⟨j,h1,h2,h3,h4,h5⟩:=mF he;have hl:z.cps.toList.length=z.length:=by simp[Str.length]
 rw[hl]at h1 h4 h5;have hn:=hU
 exact tail_any (typeIs_str s z t) slot_str_getitem.lookup (getItem_str (c:=c) (by
  have e1:decide (i < -(2 ^ 63:Int))=false:=decide_eq_false (by omega)
  have e2:decide (i≥2 ^ 63)=false:=decide_eq_false (by omega)
  rw[e1,e2,Bool.or_false]) (by rw[h1];simpa using h2) ⟨.str ⟨#[c]⟩,H,I.tok _,⟨_,rfl⟩,q⟩) hs
def E3(K:PySem.W.Frag):R2:=fun x y H Q=>EW K x y H Q\/EY K x y H Q\/EZ x y H Q
theorem pY:yx X (E3 X.K):=yy.or (BS.or BU)
theorem Inv.lst{pins:List (Addr×Obj)}{σ:St}{H:Hp}{s:Shared}{p:Addr}{xs:List V}(I:Inv X pins σ H s)(h:H p=some (.lst xs)) :
  ∃ (its:List Value) (n:Nat),Vals xs its/\s.heap.get? p=some { cls:=.type "list",data:=.seq its.toArray n }/\xs.length<=sizeLine:=by
 obtain⟨z,its,n,r,e⟩:=I.hok p _ h;exact⟨its,n,r,e,z⟩
theorem mG(lo hi:Option Int)(n:Nat):(sliceBounds lo hi none n).1=((HT.cj n 0 lo:Nat):Int)/\(sliceBounds lo hi none n).2.1=((HT.cj n n hi:Nat):Int)/\(sliceBounds lo hi none n).2.2=1:=by
 refine⟨?_,?_,rfl⟩
 ·cases lo with
  | none=>simp[sliceBounds,HT.cj]
  | some i=>
   simp only[sliceBounds,HT.cj,Option.getD_none,show(1:Int) > 0 by decide,if_true]
   by_cases h:i < 0
   ·simp only[h,if_true]<;>omega
   ·simp only[h,if_false]<;>omega
 ·cases hi with
  | none=>simp[sliceBounds,HT.cj]
  | some i=>
   simp only[sliceBounds,HT.cj,Option.getD_none,show(1:Int) > 0 by decide,if_true]
   by_cases h:i < 0
   ·simp only[h,if_true]<;>omega
   ·simp only[h,if_false]<;>omega
theorem ll(its:List Value)(lo hi:Option Int):slicePick its.toArray lo hi none=((its.drop (HT.cj its.length 0 lo)).take (HT.cj its.length its.length hi - HT.cj its.length 0 lo)).toArray:=by
 obtain⟨h1,h2,h3⟩:=mG lo hi its.toArray.size;unfold slicePick;rw[h1,h2,h3];simp only[sliceRange_one,pick_run,List.size_toArray]<;>rfl
def E4(K:PySem.W.Frag):V->Option Int->Option Int->Hp->VK->Prop:=fun x lo hi H Q=>∃ a xs,x=.ref a/\i7 K H a xs/\∀ p,H p=none->Q (.ref p) (upd H p (.lst (n_ xs lo hi)))
theorem ir:yv X (E4 X.K):=by
 intro pins s σ H x v vl vu lo hi sl Q I rx hs pl pu h;obtain⟨a,xs,rfl,hx,q⟩:=h;cases rx;obtain⟨its,r,ht,hz⟩:=I.list hx;have hlen:=r.length;refine⟨"list",_,slot_list_getitem.lookup,ht.isList.typeIs,?_⟩;refine wpAny_getItem_list_slice ht.isList hs pl pu .none (by simp) ?_ (by rw[List.size_toArray]<;>omega)
 rw[ll,← hlen];refine⟨.ref s.heap.objs.size,_,I.laid (t':=s.toks) (o:=.lst (n_ xs lo hi)) (fun b ob q=>Heap.get?_push_of_some _ q) (Nat.le_refl _) ?_,rfl,q _ (I.hok.fresh (Nat.le_refl _))⟩
 exact⟨Nat.le_trans (i9 xs lo hi) hz,_,0,(r.drop (HT.cj xs.length 0 lo)).take (HT.cj xs.length xs.length hi - HT.cj xs.length 0 lo),Heap.get?_push_size _ rfl⟩
theorem iu:dQ X (.builtin "len") (fun xs H Q=>∃ p ys,xs=[.ref p]/\(i7 X.K H p ys\/fS X.K H p ys)/\Q (.int ys.length) H):=by
 intro pins s σ H xs us Q I r h;obtain⟨p,ys,rfl,hq,q⟩:=h;obtain⟨u,rfl,rx⟩:=vals1 r;cases rx;have hn:=hU;rcases hq with hq | hq
 ·obtain⟨its,r',pl,hz⟩:=I.list hq
  have hlen:=r'.length;exact Calls.call_len_list pl.isList (by simp only[List.size_toArray]<;>omega) ⟨.int ys.length,H,I.tok _,⟨s.toks + 1,by rw[List.size_toArray,hlen]⟩,q⟩
 ·obtain⟨its,r',pl,hz⟩:=I.tuple hq
  have hlen:=r'.length;exact len_tuple pl (by simp only[List.size_toArray]<;>omega) ⟨.int ys.length,H,I.tok _,⟨s.toks + 1,by rw[List.size_toArray,hlen]⟩,q⟩
theorem mH:dQ X (.builtin "len") (fun xs H Q=>∃ z,xs=[.str z]/\z.length<=sizeLine/\Q (.int z.length) H):=by
 intro pins s σ H xs us Q I r h;obtain⟨z,rfl,hz,q⟩:=h;obtain⟨u,rfl,t,rfl⟩:=vals1 r;have hn:=hU;exact len_str (by omega) ⟨.int z.length,H,I.tok _,⟨_,rfl⟩,q⟩
theorem mI:dQ X (.type "list") (fun xs H Q=>∃ p ys,xs=[.ref p]/\(i7 X.K H p ys\/fS X.K H p ys)/\∀ l,H l=none->Q (.ref l) (upd H l (.lst ys))):=by
 intro pins s σ H xs us Q I r h;obtain⟨p,ys,rfl,hq,q⟩:=h;obtain⟨u,rfl,rx⟩:=vals1 r;cases rx
 have fin:∀ (its:List Value),Vals ys its->ys.length<=sizeLine->∀ (h':Heap) (c':Nat),(∀ b o',s.heap.get? b=some o'->h'.get? b=some o') ->
   h'.get? s.heap.objs.size=some { cls:=.type "list",dict:=none,data:=.seq its.toArray c',slots := #[] }->EP X pins σ Q (.ref s.heap.objs.size) { s with heap:=h' }:=fun its r' hz h' c' kp e=>
  ⟨.ref s.heap.objs.size,_,I.laid (t':=s.toks) kp (Nat.le_refl _) (show cm X.prog X.w _ h' _ (.lst ys) from⟨hz,its,c',r',e⟩),rfl,q _ (I.hok.fresh (Nat.le_refl _))⟩
 rcases hq with hq | hq
 ·obtain⟨its,r',pl,hz⟩:=I.list hq
  have hlen:=r'.length;obtain⟨o,ho,hc,n,hd⟩:=pl.isList;exact call_list_seq p (.inl rfl) ho hc hd (fun h' c' kp e=>fin its r' hz h' c' kp e) (by simp only[List.size_toArray]<;>omega)
 ·obtain⟨its,r',pl,hz⟩:=I.tuple hq
  have hlen:=r'.length;obtain⟨o,ho,hc,n,hd⟩:=pl;exact call_list_seq p (.inr rfl) ho hc hd (fun h' c' kp e=>fin its r' hz h' c' kp e) (by simp only[List.size_toArray]<;>omega)
theorem lp:dQ X (.type "tuple") (fun xs H Q=>∃ p ys,xs=[.ref p]/\((i7 X.K H p ys/\∀ l,H l=none->Q (.ref l) (upd H l (.tup ys)))\/(fS X.K H p ys/\Q (.ref p) H))):=by
 intro pins s σ H xs us Q I r h;obtain⟨p,ys,rfl,h⟩:=h;obtain⟨u,rfl,rx⟩:=vals1 r;cases rx;rcases h with ⟨hq,q⟩ | ⟨hq,q⟩
 ·obtain⟨its,r',pl,hz⟩:=I.list hq
  have hlen:=r'.length;refine call_tuple_list pl.isList (fun h' kp => ?_) (by simp only[List.size_toArray]<;>omega)
  have I1:Inv X pins σ H { s with heap:=h' }:=I.kept (t':=s.toks) kp
  have I2:Inv X pins σ (upd H h'.objs.size (.tup ys)) { s with heap:=h'.push { cls:=.type "tuple",data:=.seq its.toArray } }:=
   I1.laid (t':=s.toks) (fun b o e=>Heap.get?_push_of_some _ e) (Nat.le_refl _) (show cm X.prog X.w _ _ _ (.tup ys) from⟨hz,its,r',IsTup.new _ _⟩)
  exact⟨.ref h'.objs.size,_,I2,rfl,q _ (I1.hok.fresh (Nat.le_refl _))⟩
 ·obtain⟨its,r',pl,hz⟩:=I.tuple hq
  exact call_tuple_same pl ⟨.ref p,H,I,rfl,q⟩
def BV(K:PySem.W.Frag)(T:String)(x:V)(H:Hp):Prop:=match x with
 | .str _=>T="str"
 | .int _=>T="int"
 | .ref p=>(T="list"/\∃ xs,i7 K H p xs)\/(T="tuple"/\∃ o,K.lookup p=some o/\o.cls=.type "tuple"/\o.dict=none) \/
   (T="dict"/\((∃ kvs,H p=some (.dK kvs))\/∃ kvs,H p=some (.dT kvs)))\/(T="set"/\∃ S n,H p=some (.set S n))
 | _=>False
theorem u6{pins:List (Addr×Obj)}{σ:St}{H:Hp}{s:Shared}{T:String}{x:V}{v:Value}(I:Inv X pins σ H s)(r:RelV x v)(ty:BV X.K T x H) :
  s.TypeIs v T/\∀ a,v=.ref a->∃ ob,s.heap.get? a=some ob/\ob.dict=none:=by
 cases x with
 | str z=>
  obtain⟨t,rfl⟩:=r;cases (show T="str" from ty)
  exact⟨typeIs_str s z t,fun _ e=>nomatch e⟩
 | int i=>
  obtain⟨t,rfl⟩:=r;cases (show T="int" from ty)
  exact⟨typeIs_int s i t,fun _ e=>nomatch e⟩
 | ref p=>
  cases r;rcases ty with ⟨rfl,xs,hq⟩ | ⟨rfl,o,hk,hc,hd⟩ | ⟨rfl,hk⟩ | ⟨rfl,S,n,hk⟩
  ·obtain⟨its,_,pl,_⟩:=I.list hq
   refine⟨pl.isList.typeIs,fun a e => ?_⟩
   cases e;obtain⟨o,n,e,c,hd,_⟩:=pl;exact⟨o,e,hd⟩
  ·refine⟨⟨o,I.fX p o hk,hc⟩,fun a e => ?_⟩
   cases e;exact⟨o,I.fX _ o hk,hd⟩
  ·have z:∃ o,s.heap.get? p=some o/\o.ExactDict:=by
    rcases hk with ⟨kvs,hk⟩ | ⟨kvs,hk⟩
    ·obtain⟨_,_,_,_,o,_,_,e,ex,_⟩:=I.hok p _ hk
     exact⟨o,e,ex⟩
    ·obtain⟨_,_,_,_,o,_,_,e,ex,_⟩:=I.hok p _ hk
     exact⟨o,e,ex⟩
   obtain⟨o,e,ex⟩:=z;refine⟨⟨o,e,ex.1⟩,fun a e2 => ?_⟩
   cases e2;exact⟨o,e,ex.2.1⟩
  ·obtain⟨o,_,_,_,e,ex,_⟩:=I.hok p _ hk
   refine⟨⟨o,e,ex.1⟩,fun a e2 => ?_⟩
   cases e2;exact⟨o,e,ex.2.1⟩
 | _=>exact False.elim ty
noncomputable def Kq(K:PySem.W.Frag)(T:String)(r:V->List V->Hp->VK->Prop)(to:TE):TE:=fun σ H Q=>to σ H fun x H1=>BV K T x H1/\r x [] H1 Q
noncomputable def Po(K:PySem.W.Frag)(T:String)(r:V->List V->Hp->VK->Prop)(to:TE)(t:TA):TE:=fun σ H Q=>to σ H fun x H1=>BV K T x H1/\t σ H1 fun xs H2=>r x xs H2 Q
variable{o e:Expr}{es:List Expr}{to:TE}{t:TA}{name:Str}{apos cpos:Pos}{T id:String}{r:V->List V->Hp->VK->Prop}
theorem BW(pa:PlainAttrs T)(slot:Slot T name id)(hty:typeOf (.builtin id)=pure (.type "method_descriptor"))(hm:Eb X id r)(ho:PE X o to)
  (hbase:attributeBase o name X.env (eval o X.env)=eval o X.env:=by rfl) (hline:(apos.endLine == cpos.line)=true:=by rfl):PE X (.Call (.Attribute o name apos) [] [] cpos) (Kq X.K T r to):=by
 intro pins s σ H Q I h;refine wpAny_Call_method0_late hbase hline (b7 (ho pins s σ H _ I h) fun v s1 ⟨x,H1,I1,r1,ty,q1⟩ => ?_)
 obtain⟨h1,h2⟩:=u6 I1 r1 ty;exact⟨T,id,pa,slot,hty,h1,h2,Calls.callWith_builtin rfl (PySem.evalArgs_none (hm pins s1 σ H1 x [] v [] Q I1 r1 .nil q1))⟩
theorem E5(pa:PlainAttrs T)(slot:Slot T name id)(hty:typeOf (.builtin id)=pure (.type "method_descriptor"))(hm:Eb X id r)(ho:PE X o to)(ha:PA X (e::es) t)
  (hbase:attributeBase o name X.env (eval o X.env)=eval o X.env:=by rfl)
  (hfew:((backTo cpos (starEach (e::es) X.env)).all (fun x => !x.1) && (backToKw cpos (keywordEach [] X.env)).all (fun x=>x.1.isSome)
   && decide ((e::es).length + ([]:List Keyword).length + (if ([]:List Keyword).isEmpty then 0 else 1) < 30))=true:=by rfl)
  (hline:(apos.endLine == cpos.line)=true:=by rfl) (hs:starEach (e::es) X.env=(false,eval e X.env)::starEach es X.env:=by rfl) (hplain:(backTo cpos (starEach es X.env)).any (·.1)=false:=by rfl) :
  PE X (.Call (.Attribute o name apos) (e::es) [] cpos) (Po X.K T r to t):=by
 intro pins s σ H Q I h;refine wpAny_Call_method_late hbase hfew hline rfl (b7 (ho pins s σ H _ I h) fun v s1 ⟨x,H1,I1,r1,ty,q1⟩ => ?_)
 obtain⟨h1,h2⟩:=u6 I1 r1 ty;refine⟨T,id,pa,slot,hty,h1,h2,?_⟩;have hA:=ha cpos pins s1 σ H1 _ I1 q1;rw[hs]at hA ⊢;refine Calls.callWith_builtin (by show(false || (backTo cpos (starEach es X.env)).any (·.1))=false;rw[hplain]<;>rfl) (Calls.evalArgs_plain ?_)
 exact b7 hA fun us s2 ⟨vs,H2,I2,r2,q2⟩=>hm pins s2 σ H2 x vs v us Q I2 r1 r2 q2
end
def Kr(X:Cx)(id:String)(r:V->List V->Hp->VK->Prop):Prop:=
 ∀ (pins:List (Addr×Obj)) (s:Shared) (σ:St) (H:Hp) (x:V) (xs:List V) (v:Value) (us:List Value) (Q:VK),Inv X pins σ H s->RelV x v->Vals xs us->r x xs H Q ->
  wpAny (model X.prog X.w) X.A (call (.builtin id) (v::us)) (EP X pins σ Q) X.xe s
theorem Vals.one:∀ {x:V} {us:List Value},Vals [x] us->∃ u,us=[u]/\RelV x u
 | _,_,.cons r .nil=>⟨_,rfl,r⟩
theorem Vals.zero:∀ {us:List Value},Vals [] us->us=[]
 | _,.nil=>rfl
theorem Vals.eraseIdx:∀ {xs:List V} {us:List Value} (i:Nat),Vals xs us->Vals (xs.eraseIdx i) (us.eraseIdx i)
 | _,_,_,.nil=>.nil
 | _,_,0,.cons _ t=>t
 | _,_,i + 1,.cons r t=>.cons r (Vals.eraseIdx i t)
theorem Vals.reverse{xs:List V}{us:List Value}(h:Vals xs us):Vals xs.reverse us.reverse:=by
 induction h with
 | nil=>exact .nil
 | cons r t ih=>rw[List.reverse_cons,List.reverse_cons];exact Vals.append ih (.cons r .nil)
theorem lM{α:Type}:∀ (l:List α) (i:Nat),(l.eraseIdx i).length<=l.length
 | [],_=>Nat.le_refl _
 | _::_,0=>Nat.le_succ _
 | _::r,i + 1=>Nat.succ_le_succ (lM r i)
section
variable{X:Cx}{pins:List (Addr×Obj)}{σ:St}{H:Hp}{s:Shared}{l b:Addr}{xs ys zs:List V}
theorem Inv.BX{its its':List Value}{n:Nat}{f:Array Value->Array Value}{t':Nat}(I:Inv X pins σ H s)(hH:H l=some (.lst xs))
  (e:s.heap.get? l=some { cls:=.type "list",data:=.seq its.toArray n }) (hf:f its.toArray=its'.toArray) (hv:Vals ys its') (hz:ys.length<=sizeLine) :
  Inv X pins σ (upd H l (.lst ys)) { s with heap:=s.heap.update l (Obj.mapSeq f),toks:=t' }:=by
 have q:=PySem.IsL.update e f;rw[hf]at q;refine I.write (x:=l) (e:=l) (by rw[hH];exact trivial) (.inl rfl) (fun b' u hb hu=>(Heap.get?_update_other s.heap (Obj.mapSeq f) (Ne.symm hb)).trans hu) ⟨_,q⟩ ?_
 exact⟨hz,its',_,hv,q⟩
theorem Inv.Ks{its:List Value}{t':Nat}(I:Inv X pins σ H s)(hv:Vals ys its)(hz:ys.length<=sizeLine) :
  Inv X pins σ (upd H s.heap.objs.size (.lst ys)) { s with heap:=s.heap.push { cls:=.type "list",data:=.seq its.toArray },toks:=t' }:=
 I.laid (fun _ _ q=>Heap.get?_push_of_some _ q) (Nat.le_refl _) ⟨hz,its,0,hv,Heap.get?_push_size _ rfl⟩
theorem Inv.fresh(I:Inv X pins σ H s):H s.heap.objs.size=none:=I.hok.fresh (Nat.le_refl _)
theorem Inv.BY(I:Inv X pins σ H s)(hH:H l=some (.lst xs)):xs.length<=sizeLine/\∃ (its:List Value) (n:Nat),Vals xs its/\xs.length=its.length/\s.heap.get? l=some { cls:=.type "list",data:=.seq its.toArray n }:=by
 obtain⟨z,its,n,r,e⟩:=I.hok l _ hH;exact⟨z,its,n,r,r.length,e⟩
end
section
variable{X:Cx}
def rC:V->List V->Hp->VK->Prop:=fun x vs H Q=>∃ l xs y,x=.ref l/\vs=[y]/\H l=some (.lst xs)/\xs.length < sizeLine/\Q .non (upd H l (.lst (xs++[y])))
theorem lN:Kr X "list.append" rC:=by
 intro pins s σ H x vs v us Q I rx rv h;obtain⟨l,xs,y,rfl,rfl,hH,hz,q⟩:=h;cases rx;obtain⟨u,rfl,ru⟩:=rv.one;obtain⟨z,its,n,r,hl,e⟩:=I.BY hH;refine call_meets F.slot_list_append ⟨_,e,rfl⟩ F.entry_list_append (F.args_list_append_2 _ _) (PySem.list_append l its.toArray n u (by rw[List.size_toArray];omega)) ⟨e,?_⟩
 refine⟨.non,_,I.BX (its':=its++[u]) hH e (by simp) (r.append (.cons ru .nil)) ?_,rfl,q⟩
 rw[List.length_append,List.length_singleton];omega
def u7:V->List V->Hp->VK->Prop:=fun x vs H Q=>∃ l xs i k y,x=.ref l/\vs=[.int i]/\H l=some (.lst xs) /\ -(2 ^ 63)<=i/\i < 2 ^ 63/\seqIndex? i xs.length=some k/\xs[k]?=some y/\Q y (upd H l (.lst (xs.eraseIdx k)))
theorem u9:Kr X "list.pop" u7:=by
 intro pins s σ H x vs v us Q I rx rv h;obtain⟨l,xs,i,k,y,rfl,rfl,hH,h1,h2,hk,hy,q⟩:=h;cases rx;obtain⟨u,rfl,ru⟩:=rv.one;obtain⟨t,rfl⟩:=ru;obtain⟨z,its,n,r,hl,e⟩:=I.BY hH;obtain⟨w,hw,xX⟩:=r.get hy
 refine call_meets F.slot_list_pop ⟨_,e,rfl⟩ F.entry_list_pop (F.args_list_pop_2 _ _)
  (MeetsSeq.list_pop_at l its.toArray n i t k w (fitsIndex_both h1 h2) (by rw[List.size_toArray,← hl];exact hk) (by rw[← Array.getElem?_toList];exact hw) (by rw[List.size_toArray];omega)) ⟨e,?_⟩
 refine⟨y,_,I.BX (its':=its.eraseIdx k) hH e ?_ (r.eraseIdx k) ?_,xX,q⟩
 ·show its.toArray.eraseIdxIfInBounds k=(its.eraseIdx k).toArray
  rw[List.eraseIdxIfInBounds_toArray]
 ·have:=lM xs k
  omega
def oa:V->List V->Hp->VK->Prop:=fun x vs H Q=>∃ l xs,x=.ref l/\vs=[]/\H l=some (.lst xs)/\Q .non (upd H l (.lst xs.reverse))
theorem pZ:Kr X "list.reverse" oa:=by
 intro pins s σ H x vs v us Q I rx rv h;obtain⟨l,xs,rfl,rfl,hH,q⟩:=h;cases rx;have hus:=rv.zero;subst hus;obtain⟨z,its,n,r,hl,e⟩:=I.BY hH;refine call_meets F.slot_list_reverse ⟨_,e,rfl⟩ F.entry_list_reverse (F.args_list_reverse_1 _) (AutoSeq1.list_reverse_list_0 l its.toArray n (by rw[List.size_toArray];omega)) ⟨e,?_⟩
 refine⟨.non,_,I.BX (its':=its.reverse) hH e (by simp) r.reverse ?_,rfl,q⟩
 rw[List.length_reverse];omega
end
section
variable{prog:Program}{w:World}{A:Around}{E:Value->Shared->Prop}{s:Shared}
end
section
variable{X:Cx}
end
section
variable{κ:Type}[DecidableEq κ]
noncomputable def BZ(kvs:List (κ×V))(k:κ):Option V:=(kvs.find? fun kv=>decide (kv.1=k)).map (·.2)
noncomputable def putK(kvs:List (κ×V))(k:κ)(v:V):List (κ×V):=
 if (kvs.any fun kv=>decide (kv.1=k))=true then kvs.map (fun kv=>if kv.1=k then (kv.1,v) else kv) else kvs++[(k,v)]
theorem mr.getD{o:Option V}{u:Option Value}{d:V}{d':Value}(r:mr o u)(rd:RelV d d'):RelV (o.getD d) (u.getD d'):=by
 cases o with
 | none=>cases u with
  | none=>exact rd
  | some _=>exact(show False from r).elim
 | some _=>cases u with
  | none=>exact(show False from r).elim
  | some _=>exact r
theorem KV.length{kvs:List (κ×V)}{vs:List (κ×Value)}(r:KV kvs vs):kvs.length=vs.length:=Paired.length r
end
abbrev KT(H:Hp):List (List Key×V)->List (List Key×Addr×Value)->Prop:=Paired fun p q=>p.1=q.1/\H q.2.1=some (.tup (p.1.map kV))/\RelV p.2 q.2.2
section
variable{P:Program}{w:World}{H:Hp}{h:Heap}{a:Addr}
end
def E6(H:Hp)(a:Addr)(y:V)(r:Option V):Prop:=
 (∃ kvs k,Rd H a (.dK kvs)/\y=kV k/\r=BZ kvs k)\/∃ kvs k b,Rd H a (.dT kvs)/\y=.ref b/\H b=some (.tup (k.map kV))/\r=BZ kvs k
def E7(H:Hp)(a:Addr)(y v:V)(H':Hp):Prop:=
 (∃ kvs k,H a=some (.dK kvs)/\y=kV k/\kvs.length < sizeLine/\H'=upd H a (.dK (putK kvs k v))) \/
 ∃ kvs k b,H a=some (.dT kvs)/\y=.ref b/\H b=some (.tup (k.map kV))/\kvs.length < sizeLine/\H'=upd H a (.dT (putK kvs k v))
theorem E6.k{H:Hp}{a:Addr}{kvs:List (Key×V)}{k:Key}(e:H a=some (.dK kvs)):E6 H a (kV k) (BZ kvs k):=.inl ⟨kvs,k,.inl e,rfl,rfl⟩
theorem E7.k{H:Hp}{a:Addr}{kvs:List (Key×V)}{k:Key}{v:V}(e:H a=some (.dK kvs))(hl:kvs.length < sizeLine):E7 H a (kV k) v (upd H a (.dK (putK kvs k v))):=.inl ⟨kvs,k,e,rfl,hl,rfl⟩
section
variable{X:Cx}{pins:List (Addr×Obj)}{σ:St}{H:Hp}{s:Shared}{a:Addr}{y v:V}{u r:Value}{o:Option V}{A:Around}{E:Value->Shared->Prop}
end
section
variable{X:Cx}{pins:List (Addr×Obj)}{σ:St}{H:Hp}{s:Shared}{a:Addr}{kvs:List (Key×V)}{k:Key}{u:Value}{A:Around}{E:Value->Shared->Prop}
end
section
variable{X:Cx}{o i e value:Expr}{pos pos' tpos:Pos}{td ty tv:TE}
end
section
variable{X:Cx}{pos:Pos}
end
section
variable{X:Cx}{pins:List (Addr×Obj)}{σ:St}{H:Hp}{s:Shared}{a:Addr}{y d:V}{u r:Value}{o:Option V}{A:Around}{E:Value->Shared->Prop}
end
section
variable{X:Cx}{o e f:Expr}{apos cpos:Pos}{td ty tx:TE}
end
section
variable{X:Cx}{pins:List (Addr×Obj)}{σ:St}{H:Hp}{s:Shared}{a:Addr}{kvs:List (Key×V)}{A:Around}{E:Value->Shared->Prop}
end
section
variable{X:Cx}{pins:List (Addr×Obj)}{σ:St}{H:Hp}{s:Shared}{a:Addr}{y:V}{u:Value}{A:Around}{E:Value->Shared->Prop}
end
end L2
namespace NF
open PySem PySem.W PySem.Calls PyProof.Rows
theorem jr{P:Params}{h:Heap}:∀ (ns:List Int) (vs:List Value),WellAll P h vs (ns.map WData.int)->IntsAre vs ns:=by
 intro ns
 induction ns with
 | nil=>
  intro vs w;rw[List.map_nil]at w;cases w;exact .nil
 | cons n ns ih=>
  intro vs w;rw[List.map_cons]at w;cases w with
  | cons a b=>
   cases a;exact .cons _ _ (ih _ b)
theorem tG{l:OpenLaw}{n:Nat}(hn:l.most=some n){P:Params}{h:Heap}{args:List WData}{vals:List Value}
  (hpre:l.row.toRowW.claim.pre args=true) (hwl:WellAll P h vals args) :
  ∃ a vs ns,vals=[Value.ref a]/\args=[WData.list (ns.map WData.int)]/\h.get? a=some { cls:=.type "list",data:=.seq vs.toArray }/\IntsAre vs ns/\ns.length<=n:=by
 have hsh:WShape.hasAll [] args [.list .int]=true:=(pre_splitW hpre).1;have hc:l.pre.holds [] { args:=args }=true:=(pre_splitW hpre).2;obtain⟨d,r,rfl,h1,h2⟩:=hasAllW_cons hsh;obtain rfl:=hasAllW_nil h2;obtain⟨xs,rfl,h3⟩:=hasW_list h1;obtain⟨ns,rfl⟩:=items_int h3
 have hlen:ns.length<=n:=by
  unfold OpenLaw.pre at hc
  have h4:(WTm.not (.lt (.lit (.int (n:Int))) (.len (.arg 0)))).holds [] { args:=[.list (ns.map .int)] }=true:=by
   have h4:=(holds_andW hc).1;rw[hn]at h4;exact h4
  have h5:=condW_of h4 (w_not (w_lt w_lit (w_len_list (w_arg rfl))));rw[List.length_map]at h5;refine Nat.le_of_not_lt fun q => ?_
  have q':(n:Int) < ((ns.length:Nat):Int):=by omega
  first
   | (rw[decide_eq_true q']at h5;exact absurd h5 (by decide))
   | (simp at h5;omega)
 cases hwl with
 | cons w1 w2=>
  cases w2;cases w1 with
  | list ho hall=>exact⟨_,_,ns,rfl,rfl,ho,jr ns _ hall,hlen⟩
theorem tH(l:OpenLaw)(args:List WData):l.row.toRowW.claim.post args (.bool true) args=true:=
 postW_of (r:=l.row.toRowW) (X:=(true == true))
  (show WShape.has [] (.bool true) .bool=true by first | rfl | decide | simp[WShape.has,WShape.arms,WShape.armsAll])
  (show(WTm.eq .res (.lit (.bool true))).value [] { args:=args,res:=some (.bool true),after:=args }=some (.bool (true == true)) from w_eq_bool (w_res rfl) w_lit) rfl
theorem og{l:OpenLaw}{n:Nat}{q:Program}{loose:List Str}{XP:(Str->Option Value)->Heap->Prop}{YP:World->Heap->Prop}{d:DefRec}
  (hn:l.most=some n) (hdf:d.params.defaults=[])
  (call:∀ (w:World) (s₀ s₁:Shared) (mg mb:Str->Option Value) (fa:Addr) (o:Obj) (pm cd doc:Value) (a:Addr) (vs:List Value) (ns:List Int),
   Ground q loose [] XP w s₀ mg mb s₁.heap->YP w s₁.heap ->
   s₁.heap.get? fa=some o->o.data=.func (docDef d.name d.params d.body d.scope pm cd doc)->s₁.heap.CodeRec cd d.name->mg d.name=some (.ref fa) ->
   s₁.heap.get? a=some { cls:=.type "list",data:=.seq vs.toArray }->IntsAre vs ns->ns.length<=n->s₁.gens = #[] ->
   codeAny (model l.prog w) callerA (.call (.ref fa) ⟨[.ref a],[]⟩) (fun r s'=>r=.ok (.ret (.bool true))/\OldK s₁.heap s'.heap/\s'.os=s₁.os/\AllBare s'.gens) s₁) :
  WalkO q loose XP YP l.row.toRowW d [] (fun f vs=>PySem.call f vs):=by
 intro w s₀ s₁ mg mb G Y fa o pm cd doc dV kV ho hd hcd hD hmg hg args vals as hpre hlay hrd hwl hlo;obtain rfl:dV=.none:=Dflts.none hD hdf;obtain rfl:kV=.none:=Dflts.noKw hD;obtain⟨a,vs,ns,rfl,rfl,hobj,hints,hlen⟩:=tG hn hpre hwl;refine enter_call (codeAny_mono (call w s₀ s₁ mg mb fa o pm cd doc a vs ns G Y ho (fd_plain hd) hcd hmg hobj hints hlen hg) fun r s' hq => ?_)
 obtain⟨rfl,h2,h3,h4⟩:=hq;exact⟨.inl ⟨.bool true,.bool true,[],rfl,fun _=>rfl,.bool true,tH l _,fun _=>⟨List.Pairwise.nil,fun _ hm=>(nomatch hm)⟩⟩,h2,h3,h4⟩
section
variable{prog:Program}{w:World}{A:Around}{E:Value->Shared->Prop}{s:Shared}{K:Frag}
end
end NF
namespace L2
open PySem PySem.Spec PyProof.Rows
theorem iT:∀ {vs:List Value} {ns:List Int},IntsAre vs ns->Vals (ns.map V.int) vs
 | _,_,.nil=>.nil
 | _,_,.cons n t h=>.cons ⟨t,rfl⟩ (iT h)
def Only(H:Hp):Prop:=∀ b,H b=none\/∃ o xs,H b=some (.jn o (.lst xs))
theorem u_{P:Program}{w:World}{K:PySem.W.Frag}{mg mb:Str->Option Value}{CX:ri}{k:Nat}{fa a:Addr}{fd:FuncData}{x:Str}{sp:Sp}{s₁:Shared}{vs:List Value}{ns:List Int}
  (KX:K.In s₁.heap) (hns:s₁.heap.Ns mainGlobals mg) (hb:s₁.heap.Ns builtinsNs mb) (hbb:∀ x:Str,x≠"__name__"->mb x=bootBuiltins x) (hlim:s₁.heap.NoLimit) (hg:s₁.gens = #[])
  (ha:s₁.heap.get? a=some { cls:=.type "list",data:=.seq vs.toArray }) (hi:IntsAre vs ns) (hl:ns.length<=sizeLine) (hr:bP k callerA)
  (F:∀ base:Heap,K.In base->base.Ns mainGlobals mg->bU P w K mg base CX k fa fd [x] sp) (hbind:∀ (s:Shared) (u:Value),BindsTo s fd ⟨[u],[]⟩ [(x,u)])
  (hsp:∀ H:Hp,Only H->i7 K H a (ns.map V.int)->sp [.ref a] H (fun v _=>v=.bl true) fun _ _ _=>False)
  (Kt:∀ H e s',CX [] H s₁ (fun _ _ _=>False) e s'->False) :
  codeAny (model P w) callerA (.call (.ref fa) ⟨[.ref a],[]⟩) (fun r s'=>r=.ok (.ret (.bool true))/\OldK s₁.heap s'.heap/\s'.os=s₁.os/\AllBare s'.gens) s₁:=by
 have rv:=iT hi;have lenV:=hi.length
 have core:∀ H:Hp,Only H->i7 K H a (ns.map V.int)->i6 P w H s₁.heap->(∀ b,H b≠none->b=a)->(H a≠none->K.lookup a=none) ->
   codeAny (model P w) callerA (.call (.ref fa) ⟨[.ref a],[]⟩) (fun r s'=>r=.ok (.ret (.bool true))/\OldK s₁.heap s'.heap/\s'.os=s₁.os/\AllBare s'.gens) s₁:=by
  intro H hO hS hok hA hK;have rD:∀ {b:Addr} {o:Obj},s₁.heap.get? b=some o->H b=none->(mw s₁.heap H).get? b=some o:=fun e n=>uH e n
  have ET:∀ {b:Addr} {o:Obj} {es:Array DictEntry} {ep:Nat},s₁.heap.get? b=some o->o.data=.dict es ep->H b=none:=fun {b o es ep} e d=>by
   cases q:H b with
   | none=>rfl
   | some u=>
    have e':b=a:=hA b (by rw[q];simp)
    subst e';rw[ha]at e;cases e
    have d':Data.seq vs.toArray _=Data.dict es ep:=d;cases d'
  have Ia:∀ {b:Addr} {m:Str->Option Value},s₁.heap.Ns b m->(mw s₁.heap H).Ns b m:=fun {b m} ⟨o,es,ep,e,d,r⟩=>⟨o,es,ep,rD e (ET e d),d,r⟩
  have NG:K.In (mw s₁.heap H):=fun b o e=>rD (KX b o e) (by
   cases q:H b with
   | none=>rfl
   | some u=>
    have e':b=a:=hA b (by rw[q];simp)
    subst e';rw[hK (by rw[q];simp)]at e;cases e)
  have hM:Mod K mg (mw s₁.heap H):=⟨NG,Ia hns,⟨mb,Ia hb,hbb⟩,let ⟨mc,h1,h2⟩:=hlim;⟨mc,Ia h1,h2⟩⟩
  have e0:n5 P w K mg (mw s₁.heap H) callerA [] s₁ H:=⟨rfl,hM,fun b o e=>ya e,Nat.le_of_eq (tf _ _),trivial,fun b hb=>absurd (show b∈([]:List Addr) from hb) (by simp),hok,.of_eq hg⟩
  refine codeAny_mono ((F _ NG (Ia hns)).run callerA [] s₁ H ⟨[.ref a],[]⟩ [.ref a] [.ref a] _ _ hr e0 (hbind s₁ (.ref a)) (.cons rfl .nil) (hsp H hO hS)) fun r s' h => ?_
  cases r with
  | error e=>exact(Kt H e s' h).elim
  | ok fl=>
   cases fl with
   | next=>exact False.elim h
   | brk=>exact False.elim h
   | cont=>exact False.elim h
   | ret u=>
    obtain⟨v,H',os,bare,un,hok',r',q⟩:=h;have q':v=.bl true:=q;subst q';obtain rfl:u=Value.bool true:=r';refine⟨rfl,OldK.of_keep fun b o e => ?_,os,bare⟩
    cases q:H b with
    | none=>exact un.keep b o e q (by intro z;exact absurd (show b∈([]:List Addr) from z) (by simp)) (by simp)
    | some u=>
     rcases hO b with z | ⟨ob,xs,z⟩
     ·rw[q]at z;cases z
     ·have z2:=un.g7 b ob _ z
      obtain⟨e1,_⟩:=hok b _ z;obtain⟨e2,_⟩:=hok' b _ z2;rw[e]at e1;cases e1
      exact e2
 cases hk:K.lookup a with
 | some o=>
  have e:=KX a o hk;rw[ha]at e;cases e;refine core (fun _=>none) (fun _=>.inl rfl) (.inr ⟨_,vs.toArray,_,hk,rfl,rfl,rfl,by rw[List.size_toArray,lenV];exact hl,by simpa using rv⟩) (fun b u z=>by have z':(none:Option HO)=some u:=z;cases z') (fun b z=>absurd rfl z) fun z=>absurd rfl z
 | none=>
  refine core (fun b=>if b=a then some (.jn { cls:=.type "list",data:=.seq vs.toArray } (.lst (ns.map V.int))) else none) (fun b => ?_) (.inl (.inr ⟨{ cls:=.type "list",data:=.seq vs.toArray },if_pos rfl⟩)) (fun b u z => ?_) (fun b z => ?_) fun _=>hk
  ·by_cases hb:b=a
   ·exact .inr ⟨_,_,if_pos hb⟩
   ·exact .inl (if_neg hb)
  ·by_cases hb:b=a
   ·have z':=(if_pos hb).symm.trans z
    cases z';subst hb;exact⟨ha,by rw[List.length_map];exact hl,vs,_,rv,ha⟩
   ·have z':=(if_neg hb).symm.trans z
    cases z'
  ·by_cases hb:b=a
   ·exact hb
   ·exact absurd (if_neg hb) z
theorem yz{l:PySem.W.OpenLaw}{n k:Nat}{q:Program}{loose:List Str}{XP:(Str->Option Value)->Heap->Prop}{YP:World->Heap->Prop}{d:DefRec}{K:Params->PySem.W.Frag}{CX:World->ri}{sp:World->Sp}{x:Str}
  (hn:l.most=some n) (hn2:n<=sizeLine) (hdf:d.params.defaults=[]) (hr:bP k callerA)
  (hY:∀ (w:World) (h:Heap),YP w h->(K w.params).In h)
  (F:∀ (w:World) (mg:Str->Option Value) (fa:Addr) (h:Heap),(K w.params).In h->h.Ns mainGlobals mg->mg d.name=some (.ref fa) ->
   ∃ fd:FuncData,(∀ (s:Shared) (u:Value),BindsTo s fd ⟨[u],[]⟩ [(x,u)]) /\
    ∀ base:Heap,(K w.params).In base->base.Ns mainGlobals mg->bU l.prog w (K w.params) mg base (CX w) k fa fd [x] (sp w))
  (hsp:∀ (w:World) (H:Hp) (a:Addr) (ns:List Int),ns.length<=n->Only H->i7 (K w.params) H a (ns.map V.int)->sp w [.ref a] H (fun v _=>v=.bl true) fun _ _ _=>False)
  (Kt:∀ (w:World) (H:Hp) (s:Shared) (e:Value) (s':Shared),CX w [] H s (fun _ _ _=>False) e s'->False) :
  PySem.W.WalkO q loose XP YP l.row.toRowW d [] (fun f vs=>PySem.call f vs):=by
 refine NF.og hn hdf fun w s₀ s₁ mg mb fa o pm cd doc a vs ns G Y ho hd hcd hmg hobj hints hlen hg => ?_
 have KX:=hY w _ Y;obtain⟨fd,hb,hF⟩:=F w mg fa _ KX G.T.g hmg;exact u_ KX G.T.g G.T.b G.T.builtins G.T.nolimit hg hobj hints (Nat.le_trans hlen hn2) hr hF hb (fun H hO hS=>hsp w H a ns hlen hO hS) fun H e s'=>Kt w H s₁ e s'
noncomputable def inClass(s:Stmt)(j:Nat):Stmt:=match s with
 | .ClassDef _ _ _ body _ _ _ _ _ _ _=>body.getD j (.Pass ⟨0,0,0,0⟩)
 | _=>.Pass ⟨0,0,0,0⟩
noncomputable def b8(s:Stmt):Arguments:=match s with
 | .FunctionDef _ a _ _ _ _ _ _ _ _=>a
 | _=>{ posonlyargs:=[],args:=[],vararg:=none,kwonlyargs:=[],kw_defaults:=[],kwarg:=none,defaults:=[] }
noncomputable def aS(s:Stmt):List Stmt:=match s with
 | .FunctionDef _ _ b _ _ _ _ _ _ _=>b
 | _=>[]
noncomputable def af(s:Stmt):Scope:=match s with
 | .FunctionDef _ _ _ _ _ _ sc _ _ _=>sc
 | _=>{ kind:=.function,names:=[],isGenerator:=false,isCoroutine:=false }
abbrev dR:ri:=fun _ _ _ _ _ _=>False
abbrev E0:XK:=fun _ _ _=>False
theorem rE{X:Cx}:Passes dR X E0:=fun _ _ _ _ _ _ _ h=>h.elim
structure tI(K:PySem.W.Frag)(x qual:Str)(st:Stmt)(f:Addr)(fd:FuncData):Prop where
 ex:∃ (oc:Value) (od:Option Addr) (kV doc pm:Value) (an:Option Addr) (cdv ct:Value) (osl:Array (Option Value)),
  fd=PySem.W.fnOf x qual (b8 st) (aS st) (af st) .none kV doc pm an cdv ct/\K.lookup f=some ⟨oc,od,.func fd,osl⟩/\PySem.W.codeIn K cdv qual=true
 kp:PySem.W.keepIn K (.ref f)=true
section
variable{P:Program}{w:World}{K:PySem.W.Frag}{mg:Str->Option Value}{base:Heap}
theorem tI.ok{x qual:Str}{st:Stmt}{f:Addr}{fd:FuncData}{N ps:List Str}{k:Nat}{sp:Sp}(F:tI K x qual st f fd)(S:fD N ps (af st))(len:∀ vs H Q E,sp vs H Q E->vs.length=ps.length)
  (hbody:∀ (cdv:Value) (A:Around) (outer:List Env) (s:Shared) (H:Hp) (vs:List V) (Q:VK) (E:XK),bP k (A.deeper (envOfC qual (af st) s.heap.objs.size f cdv))->sp vs H Q E ->
   ∃ t,ij (bZ dR P w K mg base N qual (af st) f cdv A outer s H E).i8 (aS st) t/\t { nx:=fun _ H'=>Q .non H',rt:=Q } (start N vs) H):bU P w K mg base dR (k + 1) f fd ps sp:=by
 obtain⟨oc,od,kV,doc,pm,an,cdv,ct,osl,rfl,lk,hcd⟩:=F.ex;refine u3 lk hcd S len fun A outer s H vs Q E hr hsp => ?_
 obtain⟨t,h,q⟩:=hbody cdv A outer s H vs Q E hr hsp;exact⟨t,h.i8,q⟩
theorem tI.binds{x qual:Str}{st:Stmt}{f:Addr}{fd:FuncData}{ps:List Str}(F:tI K x qual st f fd)
  (h:∀ (kV doc pm:Value) (an:Option Addr) (cdv ct:Value) (us:List Value),us.length=ps.length->bindArgs (PySem.W.fnOf x qual (b8 st) (aS st) (af st) .none kV doc pm an cdv ct) ⟨us,[]⟩=pure (ps.zip us)):Binds K fd ps []:=by
 obtain⟨oc,od,kV,doc,pm,an,cdv,ct,osl,rfl,lk,hcd⟩:=F.ex;exact .all (h kV doc pm an cdv ct)
theorem mJ{x qual:Str}{st:Stmt}{f:Addr}{oc:Value}{od an:Option Addr}{osl:Array (Option Value)}{kV doc pm cdv ct:Value}(l:K.lookup f=some ⟨oc,od,.func (PySem.W.fnOf x qual (b8 st) (aS st) (af st) .none kV doc pm an cdv ct),osl⟩)
  (c:PySem.W.codeIn K cdv qual=true) (k:PySem.W.keepIn K (.ref f)=true):tI K x qual st f (PySem.W.fnOf x qual (b8 st) (aS st) (af st) .none kV doc pm an cdv ct):=⟨⟨oc,od,kV,doc,pm,an,cdv,ct,osl,rfl,l,c⟩,k⟩
end
section
variable{X:Cx}
end
theorem oh{A B:Prop}(h:B):if false=true then A else B:=by
 rw[if_neg Bool.false_ne_true];exact h
theorem oi{A B:Prop}(h:A):if true=true then A else B:=by
 rw[if_pos rfl];exact h
def lq(H H':Hp):Prop:=∀ b o,H b=some o->H' b=some o
theorem lq.refl(H:Hp):lq H H:=fun _ _ h=>h
section
variable{κ:Type}[DecidableEq κ]
end
open PySem.W
def E8(X:Cx)(f:Addr)(vs:List V)(σ:St)(H:Hp)(Q:VK):Prop:=∀ (pins:List (Addr×Obj)) (s:Shared) (us:List Value),Inv X pins σ H s->Vals vs us->wpAny (model X.prog X.w) X.A (call (.ref f) us) (EP X pins σ Q) X.xe s
noncomputable def Cx.fz(X:Cx)(xs:List Str):Cx:={ X with fn:=fun y=>X.fn y && !(xs.contains y) }
section
variable{X:Cx}{pins:List (Addr×Obj)}{σ:St}{H:Hp}{s:Shared}
end
end L2
namespace L2
open PySem PySem.Spec PyProof.Rows
theorem KT.length{H:Hp}{l:List (List Key×V)}{m:List (List Key×Addr×Value)}(q:KT H l m):m.length=l.length:=by
 induction q with
 | nil=>rfl
 | cons _ _ ih=>rw[List.length_cons,List.length_cons,ih]
end L2
namespace HT
open PySem PyProof.Rows
section
variable{prog:Program}{w:World}{A:Around}{E:Value->Shared->Prop}{s:Shared}
theorem gR{t sl:Addr}{items:Array Value}{vl vu:Value}{lo hi:Option Int}{Q:Value->Shared->Prop}(ht:IsTup s.heap t items)(hs:s.heap.IsSliceOf sl vl vu .none)(pl:IsPart vl lo)(pu:IsPart vu hi)
  (h1:cj items.size 0 lo=0) (h2:cj items.size items.size hi=items.size) (h:Q (.ref t) s):wpAny (model prog w) A (getItem (.ref t) (.ref sl)) Q E s:=by
 obtain⟨os,hos,hcs,hds⟩:=id hs;have hTs:s.TypeIs (.ref sl) "slice":=⟨os,hos,hcs⟩;unfold getItem
 try with_reducible refine wpAny_holding ?_
 first | refine wpAny_bind (wpAny_pure ?_) | skip
 refine wpAny_bind (wpAny_sequenceKey ht.typeIs (by decide) ?_)
 refine wpAny_bind (wpAny_callSpecial?_slot (name:=Str.ofString "__getitem__") ht.typeIs PyProof.Rows.slot_tuple_getitem
  (wpAny_call_entry PyProof.Rows.slot_tuple_getitem ht.typeIs entry_tuple_getitem ?_ (args_tuple_getitem _ _)))
 show wpAny _ _ (Builtin.Tuple.tupleItemsOf (.ref t) >>= _) _ _ s
 refine wpAny_bind (tupleItemsOf_ ht ?_);refine wpAny_bind (wpAny_typeOf hTs ?_);rw[if_pos (by decide)]
 refine wpAny_bind (eZ hs pl pu ?_)
 have Ku:(((cj items.size 0 lo:Nat):Int) == 0 && (1:Int) == 1 && (cj items.size items.size hi - cj items.size 0 lo) == items.size)=true:=by
  rw[h1,h2];simp
 show wpAny _ _ (if (((cj items.size 0 lo:Nat):Int) == 0 && (1:Int) == 1 && (cj items.size items.size hi - cj items.size 0 lo) == items.size)=true then _ else _) _ _ s
 rw[if_pos Ku];unfold Builtin.Tuple.tupleIsExact;refine wpAny_bind (wpAny_bind (wpAny_typeOf ht.typeIs (wpAny_pure ?_)));rw[if_pos (by decide)]
 exact wpAny_bind (wpAny_rule (wpAny_pure ⟨_,rfl,wpAny_pure h⟩))
theorem va{t b:Addr}{ws:List Value}{Q:Value->Shared->Prop}(ht:IsTup s.heap t #[])(hb:IsTup s.heap b ws.toArray)(h:Q (.ref b) s):wpAny (model prog w) A (binaryOp .Add (.ref t) (.ref b)) Q E s:=by
 obtain⟨⟨cls,dd,data,sl⟩,ho,hc,n,hd⟩:=id ht;obtain⟨⟨cls2,dd2,data2,sl2⟩,ho2,hc2,n2,hd2⟩:=id hb;simp only at hc hd hc2 hd2;subst hc hd hc2 hd2
 exact concat_meets ⟨_,ho,rfl⟩ ⟨_,ho2,rfl⟩ noFill_tuple_add seq_tuple_add PySem.F.slot_tuple_add PySem.F.entry_tuple_add (PySem.F.args_tuple_add_2 _ _)
   (tuple_addW0 t b #[] ws.toArray n n2 dd dd2 sl sl2 rfl) ⟨ho,ho2,h⟩
end
end HT
namespace L2
open PySem PySem.Spec PyProof.Rows
section
variable{X:Cx}
def E9(K:PySem.W.Frag):V->Option Int->Option Int->Hp->VK->Prop:=fun x lo hi H Q=>∃ a xs,x=.ref a/\fS K H a xs/\HT.cj xs.length 0 lo=0/\HT.cj xs.length xs.length hi=xs.length/\Q (.ref a) H
theorem iv:yv X (E9 X.K):=by
 intro pins s σ H x v vl vu lo hi sl Q I rx hs pl pu h;obtain⟨a,xs,rfl,hx,h1,h2,q⟩:=h;cases rx;obtain⟨its,r,ht,hz⟩:=I.tuple hx;have hlen:its.toArray.size=xs.length:=by rw[List.size_toArray];exact r.length.symm
 refine⟨"tuple",_,PyProof.Rows.slot_tuple_getitem.lookup,ht.typeIs,?_⟩;exact HT.gR ht hs pl pu (by rw[hlen];exact h1) (by rw[hlen];exact h2) ⟨.ref a,H,I,rfl,q⟩
noncomputable def AX(K:PySem.W.Frag):R2:=fun x y H Q=>∃ a b ys,x=.ref a/\y=.ref b/\fS K H a []/\fS K H b ys/\Q (.ref b) H
theorem yA:fT X (binaryOp .Add) (AX X.K):=by
 intro pins s σ H x y v u Q I rx ry h;obtain⟨a,b,ys,rfl,rfl,ha,hb,q⟩:=h;cases rx;cases ry;obtain⟨its,r1,p1,_⟩:=I.tuple ha;obtain⟨its2,r2,p2,_⟩:=I.tuple hb;cases r1;exact HT.va p1 p2 ⟨.ref b,H,I,rfl,q⟩
end
open PySem.W
section
variable{P:Program}{w:World}{K:PySem.W.Frag}{mg:Str->Option Value}{base:Heap}
theorem tI.Pp{x qual:Str}{st:Stmt}{f:Addr}{fd:FuncData}{N ps:List Str}{k:Nat}{sp:Sp}{c:Addr}(F:tI K x qual st f fd)(hcv:fd.code=.ref c)(S:fD N ps (af st))(len:∀ vs H Q E,sp vs H Q E->vs.length=ps.length)
  (hbody:∀ (A:Around) (outer:List Env) (s s1:Shared) (H:Hp) (vs:List V) (Q:VK) (E:XK),bP k (A.deeper (envOfC qual (af st) s.heap.objs.size f (.ref c)))->sp vs H Q E ->
   Inv (bZ dR P w K mg base N qual (af st) f (.ref c) A outer s H E).i8 [] (start N vs) H s1 ->
   wpAny (model P w) (A.deeper (envOfC qual (af st) s.heap.objs.size f (.ref c))) (execs (aS st) (envOfC qual (af st) s.heap.objs.size f (.ref c)))
    (fun fl s'=>∃ xs v u σ' H',(fl=.ret u\/fl=.next/\u=Value.none)/\Inv ((bZ dR P w K mg base N qual (af st) f (.ref c) A outer s H E).i8.fz xs) [] σ' H' s'/\RelV v u/\Q v H') (fun _ _=>False) s1) :
  bU P w K mg base dR (k + 1) f fd ps sp:=by
 obtain⟨oc,od,kV,doc,pm,an,cdv,ct,osl,rfl,lk,hcd⟩:=F.ex;obtain rfl:cdv=.ref c:=hcv;refine⟨len,fun A outer s H args us vs Q E hr e0 hb r hsp => ?_⟩
 have hl:=len _ _ _ _ hsp;have KX:K.In s.heap:=e0.mod.D4.keeps fun b o e=>(e0.bs b o e).1
 have lim:s.heap.NoLimit:=e0.mod.nolimit.keeps fun b o e=>(e0.bs b o e).1
 have hkind:∀ y∈ps.zip us,(af st).names.lookup y.1=some .local\/((af st).names.lookup y.1=some .cell/\((cellsFrom (s.heap.objs.size + 1) (af st).names []).lookup y.1).isSome=true):=fun ⟨n,v⟩ hy=>by
  rcases S.par n (List.of_mem_zip hy).1 with q | q
  ·exact .inl q
  ·exact .inr ⟨q,PySem.W.cellsFrom_some _ _ _ (.inl q)⟩
 refine codeAny_call_function hr.depth (KX _ _ lk) rfl S.co S.gen rfl (PySem.W.codeRec_of KX hcd) (hb _ _ _ _ ?_);refine wpAny_newFunctionEnv_cells S.kind hkind fun env he s1 x => ?_
 subst he;refine⟨lim.keeps x.toInCall.keep,codeAny_func ?_⟩;have I:Inv (bZ dR P w K mg base N qual (af st) f (.ref c) A outer s H E) [] (start N vs) H s1:=iS S hr.hd e0 hl r x;refine wpAny_mono (hbody A outer s s1 H vs Q E (hr.deeper _) hsp (I.wish _)) (fun fl s' hs => ?_) fun e s' hs=>hs.elim
 obtain⟨xs,v,u,σ',H',hfl,J,rv,q⟩:=hs;have fin:CE outer P w H s Q u s':=⟨v,H',J.os,J.bare,J.base,J.hok,rv,q⟩;rcases hfl with rfl | ⟨rfl,rfl⟩
 ·exact fin
 ·exact fin
end
end L2
namespace L2
open PySem PySem.Spec PyProof.Rows
section
variable{prog:Program}{w:World}{A:Around}{R:Result->Shared->Prop}{h:Heap}{g:Array GenState}{d:Drawn}{t:Nat}{os:OsState}
variable{nm q:Str}{C N f:Addr}{bs bm bmB:List Value}{hdct:Bool}{sn:List Str}{sub:List Value}{ab:Bool}{col:Option Bool}{dd:Option Addr}{k0 k1 k2 k3 k5:Option Value}{B newId initId:String}
abbrev dE(h:Heap)(C:Addr)(rest:List Value):Heap:=(h.push { cls:=.type "tuple",data:=.seq rest.toArray }).push { cls:=.ref C,data:=.fields #[.ref h.objs.size,.none,.none,.none,.bool false,.none] }
theorem lr(F:ExcBaseFacts B newId initId bmB)(T:OwnTail h bmB bm){mN:Str->Option Value}{rest:List Value}
  (hC:h.get? C=some (excClassObj nm q C N bs bm hdct sn sub ab col dd k0 k1 k2 k3 k5 newId)) (hn:h.Ns N mN) (hni:mN "__init__"=some (.ref f))
  (hb:∀ self,PySem.W.Looks (model prog w) h (bindSpecial (.ref f) self) (.ref f,[self])) (hrest:rest.length<=sizeLine)
  {Q:Fin->Shared->Prop} {E:Value->Shared->Prop}
  (hq:codeAny (model prog w) A (.call (.ref f) ⟨.ref (h.objs.size + 1)::rest,[]⟩) (fun r s'=>match r with | .ok (.ret v)=>v=.none/\Q (.done (.ret (.ref (h.objs.size + 1)))) s' | .ok _=>False | .error e=>E e s') ⟨dE h C rest,g,d,t,os⟩) :
  wpAny (model prog w) A (Builtin.«type.__call__» ⟨.ref C::rest,[]⟩) Q E ⟨h,g,d,t,os⟩:=by
 repeat (first | with_reducible refine wpAny_loadPart_at hC ?_ | with_reducible refine wpAny_madeBy_exc hC ?_ | wp_step)
 refine codeAny_call_builtin_code (Code.quiet_builtin _ F.quiet) (wpAny_check_new_subT F T hC ?_);refine codeAny_exc_new_subT F T hC ?_ hrest
 show wpAny _ _ _ _ _ _
 have k:∀ b o,h.get? b=some o->(dE h C rest).get? b=some o:=fun b o e=>Heap.get?_push_of_some _ (Heap.get?_push_of_some _ e)
 have hC₁:=k _ _ hC;have hn₁:(dE h C rest).Ns N mN:=let ⟨o,es,ep,e,r⟩:=hn;⟨o,es,ep,k _ _ e,r⟩
 have hget:(dE h C rest).get? (h.objs.size + 1)=some { cls:=.ref C,data:=.fields #[.ref h.objs.size,.none,.none,.none,.bool false,.none] }:=by heap_get
 have hcC:(Value.ref C::bm).contains (.ref C)=true:=by simp
 have T₁:=T.keeps k;have b1:=(hb (.ref (h.objs.size + 1))).keeps k;unfold isInstance
 repeat (first | with_reducible refine wpAny_loadPart_at hget ?_ | (with_reducible refine wpAny_isSubtype_exc hC₁ ?_;rw[hcC]) | wp_step)
 show wpAny _ _ (typeLookup (.ref C) _) _ _ _
 refine wpAny_typeLookup_tail hC₁ hn₁ T₁ F.mroIs F.init.lookup ?_;rw[hni];refine wpAny_holding (wpAny_bind (b1.at ?_));refine wpAny_bind (wpAny_call (codeAny_mono hq fun r s' z => ?_))
 rcases r with e | (v | _ | _ | _)<;>first | exact z | exact z.elim | skip
 obtain⟨rfl,z⟩:=z;exact wpAny_pure (wpAny_pure z)
theorem vb(F:ExcBaseFacts B newId initId bmB)(T:OwnTail h bmB bm){mN:Str->Option Value}{rest:List Value}
  (hC:h.get? C=some (excClassObj nm q C N bs bm hdct sn sub ab col dd k0 k1 k2 k3 k5 newId)) (hn:h.Ns N mN) (hni:mN "__init__"=some (.ref f))
  (hb:∀ self,PySem.W.Looks (model prog w) h (bindSpecial (.ref f) self) (.ref f,[self])) (hrest:rest.length<=sizeLine)
  (hq:codeAny (model prog w) (A.under (.builtin "type.__call__" ⟨.ref C::rest,[]⟩)) (.call (.ref f) ⟨.ref (h.objs.size + 1)::rest,[]⟩) (PySem.W.InitBack (h.objs.size + 1) R) ⟨dE h C rest,g,d,t,os⟩) :
  codeAny (model prog w) A (.call (.ref C) ⟨rest,[]⟩) R ⟨h,g,d,t,os⟩:=by
 have f1:=tc_lookup;have f2:=tc_bind (.ref C);have hT:(⟨h,g,d,t,os⟩:Shared).TypeIs (.ref C) "type":=⟨_,hC,rfl⟩;refine codeAny_of_tree ?_
 show wpAny _ _ (callAny (.ref C) _) _ _ _
 repeat (any_goals (first | assumption | with_reducible refine wpAny_loadPart_at hC ?_ | wp_step))
 refine⟨rfl,?_⟩;refine codeAny_call_builtin_at (Code.quiet_builtin _ (by decide +kernel)) entry_typeCall (wpAny_check_type_call_sub hC (lr F T hC hn hni hb hrest ?_))
 exact hq
end
end L2
namespace L2
open PySem PySem.Spec PyProof.Rows
open PySem.W (clsIn findIn takerIn InstAt)
open PySem.Builtin PySem.Builtin.ObjectAttr PySem.Builtin.Getset_descriptor
section
variable{K:PySem.W.Frag}{prog:Program}{w:World}{A:Around}{E:Value->Shared->Prop}{s:Shared}{x C:Addr}{name:Str}{v:Value}{R:Result->Shared->Prop}
abbrev hV:List Value:=[.type "ValueError",.type "Exception",.type "BaseException",.type "object"]
noncomputable def eU:List Value->Bool
 | .ref _::r=>eU r
 | l=>l == hV
theorem lO(self:Value):∀ {l:List Value},eU l=true->refuseLoop self "__setattr__" l=pure ()
 | [],e=>by simp[eU]at e
 | a::r,e=>by
  cases a with
  | ref c=>rw[refuseLoop_ref];exact lO self e
  | _=>rw[eq_of_beq (show(_ == hV)=true from e)];exact PySem.F.store_ValueError.passes self
theorem vc:∀ {l:List Value},eU l=true->l.contains (.type "object")=true
 | [],e=>by simp[eU]at e
 | a::r,e=>by
  cases a with
  | ref c=>rw[List.contains_cons,vc (l:=r) e,Bool.or_true]
  | _=>rw[eq_of_beq (show(_ == hV)=true from e)];decide
theorem yB{ox:Obj}{od:Option Obj}{tk:Tok}{cd:ClassData}(X:K.In s.heap)(I:InstAt s.heap x ox C od)(hc:clsIn K C=some cd)(ho:eU cd.mro=true)(ht:takerIn K C name=some none)
  (h:∀ b,wpAny (model prog w) A.in1 (storeInOwnDict (.ref x) (.ref C) (.str name tk) name v b) (fun fin s'=>match fin with | .done f=>R (.ok f) s' | .again c'=>c'.quiet=true/\codeAny (model prog w) A c' R s') (fun e s'=>R (.error e) s') s) :
  codeAny (model prog w) A (.call (.builtin "object.__setattr__") ⟨[.ref x,.str name tk,v],[]⟩) R s:=by
 have SF:=PySem.F.store_object
 have ne:cd.mro.isEmpty=false:=by cases q:cd.mro with
  | nil=>rw[q]at ho;simp[eU]at ho
  | cons _ _=>rfl
 have sub:PySem.W.Looks (model prog w) s.heap (isInstance (.ref x) (.type "object")) true:=I.type.andThen (PySem.W.looks_mroIn X (by unfold PySem.W.mroIn;rw[hc,Option.bind_some,if_neg (by rw[ne];decide),vc ho]))
 refine codeAny_call_builtin SF.slot.plain SF.entry (@PySem.W.check_slot (model prog w) _ _ s _ _ _ (.ref x) [.str name tk,v] [] _ SF.kind SF.split sub (SF.args _ _ _) ?_);obtain⟨attr,ha,hr⟩:=Option.bind_eq_some_iff.mp ht;have hm:PySem.W.Looks (model prog w) s.heap (mroOf (.ref C)) cd.mro:=(PySem.W.looks_clsIn X hc).andThen .now
 have L3:PySem.W.Looks (model prog w) s.heap (storeTaker? attr) none:=by
  cases attr with
  | none=>exact .now
  | some a=>
   obtain⟨b,hb,e⟩:=Option.map_eq_some_iff.mp hr;refine(PySem.W.looks_takesIn X hb).andThen ?_;cases b with
   | true=>cases e
   | false=>exact .now
 rw[PySem.W.osa_eq,refuse_eq];refine wpAny_bind (wpAny_bind (I.type.here (wpAny_bind (hm.here ?_))));rw[lO _ ho];refine wpAny_pure (wpAny_bind (I.type.here (wpAny_bind ((PySem.W.looks_findIn X ha).here (wpAny_bind (L3.here ?_))))));exact h _
theorem yC{vs:Array Value}{sl:Array (Option Value)}{cd:ClassData}{Q:Unit->Shared->Prop}(X:K.In s.heap)(hx:s.heap.get? x=some ⟨.ref C,none,.fields vs,sl⟩)(hc:clsIn K C=some cd)(ho:eU cd.mro=true)(hd:cd.hasDict=true)
  (hs:findIn K (.ref C) "__setattr__"=some (some (.builtin "object.__setattr__"))) (ht:takerIn K C name=some none)
  (h:∀ h' t',h'.get? x=some ⟨.ref C,some s.heap.objs.size,.fields vs,sl⟩->h'.Ns1 s.heap.objs.size (fun y=>if y=name then some v else none)->(∀ b o,b≠x->s.heap.get? b=some o->h'.get? b=some o)->Q () { s with heap:=h',toks:=t' }) :
  wpAny (model prog w) A (setAttr (.ref x) name v) Q E s:=by
 have I:InstAt s.heap x ⟨.ref C,none,.fields vs,sl⟩ C none:=⟨hx,rfl,rfl,trivial⟩;refine PySem.W.set_plain X I hs (yB (s:={ s with toks:=s.toks + 1 }) X I hc ho ht fun b => ?_)
 have hx₁:(s.heap.push { cls:=.type "dict",data:=.dict #[] }).get? x=some ⟨.ref C,none,.fields vs,sl⟩:=Heap.get?_push_of_some _ hx;have hxs:x≠s.heap.objs.size:=Nat.ne_of_lt (Heap.lt_size hx);refine wpAny_bind (wpAny_pure (wpAny_bind (wpAny_bind (wpAny_loadPart hx (wpAny_bind (PySem.W.Looks.here (s:={ s with toks:=s.toks + 1 }) (PySem.W.looks_clsIn X hc) ?_))))));rw[hd];refine wpAny_bind (wpAny_alloc' (wpAny_bind (wpAny_update' hx₁ (wpAny_pure ?_))))
 have hgd:((s.heap.push { cls:=.type "dict",data:=.dict #[] }).update x fun o=>{ o with dict:=some s.heap.objs.size }).get? s.heap.objs.size=some { cls:=.type "dict",data:=.dict #[] }:=
  (Heap.get?_update_ne _ _ _ _ hxs.symm).trans (Heap.get?_push_at rfl rfl)
 have hnd:((s.heap.push { cls:=.type "dict",data:=.dict #[] }).update x fun o=>{ o with dict:=some s.heap.objs.size }).Ns s.heap.objs.size (fun _=>none):=
  ⟨_,#[],_,hgd,rfl,fun e he=>absurd he (by simp),fun _=>rfl⟩
 have hxd:((s.heap.push { cls:=.type "dict",data:=.dict #[] }).update x fun o=>{ o with dict:=some s.heap.objs.size }).get? x=some ⟨.ref C,some s.heap.objs.size,.fields vs,sl⟩:=Heap.get?_update_self _ hx₁ rfl
 have hkp:∀ b o,b≠x->s.heap.get? b=some o->((s.heap.push { cls:=.type "dict",data:=.dict #[] }).update x fun o=>{ o with dict:=some s.heap.objs.size }).get? b=some o:=fun b o hb e=>
  (Heap.get?_update_ne _ _ _ _ hb).trans (Heap.get?_push_of_some _ e)
 show wpAny _ _ (storeInDict s.heap.objs.size (.str name s.toks) name v) _ _ _
 unfold storeInDict newKeyGuard;refine wpAny_bind (wpAny_pure (wpAny_bind (wpAny_nsSet1 (Heap.Ns1.of_empty hnd) fun h' hn' hsb => ?_)))
 obtain⟨oD,esD,epD,hoD,hdD,hcD⟩:=hn'.count (Within.cons name v Within.nil);refine wpAny_bind (wpAny_lookBehind hoD (by rw[hdD];exact pastItsLine_dict (Nat.le_trans hcD (by rw[List.length_cons,List.length_nil,sizeLine_eq];omega))) ?_)
 refine wpAny_pure (h h' _ ((hsb.2 x hxs).trans hxd) hn' fun b o hb e=>(hsb.2 b (Nat.ne_of_lt (Heap.lt_size e))).trans (hkp b o hb e))
end
end L2
namespace L2
open PySem PySem.Spec PyProof.Rows
section
variable{prog:Program}{w:World}{A:Around}{R:Result->Shared->Prop}{h:Heap}{g:Array GenState}{d:Drawn}{t:Nat}{os:OsState}
variable{nm q:Str}{C N e:Addr}{bs bm bmB:List Value}{hdct:Bool}{sn:List Str}{sub:List Value}{ab:Bool}{col:Option Bool}{dd od:Option Addr}{k0 k1 k2 k3 k5:Option Value}{B newId initId:String}{a0:Addr}{sl:Array (Option Value)}
theorem lu(F:ExcBaseFacts B newId initId bmB)(T:OwnTail h bmB bm){rest:List Value}
  (hC:h.get? C=some (excClassObj nm q C N bs bm hdct sn sub ab col dd k0 k1 k2 k3 k5 newId)) (he:h.get? e=some ⟨.ref C,od,.fields #[.ref a0,.none,.none,.none,.bool false,.none],sl⟩) (hrest:rest.length<=sizeLine)
  (hq:∀ h',h'.get? e=some ⟨.ref C,od,.fields #[.ref h.objs.size,.none,.none,.none,.bool false,.none],sl⟩->h'.get? h.objs.size=some { cls:=.type "tuple",data:=.seq rest.toArray }->(∀ b o,b≠e->h.get? b=some o->h'.get? b=some o)->R (.ok (.ret .none)) ⟨h',g,d,t,os⟩) :
  codeAny (model prog w) A (.call (.builtin initId) ⟨.ref e::rest,[]⟩) R ⟨h,g,d,t,os⟩:=by
 refine codeAny_call_builtin F.init.plain F.initEntry (wpAny_check_init_subT F T hC he rfl ?_);have Pq:=Heap.get?_push_of_some (h:=h) { cls:=.type "tuple",data:=.seq rest.toArray } he;have hne:h.objs.size≠e:=Nat.ne_of_gt (Heap.lt_size he)
 wp_walk
 refine hq _ ?_ ?_ fun b o hb e1 => ?_
 ·exact Heap.get?_update_self _ Pq rfl
 ·rw[Heap.get?_update_other _ _ (Ne.symm hne)]
  exact Heap.get?_push_at rfl rfl
 ·rw[Heap.get?_update_other _ _ (Ne.symm hb)]
  exact Heap.get?_push_of_some _ e1
end
end L2
namespace L2
open PySem PySem.Spec PyProof.Rows
open PySem.W (clsIn findIn takerIn InstAt Looks mroIn)
structure vd(K:PySem.W.Frag)(C:Addr):Prop where
 ga:findIn K (.ref C) "__getattribute__"=some (some (.builtin "BaseException.__getattribute__"))
 gn:findIn K (.ref C) "__getattr__"=some none
 be:mroIn K C (.type "BaseException")=some true
section
variable{prog:Program}{w:World}{A:Around}{E:Value->Shared->Prop}{h:Heap}{g:Array GenState}{d:Drawn}{t:Nat}{os:OsState}{K:PySem.W.Frag}{x C:Addr}{ox:Obj}{od:Option Obj}{Ec:Value}
theorem vf{Q:Unit->Shared->Prop}(X:K.In h)(I:InstAt h x ox C od)(G:vd K C)(hq:Q () ⟨h,g,d,t,os⟩):wpAny (model prog w) A (checkBuiltinCall "BaseException.__getattribute__" ⟨[.ref x,Ec],[]⟩) Q E ⟨h,g,d,t,os⟩:=by
 have hk:builtinKind "BaseException.__getattribute__"=some .slot:=by decide +kernel
 have hsplit:splitId "BaseException.__getattribute__"=some ("BaseException","__getattribute__"):=by decide +kernel
 have ha:=F.args_bexc_ga (.ref x) Ec;have L:Looks (model prog w) h (isInstance (.ref x) (.type "BaseException")) true:=(I.type).andThen (PySem.W.looks_mroIn X G.be);simp only[checkBuiltinCall,hk,hsplit];refine wpAny_bind (L.at ?_)
 repeat (any_goals (first | assumption | wp_step))
theorem yD{v:Value}{t':Nat}{R:Result->Shared->Prop}(X:K.In h)(I:InstAt h x ox C od)(G:vd K C)(hf:∀ (Q:Fin->Shared->Prop) (E:Value->Shared->Prop),Q (.done (.ret v)) ⟨h,g,d,t',os⟩->wpAny (model prog w) A.in1 (Builtin.«object.__getattribute__» ⟨[.ref x,Ec],[]⟩) Q E ⟨h,g,d,t,os⟩)
  (hq:R (.ok (.ret v)) ⟨h,g,d,t',os⟩):codeAny (model prog w) A (.call (.builtin "BaseException.__getattribute__") ⟨[.ref x,Ec],[]⟩) R ⟨h,g,d,t,os⟩:=
 codeAny_call_builtin F.attr_ValueError.ga.plain F.entry_bexc_ga (vf X I G (hf _ _ hq))
theorem E_{v:Value}{t':Nat}{fill expr:Bool}{Q:Value->Shared->Prop}(X:K.In h)(I:InstAt h x ox C od)(G:vd K C)(hf:∀ (A:Around) (Q:Fin->Shared->Prop) (E:Value->Shared->Prop),Q (.done (.ret v)) ⟨h,g,d,t',os⟩->wpAny (model prog w) A (Builtin.«object.__getattribute__» ⟨[.ref x,Ec],[]⟩) Q E ⟨h,g,d,t,os⟩)
  (hh:handedOut v=pure v) (hq:Q v ⟨h,g,d,t',os⟩):wpAny (model prog w) A (getAttrBy (.ref x) Ec fill expr) Q E ⟨h,g,d,t,os⟩:=by
 have L0:=I.type (M:=model prog w);have L1:=PySem.W.looks_findIn (M:=model prog w) X G.ga;have L2:=PySem.W.looks_findIn (M:=model prog w) X G.gn;have f3:=F.attr_ValueError.ga.bind (.ref x);have hx0:(expr && onTheHeap (Value.builtin "BaseException.__getattribute__"))=false:=by cases expr<;>rfl
 have hx2:(Value.builtin "BaseException.__getattribute__" == Value.builtin "object.__getattribute__")=false:=by decide +kernel
 unfold getAttrBy;refine wpAny_holding (wpAny_bind (L0.at (wpAny_bind (L1.at ?_))))
 show wpAny _ _ (if (onTheHeap (.ref C) && Value.builtin "BaseException.__getattribute__" == Value.builtin "object.__getattribute__")=true then _ else _) _ _ _
 rw[if_neg (by rw[hx2];simp)]
 unfold getAttrByItsOwn hookBefore;rw[if_pos (by rfl)]
 refine wpAny_bind (L2.at ?_)
 repeat (any_goals (first | assumption | wp_step))
 refine yD X I G (hf _) ?_
 show wpAny _ _ (handedOut v) _ _ _
 rw[hh];exact wpAny_pure hq
theorem yE{v:Value}{name:Str}{expr:Bool}{Q:Value->Shared->Prop}(X:K.In h)(I:InstAt h x ox C od)(G:vd K C)(hf:PySem.W.findObj K C od name=some (.value v))(hh:PySem.W.handedIn v=true)(hq:Q v ⟨h,g,d,t + 1,os⟩) :
  wpAny (model prog w) A (getAttr (.ref x) name expr) Q E ⟨h,g,d,t,os⟩:=by
 unfold getAttr;refine wpAny_bind (wpAny_mkText (E_ X I G (fun A' Q' E' q => ?_) (PySem.W.handedOut_of hh) hq))
 have L0:=I.type (M:=model prog w);have L1:=PySem.W.looks_find (M:=model prog w) X I hf;unfold Builtin.«object.__getattribute__»;refine wpAny_bind (wpAny_pure (wpAny_bind (wpAny_pure (wpAny_bind (L0.at (wpAny_bind (L1.at ?_)))))));exact wpAny_pure q
end
end L2
namespace L2
open PySem PySem.Spec PyProof.Rows
open PySem.W (clsIn findIn takerIn InstAt)
structure mK(K:PySem.W.Frag)(C N fI:Addr):Prop where
 ex:∃ (nm q:Str) (bs bm:List Value) (sn:List Str) (sub:List Value) (ab:Bool) (col:Option Bool) (dd:Option Addr) (k0 k1 k2 k3 k5:Option Value),
  K.lookup C=some (excClassObj nm q C N bs bm true sn sub ab col dd k0 k1 k2 k3 k5 "ValueError.__new__")/\(∀ h:Heap,K.In h->OwnTail h hV bm)
 cd:∃ cd,clsIn K C=some cd/\eU cd.mro=true/\cd.hasDict=true
 sa:findIn K (.ref C) "__setattr__"=some (some (.builtin "object.__setattr__"))
 xg:vd K C
 hd:PySem.W.hasDictIn K C=true
 ns:∀ h:Heap,K.In h->∃ mN,h.Ns N mN/\mN "__init__"=some (.ref fI)
 kp:PySem.W.keepIn K (.ref C)=true
 fn:PySem.W.typeIn K (.ref fI)=some (.type "function")
noncomputable def b9(C:Addr)(od:Option Addr)(t:Addr):Obj:=⟨.ref C,od,.fields #[.ref t,.none,.none,.none,.bool false,.none],#[]⟩
section
variable{X:Cx}{pins:List (Addr×Obj)}{σ:St}{H:Hp}{s:Shared}{e C N fI t:Addr}{fld:Str}
theorem Inv.vg(I:Inv X [] σ H s){o:Obj}(h:s.heap.get? e=some o)(hn:H e=none)(hl:e≠X.env.locals)(hf:e∉X.fs)(hd:∀ v,o.data≠.cell v):Inv X [(e,o)] σ H s:=
 ⟨I.ok,I.os,I.bare,I.base,I.loc,I.cell,I.free,I.cU,fun p hp=>by
  rcases List.mem_append.mp hp with q | q
  ·exact I.pin p (by simp[q])
  ·rw[List.mem_singleton.mp q];exact⟨h,hn,hl,hf,hd⟩,I.hok,I.len⟩
theorem Inv.vh(I:Inv X pins σ H s):Inv X [] σ H s:=
 ⟨I.ok,I.os,I.bare,I.base,I.loc,I.cell,I.free,I.cU,fun p hp=>I.pin p (by rw[List.append_nil]at hp;simp[hp]),I.hok,I.len⟩
theorem yF{Q:Unit->Shared->Prop}{E:Value->Shared->Prop}{A:Around}{v:V}{u:Value}(I:Inv X [(e,b9 C none t)] σ H s)(T:mK X.K C N fI)(na:fB X.K C fld)(he:e∈X.ex\/X.s₀.heap.objs.size<=e)(hcl:∀ x c,X.env.cells.lookup x=some c->c≠e)(hpn:∀ p∈X.pn,p.1≠e)(r:RelV v u)
  (h:∀ dd s',H dd=none->dd≠e->Inv X [(e,b9 C (some dd) t)] σ (upd H dd (.xd [(fld,v)])) s'->Q () s'):wpAny (model X.prog X.w) A (setAttr (.ref e) fld u) Q E s:=by
 obtain⟨cd,c1,c2,c3⟩:=T.cd;obtain⟨p1,p2,p3,p4,p5⟩:=I.pin (e,b9 C none t) (by simp)
 dsimp only at p1 p2 p3 p4 p5;have hfr:H s.heap.objs.size=none:=I.hok.fresh (Nat.le_refl _);have hlt:=Heap.lt_size p1;have hne:s.heap.objs.size≠e:=Nat.ne_of_gt hlt;refine yC I.fX p1 c1 c2 c3 T.sa na.taker fun h' t' g1 g2 g3=>h s.heap.objs.size _ hfr hne ?_
 have I0:=I.vh;have keep:∀ b o,b∉[e]->s.heap.get? b=some o->h'.get? b=some o:=fun b o hb q=>g3 b o (by simpa using hb) q
 have J:Inv X [] σ (upd H s.heap.objs.size (.xd [(fld,v)])) { s with heap:=h',toks:=t' }:=by
  refine I0.step (ch:=[e]) (fun b hb => ?_) (fun b o _ _ hb q _=>keep b o hb q) (fun b o _ _ hb q _=>⟨o.slots,keep b o hb q⟩) (fun b o hb q hn => ?_) (fun b o hb q=>⟨o,keep b o hb q⟩) (fun b xs q => ?_) (fun b o u' q => ?_) (fun b ps q => ?_) (fun m hn => ?_) ?_ I.bare
  ·rw[List.mem_singleton.mp hb]
   exact⟨he,p3,hcl,fun p hp=>hpn p (by simpa using hp)⟩
  ·rw[aG (Nat.ne_of_lt (Heap.lt_size q))];exact hn
  ·rw[aG (fun z=>by rw[z,hfr]at q;cases q)];exact q
  ·rw[aG (fun z=>by rw[z,hfr]at q;cases q)];exact q
  ·exact⟨#[],by rw[aG (fun z=>by rw[z,hfr]at q;cases q),q];simp⟩
  ·obtain⟨o,es,ep,e1,e2⟩:=hn
   exact⟨o,es,ep,keep _ o (by simp[Ne.symm p3]) e1,e2⟩
  ·intro a o q
   by_cases ha:a=s.heap.objs.size
   ·subst ha
    rw[bo]at q;cases q;refine⟨_,g2,fun f => ?_⟩
    show mr ([(fld,v)].lookup f) (if f=fld then some u else none)
    by_cases hf:f=fld
    ·rw[hf,if_pos rfl];simp[List.lookup];exact r
    ·rw[if_neg hf]
     have:(f == fld)=false:=by simpa using hf
     simp[List.lookup,this];exact trivial
   ·rw[aG ha]at q
    refine(I.hok a o q).stay (fun b u' hb q'=>keep b u' (fun z => ?_) q') (fun b q' => ?_) fun b xs q' => ?_
    ·rw[List.mem_singleton.mp z]at hb
     rcases hb with hb | hb
     ·rw[← hb,p2]at q;cases q
     ·rw[p2]at hb;cases hb
    ·rw[aG (fun z=>by rw[z,hfr]at q';cases q')];exact q'
    ·rw[aG (fun z=>by rw[z,hfr]at q';cases q')];exact q'
 exact J.vg g1 (by rw[aG (Ne.symm hne)];exact p2) p3 p4 (fun v=>by simp[b9])
theorem rF{Q:Value->Shared->Prop}{E:Value->Shared->Prop}{A:Around}{v:V}{b:Bool}{dd:Addr}{o:Obj}{fs:List (Str×V)}(I:Inv X pins σ H s)(T:mK X.K C N fI)(na:fB X.K C fld)(he:s.heap.get? e=some o)(ho:o.cls=.ref C)(hod:o.dict=some dd)(hoc:PySem.W.notCls o=true)
  (hd:H dd=some (.xd fs)) (hl:fs.lookup fld=some v) (h:∀ u,RelV v u->Inv X pins σ H { s with toks:=s.toks + 1 }->Q u { s with toks:=s.toks + 1 }):wpAny (model X.prog X.w) A (getAttr (.ref e) fld b) Q E s:=by
 obtain⟨mA,n,r⟩:=I.hok dd _ hd;obtain⟨u,hu,ru⟩:=mr.some_of (v:=v) (o:=mA fld) (by rw[← hl];exact r fld)
 obtain⟨od,g,l⟩:=iQ n;have J:InstAt s.heap e o C (some od):=⟨he,ho,hoc,by rw[hod];exact g⟩
 have J2:=h u ru (I.tok _);have K2:=I.fX;obtain⟨hh,gg,dr,tk,os⟩:=s;exact yE K2 J T.xg (PySem.W.findObj_own T.hd na (by rfl) (by rw[l,hu])) (tE ru) J2
end
end L2
namespace L2
open PySem PySem.Spec PyProof.Rows
open PySem.W (clsIn findIn takerIn InstAt)
section
variable{X:Cx}{pins:List (Addr×Obj)}{σ:St}{H:Hp}{s:Shared}{e C N fI t dd:Addr}{fld:Str}{o o':Obj}{h':Heap}
structure vi(X:Cx)(e:Addr):Prop where
 new:e∈X.ex\/X.s₀.heap.objs.size<=e
 cell:∀ x c,X.env.cells.lookup x=some c->c≠e
 pn:∀ p∈X.pn,p.1≠e
theorem Inv.Pr{t':Nat}(I:Inv X [(e,o)] σ H s)(F:vi X e)(h1:h'.get? e=some o')(hk:∀ b ob,b≠e->s.heap.get? b=some ob->h'.get? b=some ob)(hd:∀ v,o'.data≠.cell v):Inv X [(e,o')] σ H { s with heap:=h',toks:=t' }:=by
 obtain⟨p1,p2,p3,p4,p5⟩:=I.pin (e,o) (by simp)
 dsimp only at p1 p2 p3 p4 p5;have I0:=I.vh;have keep:∀ b o,b∉[e]->s.heap.get? b=some o->h'.get? b=some o:=fun b o hb q=>hk b o (by simpa using hb) q
 have J:Inv X [] σ H { s with heap:=h',toks:=t' }:=by
  refine I0.step (ch:=[e]) (fun b hb => ?_) (fun b o _ _ hb q _=>keep b o hb q) (fun b o _ _ hb q _=>⟨o.slots,keep b o hb q⟩) (fun b o hb q hn=>hn) (fun b o hb q=>⟨o,keep b o hb q⟩) (fun b xs q=>q) (fun b o u' q=>q) (fun b ps q=>⟨#[],by rw[q];simp⟩) (fun m hn => ?_) ?_ I.bare
  ·rw[List.mem_singleton.mp hb]
   exact⟨F.new,p3,F.cell,fun p hp=>F.pn p (by simpa using hp)⟩
  ·obtain⟨o,es,ep,e1,e2⟩:=hn
   exact⟨o,es,ep,keep _ o (by simp[Ne.symm p3]) e1,e2⟩
  ·intro a u q
   refine(I.hok a u q).stay (fun b u' hb q'=>keep b u' (fun z => ?_) q') (fun b q'=>q') fun b xs q'=>q'
   rw[List.mem_singleton.mp z]at hb;rcases hb with hb | hb
   ·rw[← hb,p2]at q;cases q
   ·rw[p2]at hb;cases hb
 exact J.vg h1 p2 p3 p4 hd
structure XBase(K:PySem.W.Frag)(mg:Str->Option Value)(bn:Str)(B0:Addr):Prop where
 mg:mg bn=some (.ref B0)
 ga:PySem.W.specialIn K (.ref B0) "__getattribute__"=some (some (.builtin "type.__getattribute__"))
 rd:PySem.W.readsIn K B0 (.type "type")=true
 ini:PySem.W.findCls K (.ref B0) (.type "type") "__init__"=some (.val (.builtin "ValueError.__init__"))
theorem vj{bn:Str}{B0:Addr}{v:V}{fs:List (Str×V)}{i:Nat}{sf:Str}{p1 p2 p3 p4 apos pos:Pos}{pl:Sem Bool}{Q:Value->Shared->Prop}(I:Inv X [(e,b9 C (some dd) t)] σ H s)(F:vi X e)(T:mK X.K C N fI)(B:XBase X.K X.mg bn B0)(na:fB X.K C fld)
  (hd:H dd=some (.xd fs)) (hl:fs.lookup fld=some v) (hN:X.N[i]?=some sf) (hv:xV X.env.scope sf) (hσ:σ[i]?=some (some (.ref e))) (hg:Gl X bn)
  (ht:eval (.Call (.Attribute (.Name bn p1) "__init__" apos) [.Name sf p2,.Attribute (.Name sf p3) fld p4] [] pos) X.env=(do
   let ov ← eval (.Name bn p1) X.env
   standAt apos.atName
   let (f,first) ← holding [ov] (getMethod ov "__init__" pl)
   callWith pos f first (backTo pos (starEach [.Name sf p2,.Attribute (.Name sf p3) fld p4] X.env)) (backToKw pos (keywordEach [] X.env))))
  (h:∀ t' s',Inv X [(e,b9 C (some dd) t')] σ H s'->Q .none s') (hdb:(bn == ("__debug__":Str))=false:=by decide) (hd1:(sf == ("__debug__":Str))=false:=by decide) (hd2:(sf == ("__classdict__":Str))=false:=by decide) :
  wpAny (model X.prog X.w) X.A (eval (.Call (.Attribute (.Name bn p1) "__init__" apos) [.Name sf p2,.Attribute (.Name sf p3) fld p4] [] pos) X.env) Q X.xe s:=by
 refine PySem.W.methodCall_KW (pl:=pl) (gK I hg B.mg ?_ hdb) ht;refine PySem.W.method_cls I.fX B.ga (PySem.W.cls_value I.fX B.rd B.ini (by decide +kernel) ?_)
 have I1:=I.tok (s.toks + 1);refine PyProof.Rows.callWith_builtin1 ?_ rfl rfl;refine Calls.spliced_cons (b7 (jW (pos:=p2) hN hv hd1 hd2 _ _ σ H (fun w H'=>w=.ref e/\H'=H) I1 ⟨.ref e,hσ,rfl,rfl⟩) fun u s1 ⟨w,H1,J1,r1,hw,hH⟩ => ?_)
 subst hw hH;cases (show u=Value.ref e from r1)
 refine Calls.spliced_cons (rh rfl (b7 (jW (pos:=p3) hN hv hd1 hd2 _ _ σ H1 (fun w H'=>w=.ref e/\H'=H1) J1 ⟨.ref e,hσ,rfl,rfl⟩) fun u s2 ⟨w,H2,J2,r2,hw,hH⟩ => ?_))
 subst hw hH;cases (show u=Value.ref e from r2)
 obtain⟨q1,_,_,_,_⟩:=J2.pin (e,b9 C (some dd) t) (by simp)
 refine rF J2 T na q1 rfl rfl rfl hd hl fun u ru J3 => ?_
 refine Calls.spliced_nil ?_;obtain⟨nm,q,bs,bm,sn,sub,ab,col,Kv,k0,k1,k2,k3,k5,hC,ot⟩:=T.ex;obtain⟨z1,_,_,_,_⟩:=J3.pin (e,b9 C (some dd) t) (by simp)
 refine wpAny_call (lu PySem.F.excBase_ValueError (ot _ J3.fX) (J3.fX _ _ hC) z1 (by show 1<=sizeLine;decide) fun h' g1 g2 g3 => ?_)
 exact h _ _ (J3.Pr F g1 g3 (fun v=>by simp[b9]))
end
end L2
namespace L2
open PySem PySem.Spec PyProof.Rows
section
variable{X:Cx}{pins:List (Addr×Obj)}{σ:St}{H:Hp}{s:Shared}{e:Addr}
noncomputable def Cx.mk1(X:Cx)(e:Addr):Cx:={ X with ex:=[e] }
theorem Inv.mk1(I:Inv X pins σ H s)(hx:X.ex=[])(h1:e≠X.env.locals)(h2:∀ x c,X.env.cells.lookup x=some c->c≠e)(h3:∀ o,X.base.get? e≠some o)(h4:e∉X.fs):Inv (X.mk1 e) pins σ H s:=
 ⟨⟨I.ok.mod,I.ok.kind,I.ok.glob,I.ok.blt,I.ok.above,I.ok.inj,I.ok.has,I.ok.cab,I.ok.hd,I.ok.frames,I.ok.AO,fun b hb=>by rw[List.mem_singleton.mp hb];exact⟨h1,h2⟩,I.ok.bs,I.ok.ti,fun b o q hb=>by rw[List.mem_singleton.mp hb]at q;exact h3 o q,fun b hb=>by rw[List.mem_singleton.mp hb];exact h4,I.ok.fW,I.ok.uI⟩,
  I.os,I.bare,I.base.mono (fun _ h=>h) (by rw[hx];simp),I.loc,I.cell,I.free,I.cU,I.pin,I.hok,I.len⟩
end
section
variable{P:Program}{w:World}{K:PySem.W.Frag}{mg:Str->Option Value}{base:Heap}
theorem yG{x qual sf pn bn fld:Str}{st:Stmt}{f c C N0 B0:Addr}{fd:FuncData}{k:Nat}{ve:Expr}{a1 a2 p1 p2 p3 p4 apos pos a3 p5:Pos}{pl:Env->Sem Bool}{fZ:VK}
  (F:tI K x qual st f fd) (hcv:fd.code=.ref c) (S:fD [sf,pn] [sf,pn] (af st)) (T:mK K C N0 f) (B:XBase K mg bn B0) (na:fB K C fld)
  (hbd:aS st=[.Assign [.Attribute (.Name sf a1) fld a2] ve a3,.Expr (.Call (.Attribute (.Name bn p1) "__init__" apos) [.Name sf p2,.Attribute (.Name sf p3) fld p4] [] pos) p5])
  (hg:(af st).names.lookup bn=some .globalImplicit) (Pt:(af st).names.lookup sf=some .local)
  (hsw:∀ env,swapsWith ve (some (.Attribute (.Name sf a1) fld a2)) a3.line env=pure false) (hl:(apos.endLine == pos.line)=true)
  (ht:∀ env:Env,eval (.Call (.Attribute (.Name bn p1) "__init__" apos) [.Name sf p2,.Attribute (.Name sf p3) fld p4] [] pos) env=(do
   let ov ← eval (.Name bn p1) env
   standAt apos.atName
   let (f,first) ← holding [ov] (getMethod ov "__init__" (pl env))
   callWith pos f first (backTo pos (starEach [.Name sf p2,.Attribute (.Name sf p3) fld p4] env)) (backToKw pos (keywordEach [] env))))
  {A:Around} {outer:List Env} {s:Shared} {H:Hp} {u:Value} {v0:V} {e t0:Addr} {R:Result->Shared->Prop}
  (yH:∀ E,∃ tv,PE ((bZ dR P w K mg base [sf,pn] qual (af st) f (.ref c) A outer s H E).i8.mk1 e) ve tv/\tv (start [sf,pn] [.ref e,v0]) H fZ)
  (hr:bP (k + 1) A) (e0:n5 P w K mg base A outer s H) (hb:BindsTo s fd ⟨[.ref e,u],[]⟩ [(sf,.ref e),(pn,u)]) (rv:RelV v0 u)
  (he:s.heap.get? e=some (b9 C none t0)) (Pu:base.objs.size<=e) (Pw:H e=none) (hef:e∉frs outer)
  (h:∀ v H2 dd t' s',fZ v H2->s'.os=s.os->AllBare s'.gens->Un (frs outer) [e] H (upd H2 dd (.xd [(fld,v)])) s.heap s'.heap->i6 P w (upd H2 dd (.xd [(fld,v)])) s'.heap->H2 dd=none->dd≠e ->
   s'.heap.get? e=some (b9 C (some dd) t')->upd H2 dd (.xd [(fld,v)]) e=none->R (.ok (.ret (.ref e))) s')
  (hd0:(bn == ("__debug__":Str))=false:=by decide) (hd1:(sf == ("__debug__":Str))=false:=by decide) (hd2:(sf == ("__classdict__":Str))=false:=by decide) :
  codeAny (model P w) A (.call (.ref f) ⟨[.ref e,u],[]⟩) (PySem.W.InitBack e R) s:=by
 obtain⟨oc,od,kV,doc,pm,an,cdv,ct,osl,rfl,lk,hcd⟩:=F.ex;obtain rfl:cdv=.ref c:=hcv;have KX:K.In s.heap:=e0.mod.D4.keeps fun b o e=>(e0.bs b o e).1
 have lim:s.heap.NoLimit:=e0.mod.nolimit.keeps fun b o e=>(e0.bs b o e).1
 have hkind:∀ y∈[sf,pn].zip [.ref e,u],(af st).names.lookup y.1=some .local\/((af st).names.lookup y.1=some .cell/\((cellsFrom (s.heap.objs.size + 1) (af st).names []).lookup y.1).isSome=true):=fun ⟨n,v⟩ hy=>by
  rcases S.par n (List.of_mem_zip hy).1 with q | q
  ·exact .inl q
  ·exact .inr ⟨q,PySem.W.cellsFrom_some _ _ _ (.inl q)⟩
 refine codeAny_call_function hr.depth (KX _ _ lk) rfl S.co S.gen rfl (PySem.W.codeRec_of KX hcd) (hb _ _ _ _ ?_);refine wpAny_newFunctionEnv_cells S.kind hkind fun env hen s1 x => ?_
 subst hen;refine⟨lim.keeps x.toInCall.keep,codeAny_func ?_⟩;have E:XK:=fun _ _ _=>False
 have I:Inv (bZ dR P w K mg base [sf,pn] qual (af st) f (.ref c) A outer s H E) [] (start [sf,pn] [.ref e,v0]) H s1:=iS (us:=[.ref e,u]) S hr.hd e0 rfl (.cons rfl (.cons rv .nil)) x;have hlt:=Heap.lt_size he;have hloc:e≠s.heap.objs.size:=Nat.ne_of_lt hlt
 have hcl:∀ (y:Str) (cc:Addr),(envOfC qual (af st) s.heap.objs.size f (.ref c)).cells.lookup y=some cc->cc≠e:=fun y cc hy z=>by
  have:=I.ok.cab y cc rfl hy;rw[z]at this;exact absurd (Nat.lt_of_lt_of_le hlt this) (Nat.lt_irrefl _)
 have I1:=(I.wish (fun _ _=>False)).mk1 (e:=e) rfl hloc hcl (fun o q=>absurd (Nat.lt_of_lt_of_le (Heap.lt_size q) Pu) (Nat.lt_irrefl _)) hef
 have I2:=I1.vg (x.toInCall.keep _ _ he) Pw hloc hef (fun v=>by simp[b9])
 obtain⟨tv,hpe,htv⟩:=yH E
 have run:wpAny (model P w) (A.deeper (envOfC qual (af st) s.heap.objs.size f (.ref c))) (execs (aS st) (envOfC qual (af st) s.heap.objs.size f (.ref c)))
   (fun fl s'=>fl=.next/\∃ v H2 dd t',fZ v H2/\H2 dd=none/\dd≠e/\Inv ((bZ dR P w K mg base [sf,pn] qual (af st) f (.ref c) A outer s H E).i8.mk1 e) [(e,b9 C (some dd) t')] (start [sf,pn] [.ref e,v0]) (upd H2 dd (.xd [(fld,v)])) s') (fun _ _=>False) s1:=by
  generalize hX:(bZ dR P w K mg base [sf,pn] qual (af st) f (.ref c) A outer s H E).i8.mk1 e=X at *;have xe:X.env=envOfC qual (af st) s.heap.objs.size f (.ref c):=by rw[← hX];rfl
  have xN:X.N=[sf,pn]:=by rw[← hX];rfl
  have xA:X.A=A.deeper (envOfC qual (af st) s.heap.objs.size f (.ref c)):=by rw[← hX];rfl
  have xK:X.K=K:=by rw[← hX];rfl
  have xm:X.mg=mg:=by rw[← hX];rfl
  have xp:X.prog=P:=by rw[← hX];rfl
  have xw:X.w=w:=by rw[← hX];rfl
  have xx:X.xe=fun _ _=>False:=by rw[← hX];rfl
  have fr:vi X e:=⟨.inl (by rw[← hX];simp[Cx.mk1]),by rw[xe];exact hcl,by rw[← hX];intro p hp;cases hp⟩
  rw[← xA,← xe,← xp,← xw,← xx,hbd];rw[← xK]at T B na;rw[← xm]at B;have hN:X.N[0]?=some sf:=by rw[xN];rfl
  have hv:xV X.env.scope sf:=.inl (by rw[xe];exact Pt)
  have Px:Gl X bn:=by show X.env.scope.names.lookup bn=_;rw[xe];exact hg
  refine wpAny_execs_cons (plainObj_wpAny_Assign_Attribute (b7 (hpe _ s1 _ H fZ I2 htv) fun u1 s2 ⟨v,H2,J2,r2,q2⟩ => ?_) (hsw _))
  refine b7 (jW (pos:=a1) hN hv hd1 hd2 _ _ _ H2 (fun z H'=>z=.ref e/\H'=H2) J2 ⟨.ref e,rfl,rfl,rfl⟩) fun u2 s3 ⟨z,H3,J3,r3,hz,hH⟩ => ?_
  subst hz hH;cases (show u2=Value.ref e from r3)
  refine yF J3 T na fr.new fr.cell fr.pn r2 fun dd s4 hdd hne J4 => ?_
  refine wpAny_execs_cons (wpAny_Expr_any (vj (v:=v) (fs:=[(fld,v)]) J4 fr T B na bo (by simp[List.lookup]) hN hv rfl Px (ht X.env) (fun t' s5 J5 => ?_) hd0 hd1 hd2) J4.quiet (by rfl))
  exact wpAny_execs_nil ⟨rfl,v,_,dd,t',q2,hdd,hne,J5⟩
 refine wpAny_mono run (fun fl s' hs => ?_) fun _ _ z=>z.elim
 obtain⟨rfl,v,H2,dd,t',q2,hdd,hne,J⟩:=hs;obtain⟨g1,g2,_,_,_⟩:=J.pin (e,b9 C (some dd) t') (by simp)
 exact⟨rfl,h v H2 dd t' s' q2 J.os J.bare J.base J.hok hdd hne g1 g2⟩
end
section
variable{M:Model}{A:Around}{E:Value->Shared->Prop}{s:Shared}
structure rG(l:List Env)(e:Addr)(oe:Obj)(T:Addr)(h h':Heap):Prop where
 keep:∀ b o,b≠e->b∉frs l->h.get? b=some o->h'.get? b=some o
 slot:∀ b o,b≠e->h.get? b=some o->∃ sl,h'.get? b=some { o with slots:=sl }
 at_:h'.get? e=some (oe.mapFields (·.setIfInBounds 1 (.ref T)))
 tb:∃ oT ts,h'.get? T=some oT/\oT.data=.fields ts/\ts[3]?=some .none
 new:h.objs.size<=T
def p6(h:Heap)(vs:Array Value):Prop:=vs[1]?=some .none\/∃ T0 Ib ts0,vs[1]?=some (.ref T0)/\h.get? T0=some Ib/\Ib.data=.fields ts0/\ts0[3]?=some .none
theorem rH{base:Heap}{env:Env}{outer:List Env}{L e:Addr}{oe:Obj}{vs:Array Value}{head:Value}{hadNext:Bool}{Q:Unit->Shared->Prop}
  (hfr:A.frames=some (env::outer)) (hl:s.heap.FunFrames base (env::outer)) (hf:env.frame=some L) (he:s.heap.get? e=some oe) (hd:oe.data=.fields vs) (hsz:1 < vs.size)
  (h:∀ h' T,rG (env::outer) e oe T s.heap h'->Q () { s with heap:=h' }) :
  wpAny M A (do let a ← frameOf env;let pl ← entryPlaceOf L hadNext;let b ← EntryCells.newEntry head a .none (rawInt L) .none pl;setField (.ref e) 1 b) (fun _ s'=>wpAny M A (setFlight (.ref e) none) Q E s') E s:=by
 have hene:e∉frs (env::outer):=fun hm=>by
  obtain⟨_,o,ho,hnf⟩:=hl.mem hm;rw[he]at ho;injection ho with ho;subst ho;exact hnf vs hd
 refine wpAny_bind (wpAny_frameOf_fun hfr hl hf fun h₁ hs₁ => ?_)
 refine wpAny_bind (wpAny_entryPlaceOf fun pl hpl => ?_)
 unfold EntryCells.newEntry newFields;refine wpAny_bind (wpAny_newObj_type ?_ (hpl.sizeOk5 _ _ _ _ _));have he₁:h₁.get? e=some oe:=(hs₁.2.1 e hene).trans he;generalize hob:({ cls:=.type "traceback",dict:=none,data:=.fields ([head,.ref L,.none,rawInt L,.none]++(if pl.isEmpty then List.replicate 6 Value.none else pl)).toArray }:Obj)=ob at *
 have B1:ob.data=.fields ([head,.ref L,.none,rawInt L,.none]++(if pl.isEmpty then List.replicate 6 Value.none else pl)).toArray:=by rw[← hob]
 have Kw:ob.isFreed=false:=by rw[← hob];rfl
 have he₂:=Heap.get?_push_of_some (h:=h₁) ob he₁;have hTe:h₁.objs.size≠e:=Nat.ne_of_gt (Heap.lt_size he₁);refine wpAny_setField he₂ hd hsz ?_;have hd₃:=Obj.data_mapFields hd (·.setIfInBounds 1 (Value.ref h₁.objs.size));have he₃:=Heap.get?_update_self (Obj.mapFields (·.setIfInBounds 1 (Value.ref h₁.objs.size))) he₂ (Obj.isFreed_of_fields hd₃);have hT₃:((h₁.push ob).update e (Obj.mapFields (·.setIfInBounds 1 (Value.ref h₁.objs.size)))).get? h₁.objs.size=some ob:=(Heap.get?_update_other _ _ (Ne.symm hTe)).trans (Heap.get?_push_size h₁ Kw);unfold setFlight;refine wpAny_bind (wpAny_field he₃ hd₃ (x:=.ref h₁.objs.size) (by simp[hsz]) ?_)
 rw[if_pos (show(Value.ref h₁.objs.size != Value.none)=true from by simp)]
 refine wpAny_setField hT₃ B1 (by simp) (h _ h₁.objs.size ?_)
 have keep:∀ b o,b≠e->h₁.get? b=some o->(((h₁.push ob).update e (Obj.mapFields (·.setIfInBounds 1 (Value.ref h₁.objs.size)))).update h₁.objs.size (Obj.mapFields (·.setIfInBounds 3 ((none:Option Addr).elim Value.none fun f=>rawInt f)))).get? b=some o:=fun b o hbe hb=>by
  have hbT:h₁.objs.size≠b:=Nat.ne_of_gt (Heap.lt_size hb);rw[Heap.get?_update_other _ _ hbT,Heap.get?_update_other _ _ (Ne.symm hbe)];exact Heap.get?_push_of_some _ hb
 refine⟨fun b o hb hn q=>keep b o hb ((hs₁.2.1 b hn).trans q),fun b o hb q => ?_,?_,?_,by rw[hs₁.1];exact Nat.le_refl _⟩
 ·obtain⟨sl,q1⟩:=hs₁.2.2 b o q
  exact⟨sl,keep b _ hb q1⟩
 ·rw[Heap.get?_update_other _ _ hTe];exact he₃
 ·exact⟨_,_,Heap.get?_update_self _ hT₃ (Obj.isFreed_of_fields (Obj.data_mapFields B1 _)),Obj.data_mapFields B1 _,by simp⟩
theorem vk{base:Heap}{env:Env}{outer:List Env}{L e:Addr}{oe:Obj}{vs:Array Value}{Q:Unit->Shared->Prop}
  (hfr:A.frames=some (env::outer)) (hl:s.heap.FunFrames base (env::outer)) (hf:env.frame=some L) (he:s.heap.get? e=some oe) (hd:oe.data=.fields vs) (h1:p6 s.heap vs)
  (h:∀ h' T,rG (env::outer) e oe T s.heap h'->Q () { s with heap:=h' }) :
  wpAny M A (noteFrame (.ref e) env) (fun _ s'=>wpAny M A (setFlight (.ref e) none) Q E s') E s:=by
 unfold noteFrame;simp only[hf];rcases h1 with h1 | ⟨T0,Ib,ts0,h1,g1,g2,g3⟩
 ·refine wpAny_bind (wpAny_field he hd h1 ?_)
  rw[if_neg (by decide)]
  exact rH hfr hl hf he hd (Array.getElem?_eq_some_iff.mp h1).1 h
 ·refine wpAny_bind (wpAny_field he hd h1 ?_)
  rw[if_pos (show(Value.ref T0 != Value.none)=true from by simp)]
  refine wpAny_bind (wpAny_field g1 g2 g3 ?_);rw[if_neg (show ¬ ((Value.none == rawInt L)=true) from by simp[rawInt])]
  refine wpAny_bind (wpAny_setField g1 g2 (Array.getElem?_eq_some_iff.mp g3).1 ?_);rw[Heap.update_setField_same s.heap T0 Ib ts0 3 .none g1 g2 g3];exact rH hfr hl hf he hd (Array.getElem?_eq_some_iff.mp h1).1 h
theorem tJ{base:Heap}{env:Env}{outer:List Env}{L e:Addr}{oe:Obj}{vs:Array Value}{Q:Unit->Shared->Prop}
  (hfr:A.frames=some (env::outer)) (hl:s.heap.FunFrames base (env::outer)) (hf:env.frame=some L) (he:s.heap.get? e=some oe) (hd:oe.data=.fields vs) (h1:p6 s.heap vs)
  (h:∀ h' T,rG (env::outer) e oe T s.heap h'->Q () { s with heap:=h' }):wpAny M A (leaving env (.ref e)) Q E s:=by
 unfold leaving;exact wpAny_bind (vk hfr hl hf he hd h1 h)
end
structure vm(K:PySem.W.Frag)(mg:Str->Option Value)(C N0 f c:Addr)(fd:FuncData)(st:Stmt)(qual fld sf pn:Str)(ve:Expr):Prop where
 fn:∃ x,tI K x qual st f fd
 cv:fd.code=.ref c
 sc:fD [sf,pn] [sf,pn] (af st)
 cls:mK K C N0 f
 bs:Binds K fd [sf,pn] []
 na:fB K C fld
 sl:(af st).names.lookup sf=some .local
 d1:(sf == ("__debug__":Str))=false
 d2:(sf == ("__classdict__":Str))=false
 body:∃ (bn:Str) (B0:Addr) (a1 a2 a3 p1 p2 p3 p4 p5 apos pos:Pos) (pl:Env->Sem Bool),XBase K mg bn B0/\(bn == ("__debug__":Str))=false/\(af st).names.lookup bn=some .globalImplicit /\
  aS st=[.Assign [.Attribute (.Name sf a1) fld a2] ve a3,.Expr (.Call (.Attribute (.Name bn p1) "__init__" apos) [.Name sf p2,.Attribute (.Name sf p3) fld p4] [] pos) p5] /\
  (∀ env,swapsWith ve (some (.Attribute (.Name sf a1) fld a2)) a3.line env=pure false)/\(apos.endLine == pos.line)=true /\
  (∀ env:Env,eval (.Call (.Attribute (.Name bn p1) "__init__" apos) [.Name sf p2,.Attribute (.Name sf p3) fld p4] [] pos) env=(do
   let ov ← eval (.Name bn p1) env
   standAt apos.atName
   let (f,first) ← holding [ov] (getMethod ov "__init__" (pl env))
   callWith pos f first (backTo pos (starEach [.Name sf p2,.Attribute (.Name sf p3) fld p4] env)) (backToKw pos (keywordEach [] env))))
section
variable{X:Cx}{pins:List (Addr×Obj)}{σ:St}{H:Hp}{s:Shared}{C N0 f c:Addr}{fd:FuncData}{st:Stmt}{qual fld sf pn:Str}{ve:Expr}{k:Nat}{v0:V}{u:Value}{fZ:VK}
theorem B2(D:vm X.K X.mg C N0 f c fd st qual fld sf pn ve)(I:Inv X pins σ H s)(hr:bP (k + 2) X.A)(rv:RelV v0 u)
  (yH:∀ (A:Around) (s':Shared) (e:Addr) (E:XK),bP k (A.deeper (envOfC qual (af st) s'.heap.objs.size f (.ref c)))->∃ tv,PE ((bZ dR X.prog X.w X.K X.mg X.base [sf,pn] qual (af st) f (.ref c) A X.stack s' H E).i8.mk1 e) ve tv/\tv (start [sf,pn] [.ref e,v0]) H fZ)
  {Q:Value->Shared->Prop} (h:∀ e dd t v H2 s',fZ v H2->Inv X pins σ (upd H2 dd (.xd [(fld,v)])) s'->s'.heap.get? e=some (b9 C (some dd) t)->s.heap.objs.size<=e->upd H2 dd (.xd [(fld,v)]) e=none->H2 dd=none->Q (.ref e) s') :
  wpAny (model X.prog X.w) X.A (call (.ref C) [u]) Q X.xe s:=by
 obtain⟨nm,q,bs,bm,sn,sub,ab,col,Kv,k0,k1,k2,k3,k5,hC,ot⟩:=D.cls.ex;obtain⟨mN,hn,hni⟩:=D.cls.ns _ I.fX;obtain⟨x,F⟩:=D.fn;obtain⟨bn,B0,a1,a2,a3,p1,p2,p3,p4,p5,apos,pos,pl,B,hd0,hg,hbd,hsw,hl,ht⟩:=D.body;have kx:∀ b o,s.heap.get? b=some o->(dE s.heap C [u]).get? b=some o:=fun b o e=>Heap.get?_push_of_some _ (Heap.get?_push_of_some _ e)
 have I2:Inv X pins σ H { s with heap:=dE s.heap C [u] }:=I.kept (t':=s.toks) kx
 have hget:(dE s.heap C [u]).get? (s.heap.objs.size + 1)=some (b9 C none s.heap.objs.size):=by
  show(dE s.heap C [u]).get? (s.heap.objs.size + 1)=some ({ cls:=.ref C,data:=.fields #[.ref s.heap.objs.size,.none,.none,.none,.bool false,.none] }:Obj)
  heap_get
 have hfe:H (s.heap.objs.size + 1)=none:=I.hok.fresh (Nat.le_succ _);have hne:∀ b o,s.heap.get? b=some o->b≠s.heap.objs.size + 1:=fun b o q=>Nat.ne_of_lt (Nat.lt_succ_of_lt (Heap.lt_size q))
 have hef:s.heap.objs.size + 1∉frs X.stack:=fun z=>by
  obtain⟨_,o,ho,_⟩:=I.stack.mem z;exact hne _ _ ho rfl
 refine wpAny_call ?_;have hz:[u].length<=sizeLine:=by show 1<=sizeLine;decide
 refine vb PySem.F.excBase_ValueError (ot _ I.fX) (I.fX _ _ hC) hn hni (fun self=>PySem.W.bind_fn I.fX self D.cls.fn) hz ?_
 refine yG (k:=k) (fZ:=fZ) (v0:=v0) F D.cv D.sc D.cls B D.na hbd hg D.sl hsw hl ht (fun E=>yH _ _ _ E ?_) (hr.make C [u] []) (I2.env0.make C [u] []) (D.bs _ [.ref (s.heap.objs.size + 1),u] I2.fX rfl) rv hget ?_ hfe hef (fun v H2 dd t' s' q2 ho hbr un hok hdd Py g1 g2 => ?_) hd0 D.d1 D.d2
 ·exact(hr.make C [u] []).deeper _
 ·exact Nat.le_trans (Nat.le_trans I.ok.ti I.sz) (Nat.le_succ _)
 ·refine h (s.heap.objs.size + 1) dd t' v H2 s' q2 (I.call' (ch:=[]) ho ⟨fun b o e n hb _=>un.keep b o (kx b o e) n hb (by simpa using hne b o e),fun b o e n hb _=>un.slot b o (kx b o e) n hb (by simpa using hne b o e),fun b o e n _=>un.free b o (kx b o e) n (by simpa using hne b o e),fun b o e _=>un.there b o (kx b o e) (by simpa using hne b o e),un.tups,un.g7,un.jo⟩ hok hbr (by simp)) g1 (Nat.le_succ _) g2 hdd
end
section
variable{M:Model}{A:Around}{E:Value->Shared->Prop}{s:Shared}{env:Env}
variable{nm q:Str}{C N:Addr}{bs bm:List Value}{hdct:Bool}{sn:List Str}{sub:List Value}{ab:Bool}{col:Option Bool}{dd:Option Addr}{k0 k1 k2 k3 k5:Option Value}{newId:String}
theorem j4{x:Sem Value}{Q:Flow->Shared->Prop}(hbase:bm.contains (.type "BaseException")=true)(hh:A.handled=none)
  (h:wpAny M A x (fun v s₁=>∃ e od t,v=.ref e/\s₁.heap.get? C=some (excClassObj nm q C N bs bm hdct sn sub ab col dd k0 k1 k2 k3 k5 newId)/\s₁.heap.get? e=some (b9 C od t)/\E (.ref e) s₁) E s) :
  wpAny M A (raiseStmt env (some x) none) Q E s:=by
 have hcB:(Value.ref C::bm).contains (.type "BaseException")=true:=by rw[List.contains_cons,hbase,Bool.or_true]
 unfold raiseStmt;refine wpAny_bind (wpAny_mono h (fun v s₁ h₁ => ?_) fun _ _ x=>x)
 obtain⟨e,od,t,rfl,hC,he,hE⟩:=h₁;obtain⟨hp,g,d,tk,os⟩:=s₁;have he:hp.get? e=some ⟨.ref C,od,.fields #[.ref t,.none,.none,.none,.bool false,.none],#[]⟩:=he
 repeat (first | with_reducible refine wpAny_loadPart_at he ?_ | with_reducible refine wpAny_loadPart_at hC ?_ | (with_reducible refine wpAny_isSubtype_exc hC ?_;rw[hcB]) | wp_step)
 exact wpAny_raiseNew_none hh hE
theorem tK{x:Expr}{pos:Pos}{Q:Flow->Shared->Prop}(hbase:bm.contains (.type "BaseException")=true)(hh:A.handled=none)
  (h:wpAny M A (eval x env) (fun v s₁=>∃ e od t,v=.ref e/\s₁.heap.get? C=some (excClassObj nm q C N bs bm hdct sn sub ab col dd k0 k1 k2 k3 k5 newId)/\s₁.heap.get? e=some (b9 C od t)/\E (.ref e) s₁) E s) :
  wpAny M A (exec (.Raise (some x) none pos) env) Q E s:=by
 rw[arm_exec_Raise]
 first
  | exact wpAny_bind (wpAny_standAt (j4 hbase hh (wpAny_bind (wpAny_mono h (fun v s₁ h₁=>wpAny_bind (wpAny_standAt (wpAny_pure h₁))) fun _ _ x=>x))))
  | (show wpAny M A (do standAt pos;raiseStmt env (some (do let v ← eval x env;standAt pos;pure v)) none) Q E s;exact wpAny_bind (wpAny_standAt (j4 hbase hh (wpAny_bind (wpAny_mono h (fun v s₁ h₁=>wpAny_bind (wpAny_standAt (wpAny_pure h₁))) fun _ _ x=>x)))))
end
structure p7(P:Program)(w:World)(outer:List Env)(H:Hp)(s:Shared)(e C d:Addr)(H':Hp)(s':Shared):Prop where
 os:s'.os=s.os
 bare:AllBare s'.gens
 un:Un (frs outer) [] H H' s.heap s'.heap
 hok:i6 P w H' s'.heap
 new:s.heap.objs.size<=e
 free:H' e=none
 obj:∃ oe vs,s'.heap.get? e=some oe/\oe.cls=.ref C/\oe.dict=some d/\oe.data=.fields vs/\p6 s'.heap vs
noncomputable def jz(P:Program)(w:World):ri:=fun outer H s E x s'=>∃ e C d H',x=.ref e/\p7 P w outer H s e C d H' s'/\E (.ref C) (some d) H'
section
variable{X:Cx}{pins:List (Addr×Obj)}{σ:St}{H:Hp}{s:Shared}{e C d t:Addr}
theorem vn(I:Inv X pins σ H s)(hx:X.ex=[])(hst:X.stack=X.env::X.outer)(hfm:X.env.frame=some X.env.locals)(he:s.heap.get? e=some (b9 C (some d) t))(hn:X.s₀.heap.objs.size<=e)(hH:H e=none){Q:Unit->Shared->Prop}{E:Value->Shared->Prop}
  (h:∀ s',p7 X.prog X.w X.outer X.H₀ X.s₀ e C d H s'->Q () s'):wpAny (model X.prog X.w) X.A (leaving X.env (.ref e)) Q E s:=by
 have hfr:=I.ok.frames;rw[hst]at hfr;have hl:=I.stack;rw[hst]at hl;refine tJ hfr hl hfm he rfl (.inl rfl) fun h' T F=>h _ ?_
 have hfree:∀ b u,H b=some u->b∉frs (X.env::X.outer):=fun b u q z=>by
  have:=I.jw b (by rw[hst];exact z)
  rw[this]at q;cases q
 have hlt:∀ b o,X.s₀.heap.get? b=some o->b≠e/\b≠X.env.locals:=fun b o q=>⟨fun z=>by rw[z]at q;exact absurd (Nat.lt_of_lt_of_le (Heap.lt_size q) hn) (Nat.lt_irrefl _),fun z=>by rw[z]at q;exact absurd (Nat.lt_of_lt_of_le (Heap.lt_size q) I.ok.above) (Nat.lt_irrefl _)⟩
 have hnf:∀ b o,X.s₀.heap.get? b=some o->b∉X.fs->b∉frs (X.env::X.outer):=fun b o q hb z=>by
  unfold frs at z;rw[List.filterMap_cons,hfm]at z;rcases List.mem_cons.mp z with z | z
  ·exact(hlt b o q).2 z
  ·exact hb z
 refine⟨I.os,I.bare,⟨fun b o q n hb _ => ?_,fun b o q n hb _ => ?_,fun b o q n _=>I.base.free b o q n (by rw[hx];simp),fun b o q _ => ?_,I.base.tups,I.base.g7,I.base.jo⟩,fun a u q => ?_,hn,hH,?_⟩
 ·exact F.keep b o (hlt b o q).1 (hnf b o q hb) (I.base.keep b o q n hb (by rw[hx];simp))
 ·obtain⟨sl,q1⟩:=I.base.slot b o q n hb (by rw[hx];simp)
  obtain⟨sl',q2⟩:=F.slot b _ (hlt b o q).1 q1;exact⟨sl',q2⟩
 ·obtain⟨o',q1⟩:=I.base.there b o q (by rw[hx];simp)
  obtain⟨sl',q2⟩:=F.slot b _ (hlt b o q).1 q1;exact⟨_,q2⟩
 ·refine(I.hok a u q).stay (fun b u' hb q'=>F.keep b u' (fun z => ?_) ?_ q') (fun b q'=>q') fun b xs q'=>q'
  ·rw[z]at hb
   rcases hb with hb | hb
   ·rw[← hb,hH]at q;cases q
   ·rw[hH]at hb;cases hb
  ·rcases hb with hb | hb
   ·rw[hb];exact hfree a u q
   ·exact hfree b _ hb
 ·obtain⟨oT,ts,g1,g2,g3⟩:=F.tb
  exact⟨_,_,F.at_,rfl,rfl,rfl,.inr ⟨T,oT,ts,by simp,g1,g2,g3⟩⟩
end
def B3(te:TE)(Arg:V->Hp->Prop)(fZ:V->Hp->VK)(C:Addr)(fld:Str)(E:XK):TS:=fun _ σ H=>te σ H fun v0 H1=>Arg v0 H1/\∀ v H2 dd,fZ v0 H1 v H2->H2 dd=none->E (.ref C) (some dd) (upd H2 dd (.xd [(fld,v)]))
section
variable{P:Program}{w:World}{K:PySem.W.Frag}{mg:Str->Option Value}{base:Heap}{N:List Str}{qual:Str}{scope:Scope}{f:Addr}{cd:Value}{A:Around}{outer:List Env}{s0:Shared}{H0:Hp}{E:XK}
variable{C N0 fI c:Addr}{fd:FuncData}{st:Stmt}{f7 fld sf pn cn:Str}{ve arg:Expr}{k:Nat}{te:TE}{Arg:V->Hp->Prop}{fZ:V->Hp->VK}{np cpos pos:Pos}
theorem vo(D:vm K mg C N0 fI c fd st f7 fld sf pn ve)(hr:bP (k + 2) (A.deeper (envOfC qual scope s0.heap.objs.size f cd)))(hg:Gl (bZ (jz P w) P w K mg base N qual scope f cd A outer s0 H0 E) cn)(hm:mg cn=some (.ref C))
  (harg:PE (bZ (jz P w) P w K mg base N qual scope f cd A outer s0 H0 E) arg te)
  (yH:∀ v0 H1,Arg v0 H1->∀ (A':Around) (ot:List Env) (s':Shared) (e:Addr) (E':XK),bP k (A'.deeper (envOfC f7 (af st) s'.heap.objs.size fI (.ref c)))->∃ tv,PE ((bZ dR P w K mg base [sf,pn] f7 (af st) fI (.ref c) A' ot s' H1 E').i8.mk1 e) ve tv/\tv (start [sf,pn] [.ref e,v0]) H1 (fZ v0 H1))
  (hst:starEach [arg] (envOfC qual scope s0.heap.objs.size f cd)=[(false,eval arg (envOfC qual scope s0.heap.objs.size f cd))]) (hdb:(cn == ("__debug__":Str))=false:=by decide) :
  PS (bZ (jz P w) P w K mg base N qual scope f cd A outer s0 H0 E) (.Raise (some (.Call (.Name cn np) [arg] [] cpos)) none pos) (B3 te Arg fZ C fld E):=by
 intro pins s σ H Dn I h;obtain⟨nm,q,bs,bm,sn,sub,ab,col,Kv,k0,k1,k2,k3,k5,hC,ot⟩:=D.cls.ex;have hbase:bm.contains (.type "BaseException")=true:=(ot _ I.fX).hasType (by decide +kernel)
 refine tK (C:=C) (nm:=nm) (q:=q) (N:=N0) (bs:=bs) (bm:=bm) (hdct:=true) (sn:=sn) (sub:=sub) (ab:=ab) (col:=col) (dd:=Kv) (k0:=k0) (k1:=k1) (k2:=k2) (k3:=k3) (k5:=k5) (newId:="ValueError.__new__") hbase (I.ok.hd rfl) ?_;refine wpAny_Call_Name_kw (gK I hg hm ?_ hdb);refine PySem.W.callWith_K (h₀:=base) I.ok.mod.D4 D.cls.kp ?_ hst rfl
 have hst':backTo cpos (starEach [arg] (bZ (jz P w) P w K mg base N qual scope f cd A outer s0 H0 E).env)=(false,eval arg (bZ (jz P w) P w K mg base N qual scope f cd A outer s0 H0 E).env)::[]:=by
  show backTo cpos (starEach [arg] (envOfC qual scope s0.heap.objs.size f cd))=_
  rw[hst];rfl
 rw[hst'];refine Calls.spliced_cons (b7 (harg pins s σ H _ I h) fun u s1 ⟨v0,H1,I1,r1,ha,hq⟩=>Calls.spliced_nil ⟨I1.fX,?_⟩)
 refine B2 (k:=k) (fZ:=fZ v0 H1) D I1 hr r1 (fun A' s' e E' hr'=>yH v0 H1 ha A' _ s' e E' hr') fun e dd t v H2 s' q2 J g1 g2 g3 g4=>⟨e,some dd,t,rfl,J.fX _ _ hC,g1,?_⟩
 exact vn J rfl rfl rfl g1 (Nat.le_trans I1.sz g2) g3 fun s'' T=>⟨e,C,dd,_,rfl,T,hq v H2 dd q2 g4⟩
end
section
variable{X:Cx}{pins:List (Addr×Obj)}{σ:St}{H H':Hp}{s s':Shared}{e C d:Addr}{h':Heap}
noncomputable def Cx.oj(X:Cx)(e:Addr):Cx:={ X with A:=X.A.mark (some (.ref e)),calm:=false,xe:=fun _ _=>False }
theorem Inv.oj(I:Inv X pins σ H s):Inv (X.oj e) pins σ H s:=
 ⟨⟨I.ok.mod,I.ok.kind,I.ok.glob,I.ok.blt,I.ok.above,I.ok.inj,I.ok.has,I.ok.cab,(fun z=>nomatch (show false=true from z)),I.ok.frames,I.ok.AO,I.ok.Bv,I.ok.bs,I.ok.ti,I.ok.nV,I.ok.nW,I.ok.fW,I.ok.uI⟩,
  I.os,I.bare,I.base,I.loc,I.cell,I.free,I.cU,I.pin,I.hok,I.len⟩
theorem Inv.Fb(ok:X.Ok)(I:Inv (X.oj e) pins σ H s):Inv X [] σ H s:=
 ⟨ok,I.os,I.bare,I.base,I.loc,I.cell,I.free,I.cU,fun p hp=>I.pin p (by rw[List.append_nil]at hp;simp[show p∈(X.oj e).pn from hp]),I.hok,I.len⟩
theorem Inv.blank{t':Nat}{m':Str->Option Value}(ok:X.Ok)(I:Inv (X.oj e) pins σ H s)(hn:h'.Ns X.env.locals m')(hs:Heap.SameBut X.env.locals s.heap h'):Inv X [] (List.replicate X.N.length none) H { s with heap:=h',toks:=t' }:=by
 have k:∀ b o,b≠X.env.locals->s.heap.get? b=some o->h'.get? b=some o:=fun b o hb q=>(hs.2 b hb).trans q
 have D5:∀ b o,X.s₀.heap.get? b=some o->b≠X.env.locals:=fun b o q=>Nat.ne_of_lt (Nat.lt_of_lt_of_le (Heap.lt_size q) I.ok.above)
 refine⟨ok,I.os,I.bare,⟨fun b o q n hb hx=>k b o (D5 b o q) (I.base.keep b o q n hb hx),fun b o q n hb hx => ?_,I.base.free,fun b o q hx => ?_,I.base.tups,I.base.g7,I.base.jo⟩,⟨m',hn,fun i x v _ z => ?_⟩,fun x c q => ?_,I.free,I.cU,fun p hp => ?_,fun a u q => ?_,by simp⟩
 ·obtain⟨sl,q1⟩:=I.base.slot b o q n hb hx
  exact⟨sl,k b _ (D5 b o q) q1⟩
 ·obtain⟨o',q1⟩:=I.base.there b o q hx
  exact⟨o',k b _ (D5 b o q) q1⟩
 ·rw[List.getElem?_replicate]at z
  split at z<;>cases z
 ·obtain⟨v,o,q1,q2⟩:=I.cell x c q
  exact⟨v,o,k c o (I.xW x c q) q1,q2⟩
 ·rw[List.append_nil]at hp
  obtain⟨a1,a2,a3,a4,a5⟩:=I.pin p (by simp[show p∈(X.oj e).pn from hp])
  exact⟨k _ _ a3 a1,a2,a3,a4,a5⟩
 ·refine(I.hok a u q).stay (fun b u' hb q'=>k b u' (fun z => ?_) q') (fun _ q'=>q') fun _ _ q'=>q'
  have hf:H X.env.locals=none:=I.free;rcases hb with hb | hb
  ·rw[← hb,z,hf]at q;cases q
  ·rw[z,hf]at hb;cases hb
theorem Inv.flown{oe:Obj}{T:Addr}(I:Inv X [] σ H s)(F:rG X.stack e oe T s.heap h')(Fr:vi X e)(he:e≠X.env.locals)(hH:H e=none):Inv X [] σ H { s with heap:=h' }:=by
 have hst:∀ b,b∈frs X.stack->b=X.env.locals\/b∈X.fs:=fun b z=>List.mem_cons.mp (I.mx b z)
 refine I.step (g':=s.gens) (d':=s.drawn) (t':=s.toks) (ch:=[e]) (fun b hb => ?_) (fun b o hL hb hc q n=>F.keep b o (by simpa using hc) (fun z=>(hst b z).elim hL hb) q) (fun b o _ _ hc q _=>F.slot b o (by simpa using hc) q) (fun _ _ _ _ n=>n) (fun b o hc q => ?_) (fun _ _ q=>q) (fun _ _ _ q=>q) (fun b ps q=>⟨#[],by rw[q];simp⟩) (fun m hm => ?_) (fun a u q => ?_) I.bare
 ·rw[List.mem_singleton.mp hb]
  exact⟨Fr.new,he,Fr.cell,fun p hp=>Fr.pn p (by simpa using hp)⟩
 ·obtain⟨sl,q1⟩:=F.slot b o (by simpa using hc) q
  exact⟨_,q1⟩
 ·obtain⟨o,es,ep,e1,e2,e3⟩:=hm
  obtain⟨sl,q1⟩:=F.slot _ o (Ne.symm he) e1;exact⟨_,es,ep,q1,e2,e3⟩
 ·refine(I.hok a u q).stay (fun b u' hb q'=>F.keep b u' (fun z => ?_) (fun z => ?_) q') (fun _ q'=>q') fun _ _ q'=>q'
  ·rw[z]at hb
   rcases hb with hb | hb
   ·rw[← hb,hH]at q;cases q
   ·rw[hH]at hb;cases hb
  ·have hf:=I.jw b z
   rcases hb with hb | hb
   ·rw[hb,q]at hf;cases hf
   ·rw[hb]at hf;cases hf
theorem f_{M:Model}{A:Around}{E:Value->Shared->Prop}{Q:Unit->Shared->Prop}{oe oT:Obj}{vs ts:Array Value}{T:Addr}(he:s.heap.get? e=some oe)(hd:oe.data=.fields vs)(h1:vs[1]?=some (.ref T))(hT:s.heap.get? T=some oT)(hdT:oT.data=.fields ts)(h3:ts[3]?=some .none)(h:Q () s) :
  wpAny M A (setFlight (.ref e) none) Q E s:=by
 unfold setFlight;refine wpAny_bind (wpAny_field he hd h1 ?_);rw[if_pos (show(Value.ref T != Value.none)=true from by simp)]
 refine wpAny_setField hT hdT (Array.getElem?_eq_some_iff.mp h3).1 ?_;have:s.heap.update T (Obj.mapFields (·.setIfInBounds 3 ((none:Option Addr).elim Value.none fun f=>rawInt f)))=s.heap:=Heap.update_setField_same s.heap T oT ts 3 .none hT hdT h3
 rw[this];exact h
end
section
variable{X:Cx}{σ:St}{H H':Hp}{s s':Shared}{e C d:Addr}
theorem vp{bn:Str}{nm:Option Str}{B0:Addr}{i:Nat}{b0:Stmt}{suite:List Stmt}{hp pos:Pos}{fs:List (Str×V)}{Q:Flow->Shared->Prop}{E:Value->Shared->Prop}(I:Inv X [] σ H s)(Th:p7 X.prog X.w X.stack H s e C d H' s')(hst:X.stack=X.env::X.outer)(hfm:X.env.frame=some X.env.locals)
  (hxd:H' d=some (.xd fs)) (hg:Gl X bn) (hm:X.mg bn=some (.ref B0)) (hex:PySem.W.exmOne X.K (.ref C) (.ref B0)=some true) (hN:X.N.Nodup) (hi:∀ n,nm=some n->X.N[i]?=some n) (hn:∀ n,nm=some n->X.env.scope.names.lookup n=some .local)
  (hsuite:∀ oe s4,oe.cls=.ref C->oe.dict=some d->PySem.W.notCls oe=true->Inv (X.oj e) [(e,oe)] (if nm.isSome then σ.set i (some (.ref e)) else σ) H' s4 ->
   wpAny (model X.prog X.w) (X.A.mark (some (.ref e))) (execs (b0::suite) X.env) (fun f s5=>∃ Fc H5,Inv (X.oj e) [(e,oe)] Fc H5 s5/\∀ HZ s6,Inv X [] HZ H5 s6->Q f s6) (fun _ _=>False) s4)
  (hdb:(bn == ("__debug__":Str))=false:=by decide) :
  wpAny (model X.prog X.w) X.A (noteFrame (.ref e) X.env) (fun _ s₂=>wpAny (model X.prog X.w) X.A (setFlight (.ref e) none) (fun _ s₃=>wpAny (model X.prog X.w) X.A (handleBy (.ref e) X.env [.ExceptHandler (some (.Name bn hp)) nm (b0::suite) pos]) Q E s₃) E s₂) E s':=by
 have I':Inv X [] σ H' s':=I.call' (ch:=[]) Th.os Th.un Th.hok Th.bare (by simp)
 obtain⟨oe,vs,g1,g2,g3,g4,g5⟩:=Th.obj;have hfr:=I'.ok.frames;rw[hst]at hfr;have hl:=I'.stack;rw[hst]at hl;have hlt:∀ b o,s.heap.get? b=some o->b≠e:=fun b o q z=>by rw[z]at q;exact absurd (Nat.lt_of_lt_of_le (Heap.lt_size q) Th.new) (Nat.lt_irrefl _)
 have hloc:e≠X.env.locals:=fun z=>by
  obtain⟨m,⟨o,_,_,ho,_⟩,_⟩:=I.loc;exact hlt _ _ ho z.symm
 have fr:vi X e:=⟨.inr (Nat.le_trans I.sz Th.new),fun x c q=>by
  obtain⟨v,o,q1,_⟩:=I.cell x c q;exact hlt _ _ q1,fun p hp=>by
  obtain⟨q1,_⟩:=I.pin p (by simp[hp])
  exact hlt _ _ q1⟩
 have hfs:e∉X.fs:=fun z=>by
  obtain⟨_,o,ho,_⟩:=I.ok.fW.mem z;exact absurd (Nat.lt_of_lt_of_le (Heap.lt_size ho) (Nat.le_trans I.sz Th.new)) (Nat.lt_irrefl _)
 refine vk hfr hl hfm g1 g4 g5 fun h' T F => ?_
 have J:Inv X [] σ H' { s' with heap:=h' }:=I'.flown (by rw[hst];exact F) fr hloc Th.free
 have hat:=F.at_;obtain⟨oT,ts,t1,t2,t3⟩:=F.tb;have hcl:(oe.mapFields (·.setIfInBounds 1 (.ref T))).cls=.ref C:=by rw[Obj.cls_mapFields];exact g2
 have hdat:=Obj.data_mapFields g4 (·.setIfInBounds 1 (Value.ref T))
 have hdi:(oe.mapFields (·.setIfInBounds 1 (.ref T))).dict=some d:=by
  obtain⟨oc,od,dt,sl⟩:=oe;cases dt<;>exact g3
 have hsz:1 < vs.size:=by
  rcases g5 with z | ⟨_,_,_,z,_⟩<;>exact(Array.getElem?_eq_some_iff.mp z).1
 generalize (oe.mapFields (·.setIfInBounds 1 (.ref T)))=oe' at *;have hnc:PySem.W.notCls oe'=true:=by unfold PySem.W.notCls;rw[hdat]
 obtain⟨mA,nA,_⟩:=J.hok d _ hxd;obtain⟨od,gd,_⟩:=iQ nA;have at_:PySem.W.InstAt h' e oe' C (some od):=⟨hat,hcl,hnc,by rw[hdi];exact gd⟩
 refine wpAny_handleBy_cons (codeAny_handlers_test ?_) (by intro q;cases q)
 refine gK (X:=X.oj e) J.oj hg hm ?_ hdb;refine(PySem.W.exm_one (K:=X.K) J.fX at_.type hex).here ?_;cases nm with
 | none=>
  refine codeAny_handlers_suite ?_;refine f_ hat hdat (by simp[hsz]) t1 t2 t3 ?_
  have J1:Inv (X.oj e) [(e,oe')] σ H' { s' with heap:=h' }:=J.oj.vg hat Th.free hloc hfs (fun v=>by rw[hdat];simp)
  exact wpAny_mono (hsuite oe' _ hcl hdi hnc J1) (fun f s5 ⟨Fc,H5,J5,q5⟩=>q5 _ _ (J5.Fb I.ok)) (fun _ _ z=>z.elim)
 | some n=>
 have hi:=hi n rfl;have hn:=hn n rfl;refine codeAny_handlers_suite_as ?_;refine f_ hat hdat (by simp[hsz]) t1 t2 t3 ?_
 have J1:Inv (X.oj e) [(e,oe')] σ H' { s' with heap:=h' }:=J.oj.vg hat Th.free hloc hfs (fun v=>by rw[hdat];simp)
 refine jV (X:=X.oj e) J1 hN hi (.inl hn) (v:=.ref e) rfl (fun s4 J4 => ?_) (.inr hn)
 refine wpAny_mono (hsuite oe' s4 hcl hdi hnc J4) (fun f s5 ⟨Fc,H5,J5,q5⟩ => ?_) (fun _ _ z=>z.elim)
 obtain⟨m,Pz,_⟩:=J5.loc;exact wpAny_nameGoes hn Pz (by rw[I.ok.kind];rfl) fun h6 m6 n6 PC=>q5 _ _ (J5.blank I.ok n6 PC)
end
theorem Cx.p8(X:Cx):X.fz []=X:=by
 obtain⟨a1,a2,a3,a4,a5,a6,a7,a8,a9,a10,a11,a12,a13,fn,a15,a16,a17⟩:=X;simp[Cx.fz]
section
variable{X:Cx}{σ:St}{H:Hp}{s:Shared}{C:Addr}{k:Nat}{f:Addr}{fd:FuncData}{ps:List Str}{sp:Sp}{ta:TA}{fs:List (Str×V)}{Rest:Hp->Prop}
end
section
variable{X:Cx}{pins:List (Addr×Obj)}{σ:St}{H:Hp}{s:Shared}{e C N fI:Addr}{oe:Obj}
noncomputable def Cx.yJ(X:Cx)(e:Addr)(oe:Obj):Cx:={ X with pn:=X.pn++[(e,oe)] }
theorem Inv.yJ(I:Inv X [(e,oe)] σ H s):Inv (X.yJ e oe) [] σ H s:=
 ⟨⟨I.ok.mod,I.ok.kind,I.ok.glob,I.ok.blt,I.ok.above,I.ok.inj,I.ok.has,I.ok.cab,I.ok.hd,I.ok.frames,I.ok.AO,I.ok.Bv,I.ok.bs,I.ok.ti,I.ok.nV,I.ok.nW,I.ok.fW,I.ok.uI⟩,
  I.os,I.bare,I.base,I.loc,I.cell,I.free,I.cU,fun p hp=>I.pin p (by simpa[Cx.yJ] using hp),I.hok,I.len⟩
theorem Inv.Fd(I:Inv (X.yJ e oe) [] σ H s):Inv X [(e,oe)] σ H s:=
 ⟨⟨I.ok.mod,I.ok.kind,I.ok.glob,I.ok.blt,I.ok.above,I.ok.inj,I.ok.has,I.ok.cab,I.ok.hd,I.ok.frames,I.ok.AO,I.ok.Bv,I.ok.bs,I.ok.ti,I.ok.nV,I.ok.nW,I.ok.fW,I.ok.uI⟩,
  I.os,I.bare,I.base,I.loc,I.cell,I.free,I.cU,fun p hp=>I.pin p (by simpa[Cx.yJ] using hp),I.hok,I.len⟩
structure Kx(K:PySem.W.Frag)(C:Addr):Prop where
 ha:PySem.W.findIn K (.ref C) "__class__"=some (some (.builtin "object.__class__"))
 hn:PySem.W.specialIn K (.builtin "object.__class__") "__get__"=some (some (.builtin "getset_descriptor.__get__"))
 ht:PySem.W.takesIn K (.builtin "object.__class__")=some true
 hm:PySem.W.mroIn K C (.type "object")=some true
structure Ic(X:Cx)(e C:Addr)(oe:Obj)(d:Addr)(N fI:Addr):Prop where
 pn:(e,oe)∈X.pn
 cls:oe.cls=.ref C
 dict:oe.dict=some d
 no:PySem.W.notCls oe=true
 txt:mK X.K C N fI
 is:Kx X.K C
variable{d:Addr}
noncomputable def PD(i:Nat)(e d:Addr)(fld:Str):TE:=fun σ H Q=>σ[i]?=some (some (.ref e))/\∃ fs v,H d=some (.xd fs)/\fs.lookup fld=some v/\Q v H
theorem Fe{i:Nat}{n fld:Str}{q p:Pos}(c:Ic X e C oe d N fI)(na:fB X.K C fld)(hi:X.N[i]?=some n)(hv:xV X.env.scope n)(hd1:(n == ("__debug__":Str))=false:=by decide)(hd2:(n == ("__classdict__":Str))=false:=by decide) :
  PE X (.Attribute (.Name n q) fld p) (PD i e d fld):=by
 intro pins s σ H Q I h;obtain⟨h1,fs,v,h2,h3,h4⟩:=h;refine rh rfl (b7 (jW (pos:=q) hi hv hd1 hd2 pins s σ H (fun w H'=>w=.ref e/\H'=H) I ⟨.ref e,h1,rfl,rfl⟩) fun u s1 ⟨w,H1,J1,r1,hw,hH⟩ => ?_)
 subst hw hH;cases (show u=Value.ref e from r1)
 exact rF J1 c.txt na (J1.pin (e,oe) (by simp[c.pn])).1 c.cls c.dict c.no h2 h3 fun u' ru J2=>⟨v,H1,J2,ru,h4⟩
end
section
variable{X:Cx}{e C N fI d:Addr}{oe:Obj}
end
noncomputable def vq(e:DictEntry):Bool:=match e.key with
 | .str _ _=>true
 | _=>false
def Ie(K:PySem.W.Frag)(N:Addr)(nm:Str):Option (Option Value):=match K.lookup N with
 | some ⟨_,_,.dict es _,_⟩=>if es.toList.all vq=true then some (nsFind es nm) else none
 | _=>none
theorem AY{K:PySem.W.Frag}{N:Addr}{nm:Str}{r:Option Value}(h:Ie K N nm=some r)(hp:Heap)(X:K.In hp):∃ mN,hp.Ns N mN/\mN nm=r:=by
 unfold Ie at h;split at h
 ·rename_i c d es n sl hl
  split at h
  ·rename_i ha
   cases h;refine⟨nsFind es,⟨_,es,n,X _ _ hl,rfl,fun e he => ?_,fun _=>rfl⟩,rfl⟩
   have:=List.all_eq_true.mp ha e (by simpa using he)
   unfold vq at this;split at this
   ·rename_i a b q;exact⟨a,b,q⟩
   ·cases this
  ·cases h
 ·cases h
def om(K:PySem.W.Frag):List Value->Bool
 | .ref A::tl=>(match K.lookup A with
  | some ⟨_,_,.cls cd,_⟩=>Ie K cd.ns "__init__" == some none
  | _=>false) && om K tl
 | l=>l == hV
theorem rJ{K:PySem.W.Frag}:∀ {l:List Value},om K l=true->∀ h:Heap,K.In h->OwnTail h hV l
 | [],e,h,X=>by simp[om]at e
 | a::r,e,h,X=>by
  cases a with
  | ref A=>
   simp only[om,Bool.and_eq_true]at e;obtain⟨e1,e2⟩:=e;split at e1
   ·rename_i c d cd sl hl
    obtain⟨mN,n1,n2⟩:=AY (eq_of_beq e1) h X;exact .own (X _ _ hl) n1 n2 (rJ e2 h X)
   ·cases e1
  | _=>rw[eq_of_beq (show(_ == hV)=true from e)];exact .base
end L2
namespace Mir
open PySem
inductive D where
 | non | bl (b:Bool) | int (i:Int) | str (x:Str)
 | lst (xs:List D) | tup (xs:List D) | dct (ks:List L2.Key) (vs:List D) | ref (n:Nat)
 deriving Inhabited
inductive Out (α:Type) where
 | ok (a:α) | exc (c:Str) (fs:List (Str×D)) | bad
noncomputable def Out.bind{α β:Type}:Out α->(α->Out β)->Out β
 | .ok a,f=>f a
 | .exc c fs,_=>.exc c fs
 | .bad,_=>.bad
instance:Monad Out where
 pure:=.ok
 bind:=Out.bind
@[simp] theorem Ig{α β:Type}(a:α)(f:α->Out β):(Out.ok a >>= f)=f a:=rfl
@[simp] theorem Ff{α β:Type}(f:α->Out β):((Out.bad:Out α) >>= f)=.bad:=rfl
@[simp] theorem Fg{α β:Type}(c fs)(f:α->Out β):((Out.exc c fs:Out α) >>= f)=.exc c fs:=rfl
@[simp] theorem Ih{α:Type}(a:α):(pure a:Out α)=.ok a:=rfl
mutual
noncomputable def dS:D->D->Bool
 | .non,.non=>true
 | .bl a,.bl b=>a == b
 | .bl a,.int j=>(if a then 1 else 0) == j
 | .int i,.bl b=>i == (if b then 1 else 0)
 | .int i,.int j=>i == j
 | .str x,.str y=>x == y
 | .lst xs,.lst ys=>dA xs ys
 | .tup xs,.tup ys=>dA xs ys
 | _,_=>false
noncomputable def dA:List D->List D->Bool
 | [],[]=>true
 | x::xs,y::ys=>dS x y && dA xs ys
 | _,_=>false
end
noncomputable def aH:Nat->D->Bool
 | _,.non | _,.bl _ | _,.int _ | _,.str _=>true
 | n + 1,.lst xs | n + 1,.tup xs=>xs.all (aH n)
 | _,_=>false
noncomputable def small(n:Nat):Bool:=decide (n<=sizeLine)
def jt:D->Option Bool
 | .non=>some false
 | .bl b=>some b
 | .int i=>some (i != 0)
 | .str x=>if small x.length then some (x.length != 0) else none
 | .lst xs=>some (!xs.isEmpty)
 | .tup xs=>some (!xs.isEmpty)
 | _=>none
abbrev Rs:=Bool×D
noncomputable def lx(i:Int):Bool:=decide (i.natAbs < 18446744073709551616)
theorem oq{i:Int}(h:lx i=true) : -(2 ^ 64) < i/\i < 2 ^ 64:=by
 have:=of_decide_eq_true h;omega
def e9(op:Operator)(x y:D):Out Rs:=
 match op,x,y with
 | .Add,.int i,.int j=>.ok (false,.int (i + j))
 | .Sub,.int i,.int j=>.ok (false,.int (i - j))
 | .Mult,.int i,.int j=>if lx i || lx j then .ok (false,.int (i * j)) else .bad
 | .FloorDiv,.int i,.int j=>if decide (0 < j) && decide (j < 1073741824) then .ok (false,.int (i / j)) else .bad
 | .Mod,.int i,.int j=>if decide (0 < j) then .ok (false,.int (i % j)) else .bad
 | .Pow,.int i,.int j=>if decide (0<=j) && decide (j<=1000) && decide (i.natAbs < 2 ^ 64) then .ok (false,.int (i ^ j.toNat)) else .bad
 | .Add,.str i,.str j=>if small (i.length + j.length) then .ok (false,.str (i++j)) else .bad
 | .Add,.lst i,.lst j=>if small (i.length + j.length) then .ok (true,.lst (i++j)) else .bad
 | _,_,_=>.bad
noncomputable def AZ(x y:Str):Bool := !(Builtin.Str.occurrences y x 0 y.length 1).isEmpty
def inD(x y:D):Out Bool:=
 match x,y with
 | x,.lst ys=>if aH 8 x && ys.all (aH 8) then .ok (ys.any fun y=>dS y x) else .bad
 | x,.tup ys=>if aH 8 x && ys.all (aH 8) then .ok (ys.any fun y=>dS y x) else .bad
 | .str x,.str y=>.ok (AZ x y)
 | _,_=>.bad
noncomputable def isD(x y:D):Out Bool:=
 match x,y with
 | .non,.non=>.ok true
 | _,.non=>.ok false
 | .bl a,.bl b=>.ok (a == b)
 | .non,.bl _=>.ok false
 | .int _,.bl _=>.ok false
 | .str _,.bl _=>.ok false
 | .lst _,.bl _=>.ok false
 | .tup _,.bl _=>.ok false
 | _,_=>.bad
def dF(op:CmpOp)(x y:D):Out Bool:=
 match op,x,y with
 | .Eq,x,y=>if aH 8 x && aH 8 y then .ok (dS x y) else .bad
 | .NotEq,x,y=>if aH 8 x && aH 8 y then .ok (!dS x y) else .bad
 | .Lt,.int i,.int j=>.ok (decide (i < j))
 | .LtE,.int i,.int j=>.ok (decide (i<=j))
 | .Gt,.int i,.int j=>.ok (decide (j < i))
 | .GtE,.int i,.int j=>.ok (decide (j<=i))
 | .In,x,y=>inD x y
 | .NotIn,x,y=>do let b ← inD x y;.ok (!b)
 | .Is,x,y=>isD x y
 | .IsNot,x,y=>do let b ← isD x y;.ok (!b)
 | _,_,_=>.bad
noncomputable def gc(c:Nat):Str:=⟨#[c]⟩
def p9(x y:D):Out Rs:=
 match x,y with
 | .lst xs,.int i=>match L2.i_ xs i with | some d=>.ok (false,d) | none=>.bad
 | .tup xs,.int i=>match L2.i_ xs i with | some d=>.ok (false,d) | none=>.bad
 | .str z,.int i=>if small z.length then (match L2.i_ z.cps.toList i with | some c=>.ok (false,.str (gc c)) | none=>.bad) else .bad
 | _,_=>.bad
def cW{α:Type}(xs:List α)(lo hi:Option Int):List α:=(xs.drop (HT.cj xs.length 0 lo)).take (HT.cj xs.length xs.length hi - HT.cj xs.length 0 lo)
def vt(x:D)(lo hi:Option Int):Out Rs:=
 match x with
 | .lst xs=>.ok (true,.lst (cW xs lo hi))
 | .str z=>if small z.length then .ok (false,.str ⟨(cW z.cps.toList lo hi).toArray⟩) else .bad
 | _=>.bad
noncomputable def intsFrom(lo:Int):Nat->List D
 | 0=>[]
 | n + 1=>.int lo::intsFrom (lo + 1) n
noncomputable def hW(i:Int):Bool:=decide (i.natAbs < 4611686018427387904)
theorem ou{i:Int}(h:hW i=true) : -(2 ^ 62)<=i/\i < 2 ^ 62:=by
 have:=of_decide_eq_true h;omega
noncomputable def cX(i:Nat):List D->List D
 | []=>[]
 | d::ds=>.tup [.int i,d]::cX (i + 1) ds
inductive ie where
 | len | all | any | sorted | list | tuple | int | min | max | bool
 deriving DecidableEq
def e_:List D->Option (List Bool)
 | []=>some []
 | d::r=>match jt d,e_ r with | some b,some bs=>some (b::bs) | _,_=>none
noncomputable def ja:List D->Option (List Int)
 | []=>some []
 | .int i::r=>(ja r).map (i :: ·)
 | _=>none
noncomputable def fP:List D->Option (List Str)
 | []=>some []
 | .str i::r=>(fP r).map (i :: ·)
 | _=>none
noncomputable def bz(a b:Str):Bool := !decide (b.cps.toList < a.cps.toList)
def fE(ds:List D):Out (List D):=
 if 64<=ds.length then .bad else
 match ja ds with
 | some is=>.ok ((is.mergeSort fun a b=>decide (a<=b)).map .int)
 | none=>match fP ds with
  | some xs=>.ok ((xs.mergeSort bz).map .str)
  | none=>.bad
def hZ(f:ie)(a:D):Out Rs:=
 match f,a with
 | .len,.tup [.lst xs]=>.ok (false,.int xs.length)
 | .len,.tup [.tup xs]=>.ok (false,.int xs.length)
 | .len,.tup [.str z]=>if small z.length then .ok (false,.int z.length) else .bad
 | .all,.tup [.lst xs]=>match e_ xs with | some bs=>.ok (false,.bl (bs.all id)) | none=>.bad
 | .any,.tup [.lst xs]=>match e_ xs with | some bs=>.ok (false,.bl (bs.any id)) | none=>.bad
 | .sorted,.tup [.lst xs]=>do let ys ← fE xs;.ok (true,.lst ys)
 | .list,.tup [.lst xs]=>.ok (true,.lst xs)
 | .list,.tup [.tup xs]=>.ok (true,.lst xs)
 | .tuple,.tup [.lst xs]=>.ok (false,.tup xs)
 | .tuple,.tup [.tup xs]=>.ok (false,.tup xs)
 | .int,.tup [.int i]=>.ok (false,.int i)
 | .int,.tup [.bl k]=>.ok (false,.int (if k then 1 else 0))
 | .min,.tup [.int i,.int j]=>.ok (false,.int (if j < i then j else i))
 | .max,.tup [.int i,.int j]=>.ok (false,.int (if j > i then j else i))
 | _,_=>.bad
inductive PF where
 | index | join
 deriving DecidableEq
def mL(m:PF)(x:D)(a:D):Out Rs:=
 match m,x,a with
 | .index,.lst xs,.tup [d]=>if aH 8 d && xs.all (aH 8) then (match xs.findIdx? fun y=>dS y d with | some j=>.ok (false,.int j) | none=>.bad) else .bad
 | .index,.str z,.tup [.str y]=>match Builtin.Str.occurrences z y 0 z.length 1 with | i::_=>.ok (false,.int i) | []=>.bad
 | .join,.str z,.tup [.lst ds]=>match fP ds with | some xs=>if decide (z.length<=16) && decide ((xs.map (·.length)).sum + xs.length<=1048576) then .ok (false,.str (Txt.join z xs)) else .bad | none=>.bad
 | _,_,_=>.bad
inductive Ty where
 | int | str | bool | list | tuple | dict
 deriving DecidableEq
noncomputable def vv:D->Ty->Option Bool
 | .non,_=>some false
 | .bl _,t=>some (t == .bool || t == .int)
 | .int _,t=>some (t == .int)
 | .str _,t=>some (t == .str)
 | .lst _,t=>some (t == .list)
 | .tup _,t=>some (t == .tuple)
 | .dct _ _,t=>some (t == .dict)
 | .ref _,_=>none
noncomputable def eM:D->Bool
 | .non | .bl _ | .int _ | .str _=>true
 | _=>false
noncomputable def fuel:Nat:=100000
end Mir
namespace Mir
open PySem PySem.Spec PyProof.Rows L2
mutual
noncomputable def Rep(Z:Addr->Prop)(H:Hp):D->V->Prop
 | .non,v=>v=.non
 | .bl b,v=>v=.bl b
 | .int i,v=>v=.int i
 | .str x,v=>v=.str x
 | .lst ds,v=>∃ a vs,v=.ref a/\Z a/\Rd H a (.lst vs)/\aQ Z H ds vs
 | .tup ds,v=>∃ a vs,v=.ref a/\Z a/\Rd H a (.tup vs)/\aQ Z H ds vs
 | .dct ks ds,v=>∃ a vs,v=.ref a/\Z a/\H a=some (.dK (ks.zip vs))/\aQ Z H ds vs
 | .ref _,_=>False
noncomputable def aQ(Z:Addr->Prop)(H:Hp):List D->List V->Prop
 | [],vs=>vs=[]
 | d::ds,vs=>∃ v r,vs=v::r/\Rep Z H d v/\aQ Z H ds r
end
section
variable{Z Z':Addr->Prop}{H H':Hp}
theorem mM{a:Addr}{u:HO}(k:∀ o,H a=some o->H' a=some o)(h:Rd H a u):Rd H' a u:=by
 rcases h with h | ⟨o,h⟩
 ·exact .inl (k _ h)
 ·exact .inr ⟨o,k _ h⟩
mutual
theorem Rep.mono(k:∀ a o,Z a->H a=some o->H' a=some o)(z:∀ a,Z a->Z' a):∀ {d:D} {v:V},Rep Z H d v->Rep Z' H' d v
 | .non,_,h=>by simpa only [Rep] using h
 | .bl _,_,h=>by simpa only [Rep] using h
 | .int _,_,h=>by simpa only [Rep] using h
 | .str _,_,h=>by simpa only [Rep] using h
 | .lst ds,v,h=>by
  simp only[Rep]at h ⊢;obtain⟨a,vs,e,hz,hr,hs⟩:=h;exact⟨a,vs,e,z a hz,mM (fun o=>k a o hz) hr,aQ.mono k z hs⟩
 | .tup ds,v,h=>by
  simp only[Rep]at h ⊢;obtain⟨a,vs,e,hz,hr,hs⟩:=h;exact⟨a,vs,e,z a hz,mM (fun o=>k a o hz) hr,aQ.mono k z hs⟩
 | .dct ks ds,v,h=>by
  simp only[Rep]at h ⊢;obtain⟨a,vs,e,hz,hr,hs⟩:=h;exact⟨a,vs,e,z a hz,k a _ hz hr,aQ.mono k z hs⟩
 | .ref _,_,h=>by simp only[Rep]at h
theorem aQ.mono(k:∀ a o,Z a->H a=some o->H' a=some o)(z:∀ a,Z a->Z' a):∀ {ds:List D} {vs:List V},aQ Z H ds vs->aQ Z' H' ds vs
 | [],_,h=>by simpa only [aQ] using h
 | d::ds,vs,h=>by
  simp only[aQ]at h ⊢;obtain⟨v,r,e,h1,h2⟩:=h;exact⟨v,r,e,Rep.mono k z h1,aQ.mono k z h2⟩
end
theorem aQ.length:∀ {ds:List D} {vs:List V},aQ Z H ds vs->vs.length=ds.length
 | [],_,h=>by simp only[aQ]at h;rw[h];rfl
 | d::ds,_,h=>by
  simp only[aQ]at h;obtain⟨v,r,e,_,h2⟩:=h;rw[e,List.length_cons,List.length_cons,aQ.length h2]
theorem aQ.get:∀ {ds:List D} {vs:List V} {i:Nat} {d:D},aQ Z H ds vs->ds[i]?=some d->∃ v,vs[i]?=some v/\Rep Z H d v
 | [],_,_,_,_,e=>by simp at e
 | d::ds,_,0,_,h,e=>by
  simp only[aQ]at h;obtain⟨v,r,rfl,h1,_⟩:=h;simp at e;subst e
  exact⟨v,rfl,h1⟩
 | d::ds,_,i + 1,d',h,e=>by
  simp only[aQ]at h;obtain⟨v,r,rfl,_,h2⟩:=h;obtain⟨u,h3,h4⟩:=aQ.get (i:=i) (d:=d') h2 (by simpa using e)
  exact⟨u,by simpa using h3,h4⟩
theorem aQ.append:∀ {ds es:List D} {vs ws:List V},aQ Z H ds vs->aQ Z H es ws->aQ Z H (ds++es) (vs++ws)
 | [],_,_,_,h,h'=>by simp only[aQ]at h;rw[h];exact h'
 | d::ds,_,_,_,h,h'=>by
  simp only[aQ]at h;obtain⟨v,r,rfl,h1,h2⟩:=h
  show aQ Z H (d::(ds++_)) (v::(r++_))
  simp only[aQ];exact⟨v,_,rfl,h1,aQ.append h2 h'⟩
theorem aQ.nil:aQ Z H [] []:=by simp only[aQ]
theorem aQ.cons{d:D}{ds:List D}{v:V}{vs:List V}(h:Rep Z H d v)(h':aQ Z H ds vs):aQ Z H (d::ds) (v::vs):=by
 simp only[aQ];exact⟨v,vs,rfl,h,h'⟩
theorem aQ.nil_inv{vs:List V}(h:aQ Z H [] vs):vs=[]:=by simpa only [aQ] using h
theorem aQ.cons_inv{d:D}{ds:List D}{vs:List V}(h:aQ Z H (d::ds) vs):∃ v r,vs=v::r/\Rep Z H d v/\aQ Z H ds r:=by simpa only [aQ] using h
def Now(Z:Addr->Prop)(H:Hp)(d:D)(v:V):Prop:=
 match d with
 | .lst ds=>∃ a vs,v=.ref a/\Rd H a (.lst vs)/\aQ Z H ds vs
 | d=>Rep Z H d v
theorem Rep.now{d:D}{v:V}(h:Rep Z H d v):Now Z H d v:=by
 cases d with
 | lst ds=>
  simp only[Rep]at h;obtain⟨a,vs,e,_,h⟩:=h;exact⟨a,vs,e,h⟩
 | _=>exact h
end
structure dU(Z:Addr->Prop)(H:Hp)(Z':Addr->Prop)(H':Hp):Prop where
 same:lq H H'
 sub:∀ a,Z a->Z' a
 new:∀ a,Z' a->Z a\/H a=none
 dom:∀ a,Z' a->H' a≠none
theorem dU.refl{Z:Addr->Prop}{H:Hp}(d:∀ a,Z a->H a≠none):dU Z H Z H:=⟨lq.refl _,fun _ h=>h,fun _ h=>.inl h,d⟩
theorem lq.laid{H:Hp}{p:Addr}{o:HO}(h:H p=none):lq H (upd H p o):=fun b u e=>by rw[aG (bb e h)];exact e
theorem dU.laid{Z:Addr->Prop}{H:Hp}{p:Addr}{o:HO}(d:∀ a,Z a->H a≠none)(h:H p=none):dU Z H Z (upd H p o):=
 ⟨lq.laid h,fun _ h=>h,fun _ h=>.inl h,fun a ha=>by
  have ne:a≠p:=fun e=>d a ha (by rw[e];exact h)
  rw[aG ne];exact d a ha⟩
def Zp(Z:Addr->Prop)(p:Addr):Addr->Prop:=fun a=>Z a\/a=p
section
variable{Z0 Z Z':Addr->Prop}{H0 H H':Hp}{ρ:yK}{σ:L2.St}
end
def dn(bw own:Bool)(Z:Addr->Prop)(Hb H:Hp)(d:D)(v:V):Prop:=
 if own=true then ∃ a vs ds,d=.lst ds/\v=.ref a/\Hb a=none/\¬ Z a/\H a=some (.lst vs)/\aQ Z H ds vs
 else if bw=true then Now Z H d v else Rep Z H d v
theorem dn.own{bw:Bool}{Z:Addr->Prop}{Hb H:Hp}{a:Addr}{ds:List D}{vs:List V}(h1:Hb a=none)(h2:¬ Z a)(h3:H a=some (.lst vs))(h4:aQ Z H ds vs):dn bw true Z Hb H (.lst ds) (.ref a):=by
 unfold dn;rw[if_pos rfl];exact⟨a,vs,ds,rfl,rfl,h1,h2,h3,h4⟩
theorem dn.rep{bw:Bool}{Z:Addr->Prop}{Hb H:Hp}{d:D}{v:V}(h:Rep Z H d v):dn bw false Z Hb H d v:=by
 unfold dn;rw[if_neg Bool.false_ne_true]
 split
 ·exact h.now
 ·exact h
theorem dn.now{own:Bool}{Z:Addr->Prop}{Hb H:Hp}{d:D}{v:V}(h:dn true own Z Hb H d v):Now Z H d v:=by
 unfold dn at h;split at h
 ·obtain⟨a,vs,ds,rfl,rfl,_,_,h3,h4⟩:=h
  exact⟨a,vs,rfl,.inl h3,h4⟩
 ·rw[if_pos rfl]at h;exact h
theorem PE.imp{X:Cx}{e:Expr}{t t':TE}(h:PE X e t)(i:∀ σ H Q,t' σ H Q->t σ H Q):PE X e t':=fun pins s σ H Q I q=>h pins s σ H Q I (i σ H Q q)
theorem j5{α β:Type}{x:Out α}{f:α->Out β}{b:β}(h:(x >>= f)=.ok b):∃ a,x=.ok a/\f a=.ok b:=by
 cases x with
 | ok a=>exact⟨a,rfl,h⟩
 | exc c fs=>cases h
 | bad=>cases h
section
variable{Γ:ly}{Z0 Z:Addr->Prop}{H0 H:Hp}{ρ:yK}{σ:L2.St}{c:Ex}{Q:VK}{own:Bool}{d:D}
end
end Mir
namespace Mir
open PySem PySem.Spec PyProof.Rows L2
section
variable{Z Z':Addr->Prop}{H H2 H':Hp}{d:D}{v:V}{bw own:Bool}
theorem bC{n:Nat}(h:small n=true):n<=sizeLine:=of_decide_eq_true h
end
section
variable{X:Cx}{Γ:ly}{bw:Bool}{a b e:Expr}{ca cb c:Ex}{pos:Pos}
noncomputable def fb:D->Option V
 | .non=>some .non
 | .bl b=>some (.bl b)
 | .int i=>some (.int i)
 | .str x=>some (.str x)
 | _=>none
theorem fc{Z:Addr->Prop}{H:Hp}{d:D}{v:V}(h:fb d=some v):Rep Z H d v:=by
 cases d<;>simp only[fb]at h<;>first | cases h;simp only[Rep] | cases h
end
section
variable{Z:Addr->Prop}{H:Hp}{x:V}
theorem fF(h:Now Z H .non x):x=.non:=by simpa only [Now,Rep] using h
theorem aY{i:Int}(h:Now Z H (.int i) x):x=.int i:=by simpa only [Now,Rep] using h
theorem gf{i:Bool}(h:Now Z H (.bl i) x):x=.bl i:=by simpa only [Now,Rep] using h
theorem cC{i:Str}(h:Now Z H (.str i) x):x=.str i:=by simpa only [Now,Rep] using h
theorem cD{ds:List D}(h:Now Z H (.lst ds) x):∃ a vs,x=.ref a/\Rd H a (.lst vs)/\aQ Z H ds vs:=h
theorem fG{ds:List D}(h:Now Z H (.tup ds) x):∃ a vs,x=.ref a/\Z a/\Rd H a (.tup vs)/\aQ Z H ds vs:=by simpa only [Now,Rep] using h
theorem jb{K:PySem.W.Frag}{a:Addr}{vs:List V}(h:Rd H a (.lst vs)):i7 K H a vs:=.inl h
theorem tL{K:PySem.W.Frag}{a:Addr}{vs:List V}(h:Rd H a (.tup vs)):fS K H a vs:=.inl h
theorem yL{bw:Bool}{Q:VK}{ds:List D}{vs:List V}(dom:∀ a,Z a->H a≠none)(hs:aQ Z H ds vs)
  (k:∀ v H' Z',dU Z H Z' H'->dn bw true Z' H H' (.lst ds) v->Q v H'):∀ p,H p=none->Q (.ref p) (upd H p (.lst vs)):=fun p hp=>
 k _ _ Z (dU.laid dom hp) (.own hp (fun z=>dom p z hp) bo (hs.mono (fun a o _=>lq.laid hp a o) fun _ z=>z))
end
section
variable{X:Cx}{Γ:ly}{bw:Bool}{a b e:Expr}{ca cb c:Ex}{pos:Pos}
def A0:R2:=fun x y H Q=>∃ l b xs zs,x=.ref l/\y=.ref b/\Rd H l (.lst xs)/\Rd H b (.lst zs)/\xs.length + zs.length<=sizeLine/\∀ p,H p=none->Q (.ref p) (upd H p (.lst (xs++zs)))
theorem yM:fT X (binaryOp .Add) A0:=by
 intro pins s σ H x y v u Q I rx ry h;obtain⟨l,b,xs,zs,rfl,rfl,hH,hB,hz,q⟩:=h;cases rx;cases ry;obtain⟨z,its,n,r,e⟩:xs.length<=sizeLine/\∃ (its:List Value) (n:Nat),Vals xs its/\s.heap.get? l=some { cls:=.type "list",data:=.seq its.toArray n }:=Rd.ok hH I.hok;obtain⟨z2,its2,n2,r2,e2⟩:zs.length<=sizeLine/\∃ (its:List Value) (n:Nat),Vals zs its/\s.heap.get? b=some { cls:=.type "list",data:=.seq its.toArray n }:=Rd.ok hB I.hok;have hl:=r.length;have hl2:=r2.length;refine PySem.P.add_list e e2 ?_ (by rw[List.size_toArray,List.size_toArray];omega)
 have ea:its.toArray++its2.toArray=(its++its2).toArray:=by simp
 rw[ea];exact⟨.ref _,_,I.Ks (t':=s.toks) (r.append r2) (by rw[List.length_append];omega),rfl,q _ I.fresh⟩
def yN(op:Operator):R2:=fun x y H Q=>match op with
 | .Add=>(∃ i j,x=.int i/\y=.int j/\Q (.int (i + j)) H)\/(∃ i j,x=.str i/\y=.str j/\i.length + j.length<=sizeLine/\Q (.str (i++j)) H)\/A0 x y H Q
 | .Sub=>∃ i j,x=.int i/\y=.int j/\Q (.int (i - j)) H
 | .Mult=>∃ i j,x=.int i/\y=.int j/\ym i j/\Q (.int (i * j)) H
 | .FloorDiv=>∃ i j,x=.int i/\y=.int j/\EH i j/\Q (.int (i / j)) H
 | .Mod=>∃ i j,x=.int i/\y=.int j/\0 < j/\Q (.int (i % j)) H
 | .Pow=>∃ i j,x=.int i/\y=.int j/\EJ i j/\Q (.int (i ^ j.toNat)) H
 | _=>False
theorem vx(op:Operator):fT X (binaryOp op) (yN op):=by
 cases op with
 | Add=>exact BI.or (pT.or yM)
 | Sub=>exact BJ
 | Mult=>exact BK
 | FloorDiv=>exact yo
 | Mod=>exact BL
 | Pow=>exact BN
 | _=>exact fun _ _ _ _ _ _ _ _ _ _ _ _ h=>h.elim
theorem B4{op:Operator}{dx dy:D}{x y:V}{Z:Addr->Prop}{H:Hp}{own:Bool}{d:D}{Q:VK}(nx:Now Z H dx x)(ny:Now Z H dy y)(dom:∀ a,Z a->H a≠none)(ee:e9 op dx dy=.ok (own,d))
  (k:∀ v H' Z',dU Z H Z' H'->dn bw own Z' H H' d v->Q v H'):yN op x y H Q:=by
 have flat:∀ {d':D} {v:V},fb d'=some v->Out.ok (false,d')=Out.ok (own,d)->Q v H:=fun hf q=>by
  cases q;exact k _ H Z (dU.refl dom) (.rep (fc hf))
 unfold e9 at ee;split at ee
 ·cases aY nx;cases aY ny
  exact .inl ⟨_,_,rfl,rfl,flat rfl ee⟩
 ·cases aY nx;cases aY ny
  exact⟨_,_,rfl,rfl,flat rfl ee⟩
 ·cases aY nx;cases aY ny
  split at ee
  ·rename_i hc
   refine⟨_,_,rfl,rfl,?_,flat rfl ee⟩;simp only[Bool.or_eq_true]at hc;have hc:=hc.imp oq oq;exact hc
  ·cases ee
 ·cases aY nx;cases aY ny
  split at ee
  ·rename_i hc
   refine⟨_,_,rfl,rfl,?_,flat rfl ee⟩;simp only[Bool.and_eq_true,decide_eq_true_eq]at hc;exact hc
  ·cases ee
 ·cases aY nx;cases aY ny
  split at ee
  ·rename_i hc
   exact⟨_,_,rfl,rfl,of_decide_eq_true hc,flat rfl ee⟩
  ·cases ee
 ·cases aY nx;cases aY ny
  split at ee
  ·rename_i hc
   refine⟨_,_,rfl,rfl,?_,flat rfl ee⟩;simp only[Bool.and_eq_true,decide_eq_true_eq]at hc;exact⟨hc.1.1,Int.le_trans hc.1.2 (by decide),hc.2⟩
  ·cases ee
 ·cases cC nx;cases cC ny
  split at ee
  ·rename_i hc
   exact .inr (.inl ⟨_,_,rfl,rfl,bC hc,flat rfl ee⟩)
  ·cases ee
 ·obtain⟨l,xs,rfl,h1,h2⟩:=cD nx
  obtain⟨m,zs,rfl,h3,h4⟩:=cD ny;split at ee
  ·rename_i hc
   cases ee;have hz:=bC hc;exact .inr (.inr ⟨l,m,xs,zs,rfl,rfl,h1,h3,by rw[h2.length,h4.length];exact hz,yL dom (h2.append h4) k⟩)
  ·cases ee
 ·cases ee
end
section
variable{Z:Addr->Prop}{H:Hp}
theorem mO{a:Addr}{u u':HO}(hn:∀ o w,u≠.jn o w)(hn':∀ o w,u'≠.jn o w)(h:Rd H a u)(h':Rd H a u'):u=u':=by
 rcases h with h | ⟨o,h⟩<;>rcases h' with h' | ⟨o',h'⟩<;>rw[h]at h'<;>injection h' with e
 ·exact absurd e (hn _ _)
 ·exact absurd e.symm (hn' _ _)
 ·injection e
theorem p_{a:Addr}{xs ys:List V}(h:Rd H a (.lst xs))(h':Rd H a (.lst ys)):xs=ys:=by
 have e:=mO (fun _ _ z=>by cases z) (fun _ _ z=>by cases z) h h'
 injection e
theorem qf{a:Addr}{xs ys:List V}(h:Rd H a (.tup xs))(h':Rd H a (.tup ys)):xs=ys:=by
 have e:=mO (fun _ _ z=>by cases z) (fun _ _ z=>by cases z) h h'
 injection e
theorem rK{a:Addr}{xs ys:List V}(h:Rd H a (.lst xs))(h':Rd H a (.tup ys)):False:=by
 have e:=mO (fun _ _ z=>by cases z) (fun _ _ z=>by cases z) h h'
 cases e
mutual
theorem Rep.uniq:∀ (n:Nat) (d d':D) (v:V),aH n d=true->aH n d'=true->Rep Z H d v->Rep Z H d' v->d=d'
 | n,.lst xs,d',v,o,o',h,h'=>by
  simp only[Rep]at h;obtain⟨a,vs,rfl,_,h1,h2⟩:=h;cases d'<;>simp only[Rep]at h'
  case lst ys=>
   obtain⟨b,ws,e,_,h3,h4⟩:=h';cases e;cases p_ h1 h3;cases n with
   | zero=>simp[aH]at o
   | succ n=>rw[aQ.uniq n xs ys vs (by simpa[aH] using o) (by simpa[aH] using o') h2 h4]
  case tup ys=>
   obtain⟨b,ws,e,_,h3,h4⟩:=h';cases e;exact(rK h1 h3).elim
  case dct ks ys=>cases n<;>simp[aH]at o'
  all_goals cases h'
 | n,.tup xs,d',v,o,o',h,h'=>by
  simp only[Rep]at h;obtain⟨a,vs,rfl,_,h1,h2⟩:=h;cases d'<;>simp only[Rep]at h'
  case tup ys=>
   obtain⟨b,ws,e,_,h3,h4⟩:=h';cases e;cases qf h1 h3;cases n with
   | zero=>simp[aH]at o
   | succ n=>rw[aQ.uniq n xs ys vs (by simpa[aH] using o) (by simpa[aH] using o') h2 h4]
  case lst ys=>
   obtain⟨b,ws,e,_,h3,h4⟩:=h';cases e;exact(rK h3 h1).elim
  case dct ks ys=>cases n<;>simp[aH]at o'
  all_goals cases h'
 | n,.dct ks xs,_,_,o,_,_,_=>by cases n<;>simp[aH]at o
 | n,.ref _,_,_,_,_,h,_=>by simp only[Rep]at h
 | n,.non,d',v,_,o',h,h'=>by
  simp only[Rep]at h;subst h
  cases d'<;>simp only[Rep]at h'<;>first | rfl | (obtain⟨_,_,e,_⟩:=h';cases e;done) | (cases h';done)
 | n,.bl b,d',v,_,o',h,h'=>by
  simp only[Rep]at h;subst h
  cases d'<;>simp only[Rep]at h'<;>first | (obtain⟨_,_,e,_⟩:=h';cases e;done) | (cases h';rfl) | (cases h';done)
 | n,.int b,d',v,_,o',h,h'=>by
  simp only[Rep]at h;subst h
  cases d'<;>simp only[Rep]at h'<;>first | (obtain⟨_,_,e,_⟩:=h';cases e;done) | (cases h';rfl) | (cases h';done)
 | n,.str b,d',v,_,o',h,h'=>by
  simp only[Rep]at h;subst h
  cases d'<;>simp only[Rep]at h'<;>first | (obtain⟨_,_,e,_⟩:=h';cases e;done) | (cases h';rfl) | (cases h';done)
theorem aQ.uniq:∀ (n:Nat) (xs ys:List D) (vs:List V),(∀ x∈xs,aH n x=true)->(∀ x∈ys,aH n x=true)->aQ Z H xs vs->aQ Z H ys vs->xs=ys
 | n,[],ys,vs,_,_,h,h'=>by
  rw[h.nil_inv]at h';cases ys with
  | nil=>rfl
  | cons y ys=>obtain⟨_,_,e,_⟩:=h'.cons_inv;cases e
 | n,x::xs,ys,vs,o,o',h,h'=>by
  obtain⟨v,r,rfl,h1,h2⟩:=h.cons_inv;cases ys with
  | nil=>exact absurd h'.nil_inv (by simp)
  | cons y ys=>
   obtain⟨w,r',e,h3,h4⟩:=h'.cons_inv;cases e;rw[Rep.uniq n x y v (o x (by simp)) (o' y (by simp)) h1 h3,aQ.uniq n xs ys r (fun z hz=>o z (by simp[hz])) (fun z hz=>o' z (by simp[hz])) h2 h4]
end
mutual
theorem ow:∀ (n:Nat) (d:D),aH n d=true->dS d d=true
 | n,.lst xs,o=>by
  cases n with
  | zero=>simp[aH]at o
  | succ n=>simp only[dS];exact fe n xs (by simpa[aH] using o)
 | n,.tup xs,o=>by
  cases n with
  | zero=>simp[aH]at o
  | succ n=>simp only[dS];exact fe n xs (by simpa[aH] using o)
 | n,.dct _ _,o=>by cases n<;>simp[aH]at o
 | n,.ref _,o=>by cases n<;>simp[aH]at o
 | n,.non,_=>by simp[dS]
 | n,.bl _,_=>by simp[dS]
 | n,.int _,_=>by simp[dS]
 | n,.str _,_=>by simp[dS]
theorem fe:∀ (n:Nat) (xs:List D),(∀ x∈xs,aH n x=true)->dA xs xs=true
 | n,[],_=>by simp[dA]
 | n,x::xs,o=>by
  simp only[dA,ow n x (o x (by simp)),fe n xs fun z hz=>o z (by simp[hz]),Bool.and_self]
end
theorem df:∀ (xs ys:List D),((List.range (min xs.length ys.length)).all (fun j=>dS (xs.getD j .non) (ys.getD j .non)) && (xs.length == ys.length))=dA xs ys
 | [],[]=>by simp[dA]
 | [],_::_=>by simp[dA]
 | _::_,[]=>by simp[dA]
 | x::xs,y::ys=>by
  have ih:=df xs ys;have e1:min (x::xs).length (y::ys).length=min xs.length ys.length + 1:=by simp only[List.length_cons];omega
  rw[e1,List.range_succ_eq_map,List.all_cons,List.all_map,dA,← ih];simp[Function.comp_def,Bool.and_assoc]
theorem j6{xs ys:List D}(h:xs.length=ys.length):(List.range xs.length).all (fun j=>dS (xs.getD j .non) (ys.getD j .non))=dA xs ys:=by
 have e:=df xs ys;rw[← h,Nat.min_self]at e;simpa using e
theorem mP{xs ys:List D}(h:xs.length≠ys.length):dA xs ys=false:=by
 rw[← df xs ys];simp[h]
end
inductive Vw (s:Shared) (Z:Addr->Prop) (H:Hp):D->Value->Prop where
 | non:Vw s Z H .non .none
 | bl (b:Bool):Vw s Z H (.bl b) (.bool b)
 | int (i:Int) (t:Tok):Vw s Z H (.int i) (.int i t)
 | str (x:Str) (t:Tok):Vw s Z H (.str x) (.str x t)
 | lst {l:Addr} {its:List Value} {vs:List V} {ds:List D}:s.heap.IsList l its.toArray->Vals vs its->Rd H l (.lst vs)/\aQ Z H ds vs->Vw s Z H (.lst ds) (.ref l)
 | tup {l:Addr} {its:List Value} {vs:List V} {ds:List D}:s.heap.IsTuple l its.toArray->Vals vs its->Rd H l (.tup vs)/\aQ Z H ds vs->Vw s Z H (.tup ds) (.ref l)
section
variable{X:Cx}{pins:List (Addr×Obj)}{σ:L2.St}{Z:Addr->Prop}{H:Hp}{s:Shared}{A:Around}
theorem fQ{n:Nat}{d:D}{v:V}{u:Value}(I:Inv X pins σ H s)(nw:Now Z H d v)(r:RelV v u)(o:aH n d=true):Vw s Z H d u:=by
 cases d with
 | non=>cases fF nw;cases r;exact .non
 | bl b=>cases gf nw;cases r;exact .bl b
 | int b=>cases aY nw;obtain⟨t,rfl⟩:=r;exact .int b t
 | str b=>cases cC nw;obtain⟨t,rfl⟩:=r;exact .str b t
 | lst ds=>
  obtain⟨a,vs,rfl,h1,h2⟩:=cD nw;cases r;obtain⟨its,rv,p,hz⟩:=I.list (jb (K:=X.K) h1);exact .lst p.isList rv ⟨h1,h2⟩
 | tup ds=>
  obtain⟨a,vs,rfl,_,h1,h2⟩:=fG nw;cases r;obtain⟨its,rv,p,hz⟩:=I.tuple (tL (K:=X.K) h1);exact .tup p rv ⟨h1,h2⟩
 | dct ks ds=>cases n<;>simp[aH]at o
 | ref k=>cases n<;>simp[aH]at o
theorem mQ{vs:List V}{its:List Value}(r:Vals vs its){j:Nat}(hj:j < its.length):∃ v,vs[j]?=some v/\RelV v its[j]:=by
 have hl:=r.length;have h1:vs[j]?=some vs[j]:=by simp[show j < vs.length by omega]
 obtain⟨u,h2,h3⟩:=r.get h1;rw[List.getElem?_eq_getElem hj]at h2;cases h2;exact⟨_,h1,h3⟩
theorem ff{n:Nat}(I:Inv X pins σ H s)(ih:∀ (A:Around) (dx dy:D) (u w:Value),A.units + n < cLine->aH n dx=true->aH n dy=true->Vw s Z H dx u->Vw s Z H dy w->SeqAt.EqAt A s u w (dS dx dy))
  {ds es:List D} (ox:∀ x∈ds,aH n x=true) (oy:∀ x∈es,aH n x=true) (hu:A.units + (n + 1) < cLine) {vs ws:List V} {its its2:List Value} (rl:Vals vs its) (rm:Vals ws its2) (pl:aQ Z H ds vs) (pm:aQ Z H es ws) :
  ∀ j (h1:j < its.toArray.size) (h2:j < its2.toArray.size),SeqAt.EqAt A.in1 s its.toArray[j] its2.toArray[j] (dS (ds.getD j .non) (es.getD j .non)):=by
 intro j h1 h2;have n1:=rl.length;have n2:=rm.length;have k1:=pl.length;have k2:=pm.length;simp only[List.size_toArray]at h1 h2;simp only[List.getElem_toArray];obtain⟨v,hv,rv⟩:=mQ rl h1;obtain⟨w,hw,xX⟩:=mQ rm h2;have e1:ds[j]?=some (ds.getD j .non):=by simp[List.getD,show j < ds.length by omega]
 have e2:es[j]?=some (es.getD j .non):=by simp[List.getD,show j < es.length by omega]
 obtain⟨v',hv',p1⟩:=pl.get e1;obtain⟨w',hw',p2⟩:=pm.get e2;rw[hv]at hv';cases hv'
 rw[hw]at hw';cases hw'
 have o1:=ox _ (List.mem_of_getElem? e1);have o2:=oy _ (List.mem_of_getElem? e2);exact ih A.in1 _ _ _ _ (by show A.units + 1 + n < cLine;omega) o1 o2 (fQ I p1.now rv o1) (fQ I p2.now xX o2)
theorem fg(I:Inv X pins σ H s):∀ (n:Nat) (A:Around) (dx dy:D) (u w:Value),A.units + n < cLine->aH n dx=true->aH n dy=true->Vw s Z H dx u->Vw s Z H dy w->SeqAt.EqAt A s u w (dS dx dy):=by
 intro n
 induction n with
 | zero=>
  intro A dx dy u w hn ox oy hx hy;have hu:A.units < cLine:=by omega
  cases hx with
  | non=>
   cases hy with
   | non=>exact SeqAt.EqAt.same _
   | bl b2=>exact SeqAt.EqAt.none_bool _
   | int i2 t2=>exact SeqAt.EqAt.none_int _ _
   | str x2 t2=>exact SeqAt.EqAt.none_str _ _
   | @lst m its2 vs2 cN hm rm pm=>exact SeqAt.EqAt.none_list hm hu
   | @tup m its2 vs2 cN hm rm pm=>exact SeqAt.EqAt.none_tuple hm hu
  | bl b=>
   cases hy with
   | non=>exact SeqAt.EqAt.bool_none _
   | bl b2=>exact SeqAt.EqAt.bool_bool _ _
   | int i2 t2=>exact SeqAt.EqAt.bool_int _ _ _
   | str x2 t2=>exact SeqAt.EqAt.bool_str _ _ _
   | @lst m its2 vs2 cN hm rm pm=>exact SeqAt.EqAt.bool_list _ hm hu
   | @tup m its2 vs2 cN hm rm pm=>exact SeqAt.EqAt.bool_tuple _ hm hu
  | int i t=>
   cases hy with
   | non=>exact SeqAt.EqAt.int_none _ _
   | bl b2=>exact SeqAt.EqAt.int_bool _ _ _
   | int i2 t2=>exact SeqAt.EqAt.int_int _ _ _ _
   | str x2 t2=>exact SeqAt.EqAt.int_str _ _ _ _
   | @lst m its2 vs2 cN hm rm pm=>exact SeqAt.EqAt.int_list _ _ hm hu
   | @tup m its2 vs2 cN hm rm pm=>exact SeqAt.EqAt.int_tuple _ _ hm hu
  | str x t=>
   cases hy with
   | non=>exact SeqAt.EqAt.str_none _ _
   | bl b2=>exact SeqAt.EqAt.str_bool _ _ _
   | int i2 t2=>exact SeqAt.EqAt.str_int _ _ _ _
   | str x2 t2=>exact SeqAt.EqAt.str_str _ _ _ _
   | @lst m its2 vs2 cN hm rm pm=>exact SeqAt.EqAt.str_list _ _ hm hu
   | @tup m its2 vs2 cN hm rm pm=>exact SeqAt.EqAt.str_tuple _ _ hm hu
  | @lst l its vs ds hl rl pl=>
   cases hy with
   | non=>exact SeqAt.EqAt.list_none hl hu
   | bl b2=>exact SeqAt.EqAt.list_bool _ hl hu
   | int i2 t2=>exact SeqAt.EqAt.list_int _ _ hl hu
   | str x2 t2=>exact SeqAt.EqAt.list_str _ _ hl hu
   | @lst m its2 vs2 cN hm rm pm=>
    simp[aH]at ox
   | @tup m its2 vs2 cN hm rm pm=>exact SeqAt.EqAt.list_tuple hl hm hu
  | @tup l its vs ds hl rl pl=>
   cases hy with
   | non=>exact SeqAt.EqAt.tuple_none hl hu
   | bl b2=>exact SeqAt.EqAt.tuple_bool _ hl hu
   | int i2 t2=>exact SeqAt.EqAt.tuple_int _ _ hl hu
   | str x2 t2=>exact SeqAt.EqAt.tuple_str _ _ hl hu
   | @lst m its2 vs2 cN hm rm pm=>exact SeqAt.EqAt.tuple_list hl hm hu
   | @tup m its2 vs2 cN hm rm pm=>
    simp[aH]at ox
 | succ n ih=>
  intro A dx dy u w hn ox oy hx hy;have hu:A.units < cLine:=by omega
  cases hx with
  | non=>
   cases hy with
   | non=>exact SeqAt.EqAt.same _
   | bl b2=>exact SeqAt.EqAt.none_bool _
   | int i2 t2=>exact SeqAt.EqAt.none_int _ _
   | str x2 t2=>exact SeqAt.EqAt.none_str _ _
   | @lst m its2 vs2 cN hm rm pm=>exact SeqAt.EqAt.none_list hm hu
   | @tup m its2 vs2 cN hm rm pm=>exact SeqAt.EqAt.none_tuple hm hu
  | bl b=>
   cases hy with
   | non=>exact SeqAt.EqAt.bool_none _
   | bl b2=>exact SeqAt.EqAt.bool_bool _ _
   | int i2 t2=>exact SeqAt.EqAt.bool_int _ _ _
   | str x2 t2=>exact SeqAt.EqAt.bool_str _ _ _
   | @lst m its2 vs2 cN hm rm pm=>exact SeqAt.EqAt.bool_list _ hm hu
   | @tup m its2 vs2 cN hm rm pm=>exact SeqAt.EqAt.bool_tuple _ hm hu
  | int i t=>
   cases hy with
   | non=>exact SeqAt.EqAt.int_none _ _
   | bl b2=>exact SeqAt.EqAt.int_bool _ _ _
   | int i2 t2=>exact SeqAt.EqAt.int_int _ _ _ _
   | str x2 t2=>exact SeqAt.EqAt.int_str _ _ _ _
   | @lst m its2 vs2 cN hm rm pm=>exact SeqAt.EqAt.int_list _ _ hm hu
   | @tup m its2 vs2 cN hm rm pm=>exact SeqAt.EqAt.int_tuple _ _ hm hu
  | str x t=>
   cases hy with
   | non=>exact SeqAt.EqAt.str_none _ _
   | bl b2=>exact SeqAt.EqAt.str_bool _ _ _
   | int i2 t2=>exact SeqAt.EqAt.str_int _ _ _ _
   | str x2 t2=>exact SeqAt.EqAt.str_str _ _ _ _
   | @lst m its2 vs2 cN hm rm pm=>exact SeqAt.EqAt.str_list _ _ hm hu
   | @tup m its2 vs2 cN hm rm pm=>exact SeqAt.EqAt.str_tuple _ _ hm hu
  | @lst l its vs ds hl rl pl=>
   cases hy with
   | non=>exact SeqAt.EqAt.list_none hl hu
   | bl b2=>exact SeqAt.EqAt.list_bool _ hl hu
   | int i2 t2=>exact SeqAt.EqAt.list_int _ _ hl hu
   | str x2 t2=>exact SeqAt.EqAt.list_str _ _ hl hu
   | @lst m its2 vs2 cN hm rm pm=>
    have n1:=rl.length;have n2:=rm.length;have k1:=pl.2.length;have k2:=pm.2.length;simp only[dS]
    by_cases hll:l=m
    ·subst hll
     have e0:=p_ pl.1 pm.1;subst e0;have e1:=aQ.uniq n ds cN vs (by simpa[aH] using ox) (by simpa[aH] using oy) pl.2 pm.2
     subst e1;rw[fe n ds (by simpa[aH] using ox)]
     exact SeqAt.EqAt.same _
    ·refine SeqAt.EqAt.of_refs hll ?_
     by_cases hsz:ds.length=cN.length
     ·rw[← j6 hsz]
      have:=SeqAt.RcAt.lists hl hm (by simp only[List.size_toArray];omega) hu (ff I ih (by simpa[aH] using ox) (by simpa[aH] using oy) hn rl rm pl.2 pm.2)
      rw[show its.toArray.size=ds.length by simp only[List.size_toArray];omega]at this
      exact this
     ·rw[mP hsz]
      exact SeqAt.RcAt.lists_lengths hl hm (by simp only[List.size_toArray,bne_iff_ne];omega) hu
   | @tup m its2 vs2 cN hm rm pm=>exact SeqAt.EqAt.list_tuple hl hm hu
  | @tup l its vs ds hl rl pl=>
   cases hy with
   | non=>exact SeqAt.EqAt.tuple_none hl hu
   | bl b2=>exact SeqAt.EqAt.tuple_bool _ hl hu
   | int i2 t2=>exact SeqAt.EqAt.tuple_int _ _ hl hu
   | str x2 t2=>exact SeqAt.EqAt.tuple_str _ _ hl hu
   | @lst m its2 vs2 cN hm rm pm=>exact SeqAt.EqAt.tuple_list hl hm hu
   | @tup m its2 vs2 cN hm rm pm=>
    have n1:=rl.length;have n2:=rm.length;have k1:=pl.2.length;have k2:=pm.2.length;simp only[dS]
    by_cases hll:l=m
    ·subst hll
     have e0:=qf pl.1 pm.1;subst e0;have e1:=aQ.uniq n ds cN vs (by simpa[aH] using ox) (by simpa[aH] using oy) pl.2 pm.2
     subst e1;rw[fe n ds (by simpa[aH] using ox)]
     exact SeqAt.EqAt.same _
    ·refine SeqAt.EqAt.of_refs hll ?_
     rw[← df ds cN];have:=SeqAt.RcAt.tuples hl hm hu (ff I ih (by simpa[aH] using ox) (by simpa[aH] using oy) hn rl rm pl.2 pm.2)
     rw[show its.toArray.size=ds.length by simp only[List.size_toArray];omega,show its2.toArray.size=cN.length by simp only[List.size_toArray];omega]at this
     exact this
theorem vy(I:Inv X pins σ H s){n:Nat}{dx dy:D}{u w:Value}(hn:A.units + (n + 1) < cLine)(ox:aH (n + 1) dx=true)(oy:aH (n + 1) dy=true)(hx:Vw s Z H dx u)(hy:Vw s Z H dy w):SeqAt.RcAt A s u w (dS dx dy):=by
 have hu:A.units < cLine:=by omega
 cases hx with
 | non=>
  cases hy with
  | non=>exact SeqAt.RcAt.none_none
  | bl b2=>exact SeqAt.RcAt.none_bool _
  | int i2 t2=>exact SeqAt.RcAt.none_int _ _
  | str x2 t2=>exact SeqAt.RcAt.none_str _ _
  | @lst m its2 vs2 cN hm rm pm=>exact SeqAt.RcAt.none_list hm hu
  | @tup m its2 vs2 cN hm rm pm=>exact SeqAt.RcAt.none_tuple hm hu
 | bl b=>
  cases hy with
  | non=>exact SeqAt.RcAt.bool_none _
  | bl b2=>exact SeqAt.RcAt.bool_bool _ _
  | int i2 t2=>exact SeqAt.RcAt.bool_int _ _ _
  | str x2 t2=>exact SeqAt.RcAt.bool_str _ _ _
  | @lst m its2 vs2 cN hm rm pm=>exact SeqAt.RcAt.bool_list _ hm hu
  | @tup m its2 vs2 cN hm rm pm=>exact SeqAt.RcAt.bool_tuple _ hm hu
 | int i t=>
  cases hy with
  | non=>exact SeqAt.RcAt.int_none _ _
  | bl b2=>exact SeqAt.RcAt.int_bool _ _ _
  | int i2 t2=>exact SeqAt.RcAt.int_int _ _ _ _
  | str x2 t2=>exact SeqAt.RcAt.int_str _ _ _ _
  | @lst m its2 vs2 cN hm rm pm=>exact SeqAt.RcAt.int_list _ _ hm hu
  | @tup m its2 vs2 cN hm rm pm=>exact SeqAt.RcAt.int_tuple _ _ hm hu
 | str x t=>
  cases hy with
  | non=>exact SeqAt.RcAt.str_none _ _
  | bl b2=>exact SeqAt.RcAt.str_bool _ _ _
  | int i2 t2=>exact SeqAt.RcAt.str_int _ _ _ _
  | str x2 t2=>exact SeqAt.RcAt.str_str _ _ _ _
  | @lst m its2 vs2 cN hm rm pm=>exact SeqAt.RcAt.str_list _ _ hm hu
  | @tup m its2 vs2 cN hm rm pm=>exact SeqAt.RcAt.str_tuple _ _ hm hu
 | @lst l its vs ds hl rl pl=>
  cases hy with
  | non=>exact SeqAt.RcAt.list_none hl hu
  | bl b2=>exact SeqAt.RcAt.list_bool _ hl hu
  | int i2 t2=>exact SeqAt.RcAt.list_int _ _ hl hu
  | str x2 t2=>exact SeqAt.RcAt.list_str _ _ hl hu
  | @lst m its2 vs2 cN hm rm pm=>
   have n1:=rl.length;have n2:=rm.length;have k1:=pl.2.length;have k2:=pm.2.length;simp only[dS]
   by_cases hsz:ds.length=cN.length
   ·rw[← j6 hsz]
    have:=SeqAt.RcAt.lists hl hm (by simp only[List.size_toArray];omega) hu (ff I (fg I n) (by simpa[aH] using ox) (by simpa[aH] using oy) hn rl rm pl.2 pm.2)
    rw[show its.toArray.size=ds.length by simp only[List.size_toArray];omega]at this
    exact this
   ·rw[mP hsz]
    exact SeqAt.RcAt.lists_lengths hl hm (by simp only[List.size_toArray,bne_iff_ne];omega) hu
  | @tup m its2 vs2 cN hm rm pm=>exact SeqAt.RcAt.list_tuple hl hm hu
 | @tup l its vs ds hl rl pl=>
  cases hy with
  | non=>exact SeqAt.RcAt.tuple_none hl hu
  | bl b2=>exact SeqAt.RcAt.tuple_bool _ hl hu
  | int i2 t2=>exact SeqAt.RcAt.tuple_int _ _ hl hu
  | str x2 t2=>exact SeqAt.RcAt.tuple_str _ _ hl hu
  | @lst m its2 vs2 cN hm rm pm=>exact SeqAt.RcAt.tuple_list hl hm hu
  | @tup m its2 vs2 cN hm rm pm=>
   have n1:=rl.length;have n2:=rm.length;have k1:=pl.2.length;have k2:=pm.2.length;simp only[dS];rw[← df ds cN];have:=SeqAt.RcAt.tuples hl hm hu (ff I (fg I n) (by simpa[aH] using ox) (by simpa[aH] using oy) hn rl rm pl.2 pm.2)
   rw[show its.toArray.size=ds.length by simp only[List.size_toArray];omega,show its2.toArray.size=cN.length by simp only[List.size_toArray];omega]at this
   exact this
theorem qh(I:Inv X pins σ H s){n:Nat}{dx dy:D}{u w:Value}(hn:A.units + (n + 1) < cLine)(ox:aH (n + 1) dx=true)(oy:aH (n + 1) dy=true)(hx:Vw s Z H dx u)(hy:Vw s Z H dy w):SeqAt.RcNeAt A s u w (!dS dx dy):=by
 have hu:A.units < cLine:=by omega
 cases hx with
 | non=>
  cases hy with
  | non=>exact SeqAt.RcNeAt.none_none
  | bl b2=>exact SeqAt.RcNeAt.none_bool _
  | int i2 t2=>exact SeqAt.RcNeAt.none_int _ _
  | str x2 t2=>exact SeqAt.RcNeAt.none_str _ _
  | @lst m its2 vs2 cN hm rm pm=>exact SeqAt.RcNeAt.none_list hm hu
  | @tup m its2 vs2 cN hm rm pm=>exact SeqAt.RcNeAt.none_tuple hm hu
 | bl b=>
  cases hy with
  | non=>exact SeqAt.RcNeAt.bool_none _
  | bl b2=>exact SeqAt.RcNeAt.bool_bool _ _
  | int i2 t2=>exact SeqAt.RcNeAt.bool_int _ _ _
  | str x2 t2=>exact SeqAt.RcNeAt.bool_str _ _ _
  | @lst m its2 vs2 cN hm rm pm=>exact SeqAt.RcNeAt.bool_list _ hm hu
  | @tup m its2 vs2 cN hm rm pm=>exact SeqAt.RcNeAt.bool_tuple _ hm hu
 | int i t=>
  cases hy with
  | non=>exact SeqAt.RcNeAt.int_none _ _
  | bl b2=>exact SeqAt.RcNeAt.int_bool _ _ _
  | int i2 t2=>exact SeqAt.RcNeAt.int_int _ _ _ _
  | str x2 t2=>exact SeqAt.RcNeAt.int_str _ _ _ _
  | @lst m its2 vs2 cN hm rm pm=>exact SeqAt.RcNeAt.int_list _ _ hm hu
  | @tup m its2 vs2 cN hm rm pm=>exact SeqAt.RcNeAt.int_tuple _ _ hm hu
 | str x t=>
  cases hy with
  | non=>exact SeqAt.RcNeAt.str_none _ _
  | bl b2=>exact SeqAt.RcNeAt.str_bool _ _ _
  | int i2 t2=>exact SeqAt.RcNeAt.str_int _ _ _ _
  | str x2 t2=>exact SeqAt.RcNeAt.str_str _ _ _ _
  | @lst m its2 vs2 cN hm rm pm=>exact SeqAt.RcNeAt.str_list _ _ hm hu
  | @tup m its2 vs2 cN hm rm pm=>exact SeqAt.RcNeAt.str_tuple _ _ hm hu
 | @lst l its vs ds hl rl pl=>
  cases hy with
  | non=>exact SeqAt.RcNeAt.list_none hl hu
  | bl b2=>exact SeqAt.RcNeAt.list_bool _ hl hu
  | int i2 t2=>exact SeqAt.RcNeAt.list_int _ _ hl hu
  | str x2 t2=>exact SeqAt.RcNeAt.list_str _ _ hl hu
  | @lst m its2 vs2 cN hm rm pm=>
   have n1:=rl.length;have n2:=rm.length;have k1:=pl.2.length;have k2:=pm.2.length;simp only[dS]
   by_cases hsz:ds.length=cN.length
   ·rw[← j6 hsz]
    have:=SeqAt.RcNeAt.lists hl hm (by simp only[List.size_toArray];omega) hu (ff I (fg I n) (by simpa[aH] using ox) (by simpa[aH] using oy) hn rl rm pl.2 pm.2)
    rw[show its.toArray.size=ds.length by simp only[List.size_toArray];omega]at this
    exact this
   ·rw[mP hsz]
    exact SeqAt.RcNeAt.lists_lengths hl hm (by simp only[List.size_toArray,bne_iff_ne];omega) hu
  | @tup m its2 vs2 cN hm rm pm=>exact SeqAt.RcNeAt.list_tuple hl hm hu
 | @tup l its vs ds hl rl pl=>
  cases hy with
  | non=>exact SeqAt.RcNeAt.tuple_none hl hu
  | bl b2=>exact SeqAt.RcNeAt.tuple_bool _ hl hu
  | int i2 t2=>exact SeqAt.RcNeAt.tuple_int _ _ hl hu
  | str x2 t2=>exact SeqAt.RcNeAt.tuple_str _ _ hl hu
  | @lst m its2 vs2 cN hm rm pm=>exact SeqAt.RcNeAt.tuple_list hl hm hu
  | @tup m its2 vs2 cN hm rm pm=>
   have n1:=rl.length;have n2:=rm.length;have k1:=pl.2.length;have k2:=pm.2.length;simp only[dS];rw[← df ds cN];have:=SeqAt.RcNeAt.tuples hl hm hu (ff I (fg I n) (by simpa[aH] using ox) (by simpa[aH] using oy) hn rl rm pl.2 pm.2)
   rw[show its.toArray.size=ds.length by simp only[List.size_toArray];omega,show its2.toArray.size=cN.length by simp only[List.size_toArray];omega]at this
   exact this
end
end Mir
namespace Mir
open PySem PySem.Spec PyProof.Rows L2
theorem Vw.uniq{s:Shared}{Z:Addr->Prop}{H:Hp}{n:Nat}{d d':D}{u:Value}(h:Vw s Z H d u)(h':Vw s Z H d' u)(o:aH n d=true)(o':aH n d'=true):d=d':=by
 cases h with
 | non=>cases h';rfl
 | bl b=>cases h';rfl
 | int i t=>cases h';rfl
 | str x t=>cases h';rfl
 | @lst l its vs ds hl rl pl=>
  cases h' with
  | @lst _ its2 vs2 cN hm rm pm=>
   cases p_ pl.1 pm.1;cases n with
   | zero=>simp[aH]at o
   | succ n=>rw[aQ.uniq n ds cN vs (by simpa[aH] using o) (by simpa[aH] using o') pl.2 pm.2]
  | @tup _ its2 vs2 cN hm rm pm=>exact(rK pl.1 pm.1).elim
 | @tup l its vs ds hl rl pl=>
  cases h' with
  | @tup _ its2 vs2 cN hm rm pm=>
   cases qf pl.1 pm.1;cases n with
   | zero=>simp[aH]at o
   | succ n=>rw[aQ.uniq n ds cN vs (by simpa[aH] using o) (by simpa[aH] using o') pl.2 pm.2]
  | @lst _ its2 vs2 cN hm rm pm=>exact(rK pm.1 pl.1).elim
section
variable{X:Cx}{pins:List (Addr×Obj)}{σ:L2.St}{Z:Addr->Prop}{H:Hp}{s:Shared}
def ju(s:Shared)(Z:Addr->Prop)(H:Hp)(dx:D)(u:Value):Bool:=@decide (∃ d,aH 8 d=true/\Vw s Z H d u/\dS d dx=true) (Classical.propDecidable _)
theorem rL{dx d:D}{u:Value}(o:aH 8 d=true)(h:Vw s Z H d u):ju s Z H dx u=dS d dx:=by
 unfold ju;cases e:dS d dx with
 | true=>exact @decide_eq_true _ (Classical.propDecidable _) ⟨d,o,h,e⟩
 | false=>
  refine @decide_eq_false _ (Classical.propDecidable _) ?_;rintro⟨d',o',h',e'⟩;rw[Vw.uniq h' h o' o,e]at e';cases e'
theorem j7(I:Inv X pins σ H s){dx:D}:∀ {ds:List D} {vs:List V} {its:List Value},aQ Z H ds vs->Vals vs its->(∀ d∈ds,aH 8 d=true)->its.any (ju s Z H dx)=ds.any fun d=>dS d dx
 | [],_,_,h,r,_=>by rw[h.nil_inv]at r;cases r;rfl
 | d::ds,_,_,h,r,o=>by
  obtain⟨v,vr,rfl,h1,h2⟩:=h.cons_inv;cases r with
  | cons r1 r2=>
   rw[List.any_cons,List.any_cons,j7 I h2 r2 fun z hz=>o z (by simp[hz]),rL (o d (by simp)) (fQ I h1.now r1 (o d (by simp)))]
theorem j8(I:Inv X pins σ H s){A:Around}{dx:D}{w:Value}(hu:A.units + 8 < cLine)(ox:aH 8 dx=true)(hx:Vw s Z H dx w) :
  ∀ {ds:List D} {vs:List V} {its:List Value},aQ Z H ds vs->Vals vs its->(∀ d∈ds,aH 8 d=true)->∀ u∈its,SeqAt.EqAt A s u w (ju s Z H dx u)
 | [],_,_,h,r,_,u,hm=>by rw[h.nil_inv]at r;cases r;simp at hm
 | d::ds,_,_,h,r,o,u,hm=>by
  obtain⟨v,vr,rfl,h1,h2⟩:=h.cons_inv;cases r with
  | cons r1 r2=>
   rcases List.mem_cons.mp hm with e | hm
   ·subst e
    have vw:=fQ I h1.now r1 (o d (by simp))
    rw[rL (o d (by simp)) vw]
    exact fg I 8 A d dx _ w hu (o d (by simp)) ox vw hx
   ·exact j8 I hu ox hx h2 r2 (fun z hz=>o z (by simp[hz])) u hm
end
section
variable{X:Cx}{Γ:ly}{bw:Bool}{a b e:Expr}{ca cb cc c:Ex}{pos:Pos}
def vz(op:CmpOp):R2:=fun x y H Q=>∃ Z dx dy k,Now Z H dx x/\Now Z H dy y/\dF op dx dy=.ok k/\Q (.bl k) H
theorem oA{Z:Addr->Prop}{H:Hp}{ks:List L2.Key}{ds:List D}{x:V}(h:Now Z H (.dct ks ds) x):∃ a,x=.ref a:=by
 have h:Rep Z H (.dct ks ds) x:=h;simp only[Rep]at h;obtain⟨a,_,e,_⟩:=h;exact⟨a,e⟩
theorem A1{Z:Addr->Prop}{H:Hp}{dx dy:D}{x y:V}{k:Bool}{u v:Value}(nx:Now Z H dx x)(ny:Now Z H dy y)(rx:RelV x u)(ry:RelV y v)(h:isD dx dy=.ok k):plainIs u v=true/\(u == v)=k:=by
 have yO:∀ {ds:List D} {x:V} {u:Value},Now Z H (.lst ds) x->RelV x u->∃ a,u=.ref a:=fun n r=>by
  obtain⟨a,_,rfl,_⟩:=cD n;exact⟨a,r⟩
 have Fh:∀ {ds:List D} {x:V} {u:Value},Now Z H (.tup ds) x->RelV x u->∃ a,u=.ref a:=fun n r=>by
  obtain⟨a,_,rfl,_⟩:=fG n;exact⟨a,r⟩
 cases dy with
 | non=>
  cases fF ny;cases ry;cases dx with
  | non=>cases fF nx;cases rx;cases h;exact⟨rfl,rfl⟩
  | bl b=>cases gf nx;cases rx;cases h;exact⟨rfl,rfl⟩
  | int i=>cases aY nx;obtain⟨t,rfl⟩:=rx;cases h;exact⟨rfl,rfl⟩
  | str i=>cases cC nx;obtain⟨t,rfl⟩:=rx;cases h;exact⟨rfl,rfl⟩
  | lst ds=>obtain⟨a,rfl⟩:=yO nx rx;cases h;exact⟨rfl,rfl⟩
  | tup ds=>obtain⟨a,rfl⟩:=Fh nx rx;cases h;exact⟨rfl,rfl⟩
  | dct ks ds=>obtain⟨a,rfl⟩:=oA nx;cases rx;cases h;exact⟨rfl,rfl⟩
  | ref n=>exact(show False by simpa only [Now,Rep] using nx).elim
 | bl c=>
  cases gf ny;cases ry;cases dx with
  | non=>cases fF nx;cases rx;cases h;exact⟨rfl,rfl⟩
  | bl b=>cases gf nx;cases rx;cases h;exact⟨rfl,by cases b<;>cases c<;>rfl⟩
  | int i=>cases aY nx;obtain⟨t,rfl⟩:=rx;cases h;exact⟨rfl,rfl⟩
  | str i=>cases cC nx;obtain⟨t,rfl⟩:=rx;cases h;exact⟨rfl,rfl⟩
  | lst ds=>obtain⟨a,rfl⟩:=yO nx rx;cases h;exact⟨rfl,rfl⟩
  | tup ds=>obtain⟨a,rfl⟩:=Fh nx rx;cases h;exact⟨rfl,rfl⟩
  | dct ks ds=>cases h
  | ref n=>cases h
 | int _=>cases dx<;>cases h
 | str _=>cases dx<;>cases h
 | lst _=>cases dx<;>cases h
 | tup _=>cases dx<;>cases h
 | dct _ _=>cases dx<;>cases h
 | ref _=>cases dx<;>cases h
theorem A2{pins:List (Addr×Obj)}{s:Shared}{σ:L2.St}{H:Hp}{x y:V}{u v:Value}{Q:VK}(hu:X.A.units + 64 < cLine)(I:Inv X pins σ H s)(rx:RelV x u)(ry:RelV y v)
  {Z:Addr->Prop} {dx dy:D} {k:Bool} (nx:Now Z H dx x) (ny:Now Z H dy y) (e:inD dx dy=.ok k) :
  (Q (.bl k) H->wpAny (model X.prog X.w) X.A (compareOp .In u v) (EP X pins σ Q) X.xe s)/\(Q (.bl !k) H->wpAny (model X.prog X.w) X.A (compareOp .NotIn u v) (EP X pins σ Q) X.xe s):=by
 unfold inD at e;split at e
 ·rename_i ys
  split at e
  ·rename_i hc
   cases e;simp only[Bool.and_eq_true]at hc;obtain⟨ox,os⟩:=hc;have os:=List.all_eq_true.mp os;obtain⟨l,vs,rfl,h1,h2⟩:=cD ny;cases ry;obtain⟨its,rv,p,hz⟩:=I.list (jb (K:=X.K) h1);have vw:=fQ I nx rx ox;have hm:∀ w,w∈its.toArray->SeqAt.EqAt X.A.in1 s w u (ju s Z H dx w):=fun w hw=>j8 I (A:=X.A.in1) (by show X.A.units + 1 + 8 < cLine;omega) ox vw h2 rv os w (by simpa using hw)
   have ea:its.toArray.any (ju s Z H dx)=ys.any fun y=>dS y dx:=by
    rw[← j7 I h2 rv os];simp
   exact⟨fun q=>SeqAt.in_listAt (ju s Z H dx) p.isList hm ⟨.bl _,H,I,rfl,by rw[ea];exact q⟩,fun q=>SeqAt.notIn_listAt (ju s Z H dx) p.isList hm ⟨.bl _,H,I,rfl,by rw[ea];exact q⟩⟩
  ·cases e
 ·rename_i ys
  split at e
  ·rename_i hc
   cases e;simp only[Bool.and_eq_true]at hc;obtain⟨ox,os⟩:=hc;have os:=List.all_eq_true.mp os;obtain⟨l,vs,rfl,_,h1,h2⟩:=fG ny;cases ry;obtain⟨its,rv,p,hz⟩:=I.tuple (tL (K:=X.K) h1);have vw:=fQ I nx rx ox;have hm:∀ w,w∈its.toArray->SeqAt.EqAt X.A.in1 s w u (ju s Z H dx w):=fun w hw=>j8 I (A:=X.A.in1) (by show X.A.units + 1 + 8 < cLine;omega) ox vw h2 rv os w (by simpa using hw)
   have ea:its.toArray.any (ju s Z H dx)=ys.any fun y=>dS y dx:=by
    rw[← j7 I h2 rv os];simp
   exact⟨fun q=>SeqAt.in_tupleAt (ju s Z H dx) p hm ⟨.bl _,H,I,rfl,by rw[ea];exact q⟩,fun q=>SeqAt.notIn_tupleAt (ju s Z H dx) p hm ⟨.bl _,H,I,rfl,by rw[ea];exact q⟩⟩
  ·cases e
 ·cases e
  cases cC nx;cases cC ny;exact⟨fun q=>tw pins s σ H _ _ u v Q I rx ry ⟨_,_,rfl,rfl,q⟩,fun q=>mz pins s σ H _ _ u v Q I rx ry ⟨_,_,rfl,rfl,q⟩⟩
 ·cases e
theorem iU(hu:X.A.units + 64 < cLine)(op:CmpOp):fT X (compareOp op) (vz op):=by
 intro pins s σ H x y u v Q I rx ry h;obtain⟨Z,dx,dy,k,nx,ny,e,q⟩:=h;have fin:EP X pins σ Q (.bool k) s:=⟨.bl k,H,I,rfl,q⟩
 have intc:∀ {i j:Int} {o:CmpOp} {g:Int->Int->Bool},fT X (compareOp o) (yj fun i j=>.bl (g i j))->dx=.int i->dy=.int j->k=g i j->wpAny (model X.prog X.w) X.A (compareOp o u v) (EP X pins σ Q) X.xe s:=by
  intro i j o g h1 e1 e2 e3;subst e1 e2 e3;cases aY nx;cases aY ny;exact h1 pins s σ H _ _ u v Q I rx ry ⟨_,_,rfl,rfl,q⟩
 cases op with
 | Eq=>
  unfold dF at e;dsimp only at e;split at e
  ·rename_i hc
   cases e;simp only[Bool.and_eq_true]at hc;exact vy I (n:=7) (by omega) hc.1 hc.2 (fQ I nx rx hc.1) (fQ I ny ry hc.2) X.prog X.w X.xe _ fin
  ·cases e
 | NotEq=>
  unfold dF at e;dsimp only at e;split at e
  ·rename_i hc
   cases e;simp only[Bool.and_eq_true]at hc;exact qh I (n:=7) (by omega) hc.1 hc.2 (fQ I nx rx hc.1) (fQ I ny ry hc.2) X.prog X.w X.xe _ fin
  ·cases e
 | Lt=>cases dx<;>cases dy<;>first | (cases e;exact intc EK rfl rfl rfl) | cases e
 | LtE=>cases dx<;>cases dy<;>first | (cases e;exact intc EL rfl rfl rfl) | cases e
 | Gt=>cases dx<;>cases dy<;>first | (cases e;exact intc EN rfl rfl rfl) | cases e
 | GtE=>cases dx<;>cases dy<;>first | (cases e;exact intc EO rfl rfl rfl) | cases e
 | In=>
  have e:inD dx dy=.ok k:=by cases dx<;>cases dy<;>exact e
  exact(A2 hu I rx ry nx ny e).1 q
 | NotIn=>
  have e:(do let b ← inD dx dy;Out.ok (!b))=.ok k:=by cases dx<;>cases dy<;>exact e
  obtain⟨b,e1,e2⟩:=j5 e;cases e2;exact(A2 hu I rx ry nx ny e1).2 q
 | Is=>
  have e:isD dx dy=.ok k:=by cases dx<;>cases dy<;>exact e
  obtain⟨h1,h2⟩:=A1 nx ny rx ry e;exact wpAny_is_plain h1 (by rw[h2];exact fin)
 | IsNot=>
  have e:(do let b ← isD dx dy;Out.ok (!b))=.ok k:=by cases dx<;>cases dy<;>exact e
  obtain⟨b,e1,e2⟩:=j5 e;cases e2;obtain⟨h1,h2⟩:=A1 nx ny rx ry e1;exact wpAny_isNot_plain h1 (by rw[h2];exact fin)
theorem B5{op:CmpOp}{dx dy:D}{x y:V}{Z:Addr->Prop}{H:Hp}{own:Bool}{d:D}{Q:VK}(nx:Now Z H dx x)(ny:Now Z H dy y)(dom:∀ a,Z a->H a≠none)
  (ee:(do let r ← dF op dx dy;Out.ok (false,D.bl r))=.ok (own,d)) (k:∀ v H' Z',dU Z H Z' H'->dn bw own Z' H H' d v->Q v H'):vz op x y H Q:=by
 obtain⟨r,e1,e2⟩:=j5 ee;cases e2;exact⟨Z,dx,dy,r,nx,ny,e1,k _ H Z (dU.refl dom) (.rep (fc rfl))⟩
end
theorem PT.imp{X:Cx}{e:Expr}{t t':TT}(h:PT X e t)(i:∀ σ H Q,t' σ H Q->t σ H Q):PT X e t':=fun pins s σ H Q I q=>h pins s σ H Q I (i σ H Q q)
theorem PW.imp{X:Cx}{e:Expr}{t t':TT}(h:PW X e t)(i:∀ σ H Q,t' σ H Q->t σ H Q):PW X e t':=fun wh pins s σ H Q I q=>h wh pins s σ H Q I (i σ H Q q)
section
variable{X:Cx}{Γ:ly}{bw:Bool}{a b e:Expr}{ca cb cc c:Ex}{pos:Pos}
theorem B6{Z:Addr->Prop}{H:Hp}{d:D}{x:V}{t:Bool}{K:PySem.W.Frag}(n:Now Z H d x)(h:jt d=some t):n4 K x H t:=by
 cases d with
 | non=>cases fF n;cases h;rfl
 | bl b=>cases gf n;cases h;rfl
 | int b=>cases aY n;cases h;rfl
 | str b=>
  cases cC n;simp only[jt]at h;split at h
  ·rename_i hs
   cases h;refine⟨bC hs,?_⟩
   have e:((b.length:Int) != 0)=(b.length != 0):=by
    rw[Bool.eq_iff_iff];simp only[bne_iff_ne,ne_eq];omega
   rw[e]
  ·cases h
 | lst ds=>
  obtain⟨a,vs,rfl,h1,h2⟩:=cD n;cases h;refine .inl ⟨vs,jb h1,?_⟩;have:=h2.length;cases ds<;>cases vs<;>simp at this ⊢
 | tup ds=>
  obtain⟨a,vs,rfl,_,h1,h2⟩:=fG n;cases h;refine .inr (.inl ⟨vs,tL h1,?_⟩);have:=h2.length;cases ds<;>cases vs<;>simp at this ⊢
 | dct ks ds=>cases h
 | ref k=>cases h
end
def qj(Z:Addr->Prop)(H:Hp):List D->List V->Prop
 | [],vs=>vs=[]
 | d::ds,vs=>∃ v r,vs=v::r/\Now Z H d v/\qj Z H ds r
section
variable{Z Z':Addr->Prop}{H H':Hp}
theorem qj.one{d:D}{xs:List V}(h:qj Z H [d] xs):∃ x,xs=[x]/\Now Z H d x:=by
 obtain⟨v,r,e,h1,h2⟩:=h;exact⟨v,by rw[e,show r=[] from h2],h1⟩
theorem qj.two{d d':D}{xs:List V}(h:qj Z H [d,d'] xs):∃ x y,xs=[x,y]/\Now Z H d x/\Now Z H d' y:=by
 obtain⟨v,r,e,h1,v',r',e',h2,h3⟩:=h;exact⟨v,v',by rw[e,e',show r'=[] from h3],h1,h2⟩
end
def Args(bw:Bool)(Z:Addr->Prop)(H:Hp)(ds:List D)(vs:List V):Prop:=if bw=true then qj Z H ds vs else aQ Z H ds vs
theorem PA.imp{X:Cx}{e:List Expr}{t t':TA}(h:PA X e t)(i:∀ σ H Q,t' σ H Q->t σ H Q):PA X e t':=fun pos pins s σ H Q I q=>h pos pins s σ H Q I (i σ H Q q)
section
variable{X:Cx}{Γ:ly}{bw:Bool}{a b e:Expr}{es:List Expr}{ca cb cc c cs:Ex}{pos p:Pos}
theorem vA{Z:Addr->Prop}{H:Hp}{ds:List D}{vs:List V}{i:Int}{d:D}(h:aQ Z H ds vs)(e:i_ ds i=some d):∃ v,i_ vs i=some v/\Rep Z H d v:=by
 unfold i_ at e ⊢;rw[h.length];cases q:uF ds.length i with
 | none=>rw[q]at e;cases e
 | some j=>
  rw[q]at e;exact h.get e
theorem B7{dx dy:D}{x y:V}{Z:Addr->Prop}{H:Hp}{own:Bool}{d:D}{Q:VK}{K:PySem.W.Frag}(nx:Now Z H dx x)(ny:Now Z H dy y)(dom:∀ a,Z a->H a≠none)(ee:p9 dx dy=.ok (own,d))
  (k:∀ v H' Z',dU Z H Z' H'->dn bw own Z' H H' d v->Q v H'):E3 K x y H Q:=by
 unfold p9 at ee;split at ee
 ·obtain⟨l,xs,rfl,h1,h2⟩:=cD nx
  cases aY ny;split at ee
  ·rename_i d' hd
   cases ee;obtain⟨v,hv,rv⟩:=vA h2 hd;exact .inl ⟨l,xs,_,v,rfl,rfl,jb h1,hv,k v H Z (dU.refl dom) (.rep rv)⟩
  ·cases ee
 ·obtain⟨l,xs,rfl,_,h1,h2⟩:=fG nx
  cases aY ny;split at ee
  ·rename_i d' hd
   cases ee;obtain⟨v,hv,rv⟩:=vA h2 hd;exact .inr (.inl ⟨l,xs,_,v,rfl,rfl,tL h1,hv,k v H Z (dU.refl dom) (.rep rv)⟩)
  ·cases ee
 ·cases cC nx
  cases aY ny;split at ee
  ·rename_i hs
   split at ee
   ·rename_i c' hd
    cases ee;exact .inr (.inr ⟨_,_,c',rfl,rfl,bC hs,hd,k _ H Z (dU.refl dom) (.rep (fc rfl))⟩)
   ·cases ee
  ·cases ee
 ·cases ee
theorem vB{α:Type}(xs:List α)(lo hi:Option Int):(cW xs lo hi).length<=xs.length:=by
 unfold cW;rw[List.length_take,List.length_drop];omega
theorem rM(n d:Nat)(v:Int):max 0 (min (if v < 0 then v + (n:Int) else v) (n:Int))=((HT.cj n d (some v):Nat):Int):=by
 show max 0 (min (if v < 0 then v + (n:Int) else v) (n:Int))=(((if v < 0 then (v + (n:Int)).toNat else min v.toNat n):Nat):Int)
 by_cases hv:v < 0
 ·simp only[if_pos hv];omega
 ·simp only[if_neg hv];omega
theorem vC{a b:Int}{p q:Nat}(ha:a=p)(hb:b=q):sliceRange a b 1=(List.range (q - p)).map fun k=>p + k:=by
 subst ha hb;unfold sliceRange;simp only[show((1:Int) > 0)=True from by simp,if_true]
 by_cases hlt:(p:Int) < q
 ·rw[if_pos hlt]
  have e3:(((q:Int) - p + 1 - 1) / 1).toNat=q - p:=by first | omega | (simp;done) | (simp;omega)
  rw[e3];refine List.map_congr_left fun k _ => ?_
  omega
 ·rw[if_neg hlt]
  have:q - p=0:=by omega
  rw[this];rfl
theorem j9(lo hi:Option Int)(n:Nat):Builtin.Str.strSliceIndices lo hi 1 n=(List.range (HT.cj n n hi - HT.cj n 0 lo)).map fun k=>HT.cj n 0 lo + k:=by
 unfold Builtin.Str.strSliceIndices;simp only[show((1:Int) > 0)=True from by simp,if_true]
 refine vC ?_ ?_
 ·cases lo with
  | none=>rfl
  | some v=>exact rM n 0 v
 ·cases hi with
  | none=>rfl
  | some v=>exact rM n n v
theorem tN:∀ (n a:Nat) (l:List Nat),a + n<=l.length->((List.range n).map fun k=>a + k).filterMap (fun i=>l[i]?)=(l.drop a).take n:=by
 intro n
 induction n with
 | zero=>intro a l _;simp
 | succ n ih=>
  intro a l h;have hlt:a + n < l.length:=by omega
  rw[List.range_succ,List.map_append,List.filterMap_append,ih a l (by omega),List.take_add_one,List.getElem?_drop]
  simp[List.getElem?_eq_getElem hlt]
theorem vD(x:Str)(lo hi:Option Int):(Builtin.Str.strSliceIndices lo hi 1 x.length).filterMap (x.cps[·]?)=cW x.cps.toList lo hi:=by
 have hn:x.cps.toList.length=x.length:=by simp[Str.length]
 have l1:=HT.mD x.length 0 (Nat.zero_le _) lo;have l2:=HT.mD x.length x.length (Nat.le_refl _) hi;rw[j9];unfold cW;rw[hn];generalize HT.cj x.length 0 lo=p at *;generalize HT.cj x.length x.length hi=q at *
 by_cases Sf:p<=q
 ·have:=tN (q - p) p x.cps.toList (by rw[hn];omega)
  simpa using this
 ·have:q - p=0:=by omega
  rw[this];simp
def Fi:V->Option Int->Option Int->Hp->VK->Prop:=fun x lo hi H Q=>∃ z,x=.str z/\z.length<=sizeLine/\Q (.str ⟨(cW z.cps.toList lo hi).toArray⟩) H
theorem j_:yv X Fi:=by
 intro pins s σ H x v vl vu lo hi sl Q I rx hs pl pu h;obtain⟨z,rfl,hz,q⟩:=h;obtain⟨t,rfl⟩:=rx;refine⟨"str",_,F.slot_str_getitem.lookup,typeIs_str _ _ _,?_⟩
 have part:∀ {w:Value} {o:Option Int},IsPart w o->∃ p:Option (Int×Tok),w=partValue p/\p.map (·.1)=o:=fun h=>by
  cases h with
  | none=>exact⟨none,rfl,rfl⟩
  | int i t=>exact⟨some (i,t),rfl,rfl⟩
 obtain⟨p1,e1,m1⟩:=part pl;obtain⟨p2,e2,m2⟩:=part pu;subst e1 e2;refine wpAny_getItem_str_slice (l:=p1) (u:=p2) (st:=none) hs rfl ?_
 have ep:(slicePicked z p1 p2 none).filterMap (z.cps[·]?)=cW z.cps.toList lo hi:=by
  unfold slicePicked;rw[m1,m2];exact vD z lo hi
 have hl:(cW z.cps.toList lo hi).length<=z.length:=by
  have:=vB z.cps.toList lo hi;simpa[Str.length] using this
 unfold sliceMade;split
 ·rename_i hc
  have hw:(slicePicked z p1 p2 none).length=z.length:=by
   simp only[Bool.and_eq_true,beq_iff_eq]at hc;exact hc.2
  have ez:(⟨(cW z.cps.toList lo hi).toArray⟩:Str)=z:=by
   unfold slicePicked at hw;rw[m1,m2]at hw;have hw:(Builtin.Str.strSliceIndices lo hi 1 z.length).length=z.length:=hw;rw[j9,List.length_map,List.length_range]at hw;have l2:=HT.mD z.length z.length (Nat.le_refl _) hi;have hn:z.cps.toList.length=z.length:=by simp[Str.length]
   have ec:cW z.cps.toList lo hi=z.cps.toList:=by
    unfold cW;rw[hn]
    by_cases h0:z.length=0
    ·have:z.cps.toList=[]:=List.eq_nil_of_length_eq_zero (by rw[hn];exact h0)
     rw[this];simp
    ·have p0:HT.cj z.length 0 lo=0:=by omega
     rw[p0,List.drop_zero,List.take_of_length_le (by rw[hn];omega)]
   rw[ec]
  refine⟨.str z,H,I,⟨t,rfl⟩,?_⟩;rw[ez]at q;exact q
 ·rw[ep]
  refine⟨?_,.str _,H,I.tok _,⟨_,rfl⟩,q⟩
  show(cW z.cps.toList lo hi).toArray.size<=sizeLine
  rw[List.size_toArray];omega
def PH(K:PySem.W.Frag):V->Option Int->Option Int->Hp->VK->Prop:=fun x lo hi H Q=>E4 K x lo hi H Q\/Fi x lo hi H Q
end
noncomputable def ka(F:List D->Out Rs):Sp:=fun vs H Q _=>
 ∃ Z ds own d,(∀ a,Z a->H a≠none)/\aQ Z H ds vs/\F ds=.ok (own,d)/\∀ v H' Z',dU Z H Z' H'->dn false own Z' H H' d v->Q v H'
theorem dn.weak{bw own:Bool}{Z:Addr->Prop}{Hb H:Hp}{d:D}{v:V}(h:dn false own Z Hb H d v):dn bw own Z Hb H d v:=by
 unfold dn at h ⊢;split
 ·rename_i ho;rw[if_pos ho]at h;exact h
 ·rename_i ho;rw[if_neg ho,if_neg Bool.false_ne_true]at h
  split
  ·exact h.now
  ·exact h
section
variable{X:Cx}{Γ:ly}{bw:Bool}{a b e:Expr}{es:List Expr}{ca cb cc c cs:Ex}{pos p:Pos}
structure Fj(X:Cx)(k:Nat)(x:Str)(F:List D->Out Rs):Prop where
 ex:∃ (f:Addr) (fd:FuncData) (ps:List Str),X.mg x=some (.ref f)/\PySem.W.keepIn X.K (.ref f)=true/\Binds X.K fd ps []/\bU X.prog X.w X.K X.mg X.base dR k f fd ps (ka F)
inductive dW (h:Heap):Value->Bool->Prop where
 | non:dW h .none false
 | bl (b:Bool):dW h (.bool b) b
 | int (i:Int) (t:Tok):dW h (.int i t) (i != 0)
 | str (x:Str) (t:Tok):x.length<=sizeLine->dW h (.str x t) ((x.length:Int) != 0)
 | lst {l:Addr} {its:Array Value}:h.IsList l its->its.size<=sizeLine->dW h (.ref l) (!its.isEmpty)
 | tup {l:Addr} {its:Array Value}:IsTup h l its->its.size<=sizeLine->dW h (.ref l) (!its.isEmpty)
theorem dW.keep{h h':Heap}{u:Value}{t:Bool}(k:∀ b o,(u=.ref b)->h.get? b=some o->h'.get? b=some o)(x:dW h u t):dW h' u t:=by
 cases x with
 | non=>exact .non
 | bl=>exact .bl _
 | int i t=>exact .int i t
 | str x t z=>exact .str x t z
 | lst q z=>obtain⟨o,h1,h2⟩:=q;exact .lst ⟨o,k _ o rfl h1,h2⟩ z
 | tup q z=>obtain⟨o,h1,h2⟩:=q;exact .tup ⟨o,k _ o rfl h1,h2⟩ z
theorem dW.run{prog:Program}{w:World}{A:Around}{E:Value->Shared->Prop}{s:Shared}{u:Value}{t:Bool}{Q:Bool->Shared->Prop}(x:dW s.heap u t)(q:∀ tk,Q t { s with toks:=tk }):wpAny (model prog w) A (truthy u) Q E s:=by
 have hl:=hU;cases x with
 | non=>exact truthy_none (q s.toks)
 | bl=>exact wpAny_truthy_bool (q s.toks)
 | int i t=>exact PySem.P.truthy_int (q s.toks)
 | str x t z=>exact PySem.P.truthy_str (by omega) (q _)
 | lst h z=>exact wpAny_truthy_list h (by omega) (q _)
 | tup h z=>exact truthy_tuple h (by omega) (q _)
theorem vE{pins:List (Addr×Obj)}{σ:L2.St}{H:Hp}{s:Shared}{Z:Addr->Prop}{d:D}{v:V}{u:Value}{t:Bool}(I:Inv X pins σ H s)(n:Now Z H d v)(r:RelV v u)(h:jt d=some t):dW s.heap u t:=by
 cases d with
 | non=>cases fF n;cases r;cases h;exact .non
 | bl b=>cases gf n;cases r;cases h;exact .bl _
 | int b=>cases aY n;obtain⟨k,rfl⟩:=r;cases h;exact .int _ _
 | str b=>
  cases cC n;obtain⟨k,rfl⟩:=r;simp only[jt]at h;split at h
  ·rename_i hs
   cases h
   have e:((b.length:Int) != 0)=(b.length != 0):=by
    rw[Bool.eq_iff_iff];simp only[bne_iff_ne,ne_eq];omega
   rw[← e];exact .str b k (bC hs)
  ·cases h
 | lst ds=>
  obtain⟨a,vs,rfl,h1,h2⟩:=cD n;cases r;cases h;obtain⟨its,rv,p,hz⟩:=I.list (jb (K:=X.K) h1)
  have e:(!ds.isEmpty) = !its.toArray.isEmpty:=by
   have k1:=h2.length;have k2:=rv.length;cases ds<;>cases vs<;>cases its<;>simp at k1 k2 ⊢
  rw[e];exact .lst p.isList (by rw[List.size_toArray,← rv.length];exact hz)
 | tup ds=>
  obtain⟨a,vs,rfl,_,h1,h2⟩:=fG n;cases r;cases h;obtain⟨its,rv,p,hz⟩:=I.tuple (tL (K:=X.K) h1)
  have e:(!ds.isEmpty) = !its.toArray.isEmpty:=by
   have k1:=h2.length;have k2:=rv.length;cases ds<;>cases vs<;>cases its<;>simp at k1 k2 ⊢
  rw[e];exact .tup p (by rw[List.size_toArray,← rv.length];exact hz)
 | dct ks ds=>cases h
 | ref k=>cases h
section
variable{prog:Program}{w:World}{A:Around}{R:Result->Shared->Prop}{J:Addr}{fp wr:List Addr}{n:Nat}{P:Nat->Value->Prop}{T:Nat->Heap->Prop}
theorem vF(W:Walks prog w A.in1 J fp wr n P T)(tr:Nat->Bool)(G:Heap->Prop)(gk:∀ h h':Heap,G h->(∀ b o,b∉wr->h.get? b=some o->h'.get? b=some o)->G h')
  (ht:∀ i v (h:Heap),P i v->G h->dW h v (tr i)):∀ (m i:Nat) (s:Shared),n - i=m->i<=n->T i s.heap->G s.heap ->
  (∀ h' tk,(∀ b o,b∉wr->s.heap.get? b=some o->h'.get? b=some o)->R (.ok (.ret (.bool (((List.range n).drop i).all tr)))) { s with heap:=h',toks:=tk }) ->
  codeAny (model prog w) A (.builtin "all.loop" ⟨[.ref J],[]⟩) R s:=by
 intro m
 induction m with
 | zero=>
  intro i s hm hi st g fin;obtain rfl:i=n:=by omega
  refine codeAny_builtin PySem.F.entry_all_loop ?_;rw[Around.under_plainId PySem.F.plain_all_loop _];refine wpAny_bind (m:=pyNext (.ref J)) (W.done s _ _ st fun h' tk kp=>wpAny_bind (wpAny_rule (wpAny_pure ?_)))
  have q:=fin h' tk kp;rw[List.drop_of_length_le (by simp)]at q
  exact q
 | succ m ih=>
  intro i s hm hi st g fin;have lt:i < n:=by omega
  have dr:(List.range n).drop i=i::(List.range n).drop (i + 1):=by
   rw[List.drop_eq_getElem_cons (by simpa using lt)];simp
  refine codeAny_builtin PySem.F.entry_all_loop ?_;rw[Around.under_plainId PySem.F.plain_all_loop _];refine wpAny_bind (m:=pyNext (.ref J)) (W.item i s _ _ lt st fun v h' tk pv st' kp => ?_)
  have g':G h':=gk _ _ g kp;refine wpAny_bind (wpAny_holding ((ht i v h' pv g').run (s:={ s with heap:=h',toks:=tk }) fun tk2 => ?_))
  refine wpAny_bind (wpAny_letGo ?_);cases e:tr i with
  | true=>
   simp only[if_true];refine wpAny_pure ⟨plainId_quiet PySem.F.plain_all_loop _,ih (i + 1) _ (by omega) lt st' g' fun h2 tk3 B8 => ?_⟩
   have q:=fin h2 tk3 fun b o nb z=>B8 b o nb (kp b o nb z)
   rw[dr,List.all_cons,e,Bool.true_and]at q;exact q
  | false=>
   simp only[Bool.false_eq_true,if_false];refine wpAny_bind (wpAny_rule (wpAny_pure ?_));have q:=fin h' tk2 kp;rw[dr,List.all_cons,e,Bool.false_and]at q;exact q
theorem vG(W:Walks prog w A.in1 J fp wr n P T)(tr:Nat->Bool)(G:Heap->Prop)(gk:∀ h h':Heap,G h->(∀ b o,b∉wr->h.get? b=some o->h'.get? b=some o)->G h')
  (ht:∀ i v (h:Heap),P i v->G h->dW h v (tr i)):∀ (m i:Nat) (s:Shared),n - i=m->i<=n->T i s.heap->G s.heap ->
  (∀ h' tk,(∀ b o,b∉wr->s.heap.get? b=some o->h'.get? b=some o)->R (.ok (.ret (.bool (((List.range n).drop i).any tr)))) { s with heap:=h',toks:=tk }) ->
  codeAny (model prog w) A (.builtin "any.loop" ⟨[.ref J],[]⟩) R s:=by
 intro m
 induction m with
 | zero=>
  intro i s hm hi st g fin;obtain rfl:i=n:=by omega
  refine codeAny_builtin PySem.F.entry_any_loop ?_;rw[Around.under_plainId PySem.F.plain_any_loop _];refine wpAny_bind (m:=pyNext (.ref J)) (W.done s _ _ st fun h' tk kp=>wpAny_bind (wpAny_rule (wpAny_pure ?_)))
  have q:=fin h' tk kp;rw[List.drop_of_length_le (by simp)]at q
  exact q
 | succ m ih=>
  intro i s hm hi st g fin;have lt:i < n:=by omega
  have dr:(List.range n).drop i=i::(List.range n).drop (i + 1):=by
   rw[List.drop_eq_getElem_cons (by simpa using lt)];simp
  refine codeAny_builtin PySem.F.entry_any_loop ?_;rw[Around.under_plainId PySem.F.plain_any_loop _];refine wpAny_bind (m:=pyNext (.ref J)) (W.item i s _ _ lt st fun v h' tk pv st' kp => ?_)
  have g':G h':=gk _ _ g kp;refine wpAny_bind (wpAny_holding ((ht i v h' pv g').run (s:={ s with heap:=h',toks:=tk }) fun tk2 => ?_))
  refine wpAny_bind (wpAny_letGo ?_);cases e:tr i with
  | false=>
   simp only[Bool.false_eq_true,if_false];refine wpAny_pure ⟨plainId_quiet PySem.F.plain_any_loop _,ih (i + 1) _ (by omega) lt st' g' fun h2 tk3 B8 => ?_⟩
   have q:=fin h2 tk3 fun b o nb z=>B8 b o nb (kp b o nb z)
   rw[dr,List.any_cons,e,Bool.false_or]at q;exact q
  | true=>
   simp only[if_true];refine wpAny_bind (wpAny_rule (wpAny_pure ?_));have q:=fin h' tk2 kp;rw[dr,List.any_cons,e,Bool.true_or]at q;exact q
end
theorem mR:∀ {ds:List D} {bs:List Bool},e_ ds=some bs->bs.length=ds.length
 | [],_,h=>by cases h;rfl
 | d::ds,bs,h=>by
  simp only[e_]at h;split at h
  ·rename_i b bs' h1 h2
   cases h;rw[List.length_cons,List.length_cons,mR h2]
  ·cases h
theorem rN:∀ {ds:List D} {bs:List Bool} {i:Nat} {d:D},e_ ds=some bs->ds[i]?=some d->∃ b,bs[i]?=some b/\jt d=some b
 | [],_,_,_,_,h=>by simp at h
 | d::ds,bs,i,d',h,hd=>by
  simp only[e_]at h;split at h
  ·rename_i b bs' h1 h2
   cases h;cases i with
   | zero=>simp at hd;subst hd;exact⟨b,rfl,h1⟩
   | succ i=>
    obtain⟨c,q1,q2⟩:=rN (i:=i) h2 (by simpa using hd)
    exact⟨c,by simpa using q1,q2⟩
  ·cases h
theorem all_range:∀ (bs:List Bool),((List.range bs.length).all fun i=>(bs[i]?).getD true)=bs.all id
 | []=>rfl
 | b::bs=>by
  rw[List.length_cons,List.range_succ_eq_map,List.all_cons,List.all_map,List.all_cons,← all_range bs];rfl
theorem any_range:∀ (bs:List Bool),((List.range bs.length).any fun i=>(bs[i]?).getD false)=bs.any id
 | []=>rfl
 | b::bs=>by
  rw[List.length_cons,List.range_succ_eq_map,List.any_cons,List.any_map,List.any_cons,← any_range bs];rfl
def Ky(K:PySem.W.Frag):List V->Hp->VK->Prop:=fun xs H Q=>∃ Z ds bs x,xs=[x]/\Now Z H (.lst ds) x/\e_ ds=some bs/\Q (.bl (bs.all id)) H
def Kz(K:PySem.W.Frag):List V->Hp->VK->Prop:=fun xs H Q=>∃ Z ds bs x,xs=[x]/\Now Z H (.lst ds) x/\e_ ds=some bs/\Q (.bl (bs.any id)) H
theorem vH{pins:List (Addr×Obj)}{σ:L2.St}{H:Hp}{s:Shared}{Z:Addr->Prop}{ds:List D}{vs:List V}{its:List Value}{bs:List Bool}(I:Inv X pins σ H s)(h2:aQ Z H ds vs)(rv:Vals vs its)(hb:e_ ds=some bs)(dflt:Bool) :
  ∀ (i:Nat) (v:Value),its.toArray[i]?=some v->dW s.heap v ((bs[i]?).getD dflt):=by
 intro i v hv;have hv:its[i]?=some v:=by simpa using hv
 obtain⟨hi,ev⟩:=List.getElem?_eq_some_iff.mp hv;obtain⟨x,hx,rx⟩:=mQ rv hi;have k1:=h2.length;have k2:=rv.length;have ed:ds[i]?=some ds[i]:=by simp[show i < ds.length by omega]
 obtain⟨y,hy,ry⟩:=h2.get ed;rw[hx]at hy;cases hy
 obtain⟨b,q1,q2⟩:=rN hb ed;rw[q1];rw[ev]at rx;exact vE I ry.now rx q2
theorem vJ(hc:X.calm=true):dQ X (.builtin "all") (Ky X.K):=by
 intro pins s σ H xs us Q I r h;obtain⟨Z,ds,bs,x,rfl,nw,hb,q⟩:=h;obtain⟨u,rfl,rx⟩:=vals1 r;obtain⟨l,vs,rfl,h1,h2⟩:=cD nw;cases rx;obtain⟨its,rv,p,hz⟩:=I.list (jb (K:=X.K) h1);have hlt:l < s.heap.objs.size:=by obtain⟨_,e,_⟩:=p.isList;exact Heap.lt_size e
 have tr:=vH I h2 rv hb true;refine call_function_tree PySem.F.kind_all PySem.F.plain_all PySem.F.entry_all (PySem.F.args_all1 _) ?_;unfold Builtin.«all»;refine wpAny_bind (m:=oneArg "all" _) (wpAny_pure (wpAny_bind (wpAny_pyIter_list p.isList ?_)))
 refine wpAny_pure ⟨plainId_quiet PySem.F.plain_all_loop _,vF (Walks.list (A:=X.A.in1) (I.ok.hd hc) s.heap.objs.size l (Nat.ne_of_lt hlt) its.toArray) (fun i=>(bs[i]?).getD true)
  (fun h=>∀ b o,b≠s.heap.objs.size->s.heap.get? b=some o->h.get? b=some o) (fun h h' g kp b o nb e=>kp b o (by simpa using nb) (g b o nb e))
  (fun i v h pv g=>(tr i v pv).keep fun b o e z=>g b o (Nat.ne_of_lt (Heap.lt_size z)) z) _ 0 _ rfl (Nat.zero_le _) ⟨⟨_,Heap.get?_push_size _ rfl,rfl,rfl⟩,p.isList.push _⟩ (fun b o nb e=>Heap.get?_push_of_some _ e) fun h' tk kp => ?_⟩
 have e:((List.range its.toArray.size).drop 0).all (fun i=>(bs[i]?).getD true)=bs.all id:=by
  rw[List.drop_zero,List.size_toArray,← rv.length,h2.length,← mR hb];exact all_range bs
 rw[e]
 exact⟨.bl _,H,I.kept (h':=h') (t':=tk) fun b o z=>kp b o (by
  have:=Nat.ne_of_lt (Heap.lt_size z);simpa using this) (Heap.get?_push_of_some _ z),rfl,q⟩
theorem vK(hc:X.calm=true):dQ X (.builtin "any") (Kz X.K):=by
 intro pins s σ H xs us Q I r h;obtain⟨Z,ds,bs,x,rfl,nw,hb,q⟩:=h;obtain⟨u,rfl,rx⟩:=vals1 r;obtain⟨l,vs,rfl,h1,h2⟩:=cD nw;cases rx;obtain⟨its,rv,p,hz⟩:=I.list (jb (K:=X.K) h1);have hlt:l < s.heap.objs.size:=by obtain⟨_,e,_⟩:=p.isList;exact Heap.lt_size e
 have tr:=vH I h2 rv hb false;refine call_function_tree PySem.F.kind_any PySem.F.plain_any PySem.F.entry_any (PySem.F.args_any1 _) ?_;unfold Builtin.«any»;refine wpAny_bind (m:=oneArg "any" _) (wpAny_pure (wpAny_bind (wpAny_pyIter_list p.isList ?_)))
 refine wpAny_pure ⟨plainId_quiet PySem.F.plain_any_loop _,vG (Walks.list (A:=X.A.in1) (I.ok.hd hc) s.heap.objs.size l (Nat.ne_of_lt hlt) its.toArray) (fun i=>(bs[i]?).getD false)
  (fun h=>∀ b o,b≠s.heap.objs.size->s.heap.get? b=some o->h.get? b=some o) (fun h h' g kp b o nb e=>kp b o (by simpa using nb) (g b o nb e))
  (fun i v h pv g=>(tr i v pv).keep fun b o e z=>g b o (Nat.ne_of_lt (Heap.lt_size z)) z) _ 0 _ rfl (Nat.zero_le _) ⟨⟨_,Heap.get?_push_size _ rfl,rfl,rfl⟩,p.isList.push _⟩ (fun b o nb e=>Heap.get?_push_of_some _ e) fun h' tk kp => ?_⟩
 have e:((List.range its.toArray.size).drop 0).any (fun i=>(bs[i]?).getD false)=bs.any id:=by
  rw[List.drop_zero,List.size_toArray,← rv.length,h2.length,← mR hb];exact any_range bs
 rw[e]
 exact⟨.bl _,H,I.kept (h':=h') (t':=tk) fun b o z=>kp b o (by
  have:=Nat.ne_of_lt (Heap.lt_size z);simpa using this) (Heap.get?_push_of_some _ z),rfl,q⟩
end
section
variable{X:Cx}{Γ:ly}{bw:Bool}{a b e:Expr}{es:List Expr}{ca cb cc c cs:Ex}{pos p:Pos}
noncomputable def ie.nm:ie->Str
 | .len=>"len" | .all=>"all" | .any=>"any" | .sorted=>"sorted" | .list=>"list" | .tuple=>"tuple" | .int=>"int" | .min=>"min" | .max=>"max" | .bool=>"bool"
theorem fH{Z:Addr->Prop}{H:Hp}{d:D}{v:V}{Q:VK}(dom:∀ a,Z a->H a≠none)(k:∀ v H' Z',dU Z H Z' H'->dn bw false Z' H H' d v->Q v H')(h:fb d=some v):Q v H:=
 k _ H Z (dU.refl dom) (.rep (fc h))
noncomputable def Ty.nm:Ty->Str
 | .int=>"int" | .str=>"str" | .bool=>"bool" | .list=>"list" | .tuple=>"tuple" | .dict=>"dict"
noncomputable def Ty.id:Ty->String
 | .int=>"int" | .str=>"str" | .bool=>"bool" | .list=>"list" | .tuple=>"tuple" | .dict=>"dict"
theorem yP(t:Ty):bootBuiltins t.nm=some (.type t.id):=by cases t<;>decide +kernel
theorem rO(K:PySem.W.Frag)(t:Ty):PySem.W.kitOne K (.type "NoneType") (.type t.id)=some false/\PySem.W.kitOne K (.type "bool") (.type t.id)=some (t == .bool || t == .int)/\PySem.W.kitOne K (.type "int") (.type t.id)=some (t == .int) /\
  PySem.W.kitOne K (.type "str") (.type t.id)=some (t == .str)/\PySem.W.kitOne K (.type "list") (.type t.id)=some (t == .list)/\PySem.W.kitOne K (.type "tuple") (.type t.id)=some (t == .tuple)/\PySem.W.kitOne K (.type "dict") (.type t.id)=some (t == .dict):=by
 cases t<;>refine⟨?_,?_,?_,?_,?_,?_,?_⟩<;>with_unfolding_all rfl
def Fl(K:PySem.W.Frag):List V->Hp->VK->Prop:=fun xs H Q=>∃ Z d x t b,xs=[x,.ty (Ty.id t)]/\Now Z H d x/\vv d t=some b/\Q (.bl b) H
theorem jd{K:PySem.W.Frag}{H:Hp}{a:Addr}{vs:List V}{X:Cx}{pins:List (Addr×Obj)}{σ:L2.St}{s:Shared}(I:Inv X pins σ H s)(h:Rd H a (.tup vs)):∃ o,s.heap.get? a=some o/\o.cls=.type "tuple":=by
 obtain⟨_,its,_,o,h1,h2,_⟩:vs.length<=sizeLine/\∃ its:List Value,Vals vs its/\IsTup s.heap a its.toArray:=Rd.ok h I.hok;exact⟨o,h1,h2⟩
theorem vL:dQ X (.builtin "isinstance") (Fl X.K):=by
 intro pins s σ H xs us Q I r h;obtain⟨Z,d,x,t,b,rfl,nw,ht,q⟩:=h;obtain⟨u,w',rfl,rx,rt⟩:=vals2 r;cases (show w'=Value.type (Ty.id t) from rt)
 obtain⟨t1,t2,t3,t4,t5,t6,t7⟩:=rO X.K t;have fin:∀ tk,EP X pins σ Q (.bool b) { s with toks:=tk }:=fun tk=>⟨.bl b,H,I.tok tk,rfl,q⟩
 cases d with
 | non=>cases fF nw;cases ht;exact ck I rx .non t1 fin
 | bl c=>cases gf nw;cases ht;exact ck I rx (.bl c) t2 fin
 | int c=>cases aY nw;cases ht;exact ck I rx (.int c) t3 fin
 | str c=>cases cC nw;cases ht;exact ck I rx (.str c) t4 fin
 | lst ds=>
  obtain⟨a,vs,rfl,h1,h2⟩:=cD nw;cases ht;rcases h1 with h1 | ⟨o,h1⟩
  ·exact ck I rx (.lst h1) t5 fin
  ·exact ck I rx (.jn h1) t5 fin
 | tup ds=>
  obtain⟨a,vs,rfl,_,h1,h2⟩:=fG nw;cases ht;cases rx;exact PySem.W.kia_one PySem.W.kitx_tuple I.fX (jd (K:=X.K) I h1) t6 (fun z=>nomatch z) fin
 | dct ks ds=>
  have nw:Rep Z H (.dct ks ds) x:=nw;simp only[Rep]at nw;obtain⟨a,vs,rfl,_,h1,h2⟩:=nw;cases ht;exact ck I rx (.dK h1) t7 fin
 | ref k=>cases ht
end
abbrev rP(ifs:List Expr)(env:Env):Sem Bool:=forIn ifs true fun c r=>if r=true then do let ok ← isTrue c env (eval c env);pure (ForInStep.yield ok) else pure (ForInStep.yield r)
section
variable{prog:Program}{w:World}{A:Around}{R:Result->Shared->Prop}{s:Shared}
theorem tP{elt tg iter:Expr}{ifs:List Expr}{scope:Scope}{pos:Pos}{it acc:Value}{env:Env}(J:Nat->Shared->Prop)
  (turn:∀ n s,J n s->wpAny (model prog w) A (pyNext it) (fun r s1=>match r with
   | none=>R (.ok .next) s1
   | some v=>wpAny (model prog w) A (letOwnedTupleGo tg it v) (fun _ s2=>wpAny (model prog w) A (assign tg env v) (fun _ s3=>wpAny (model prog w) A (rP ifs env) (fun ok s4=>
      if ok=true then wpAny (model prog w) A (eval elt env) (fun x s5=>wpAny (model prog w) A (call (.builtin "list.append") [acc,x]) (fun _ s6=>∃ m,m < n/\J m s6) (fun _ _=>False) s5) (fun _ _=>False) s4
      else ∃ m,m < n/\J m s4) (fun _ _=>False) s3) (fun _ _=>False) s2) (fun _ _=>False) s1) (fun _ _=>False) s)
  (n:Nat) (h:J n s):codeAny (model prog w) A (.compLoop (.ListComp elt [⟨tg,iter,ifs,0⟩] scope pos) 0 it acc env) R s:=by
 refine codeAny_loop rfl J (fun n s hJ => ?_) n h
 refine wpAny_noted (env:=env) (m:=compTurn (.ListComp elt [⟨tg,iter,ifs,0⟩] scope pos) 0 it acc env) ?_;rw[compTurn_list];refine wpAny_bind (wpAny_standAt (wpAny_bind (wpAny_mono (turn n s hJ) (fun r s1 h1 => ?_) fun _ _ z=>z.elim)))
 cases r with
 | none=>exact wpAny_pure h1
 | some v=>
  refine wpAny_bind (wpAny_mono h1 (fun _ s2 h2=>wpAny_bind (wpAny_mono h2 (fun _ s3 h3=>wpAny_bind (wpAny_mono h3 (fun ok s4 h4 => ?_) fun _ _ z=>z.elim)) fun _ _ z=>z.elim)) fun _ _ z=>z.elim)
  cases ok with
  | false=>exact wpAny_pure ⟨rfl,by simpa using h4⟩
  | true=>
   rw[if_pos rfl]at h4;refine wpAny_bind (wpAny_bind (wpAny_mono h4 (fun x s5 h5=>wpAny_bind (wpAny_mono h5 (fun _ s6 h6 => ?_) fun _ _ z=>z.elim)) fun _ _ z=>z.elim))
   exact wpAny_pure (wpAny_pure ⟨rfl,h6⟩)
end
theorem qk{scope:Scope}{env:Env}(h:∀ y∈scope.names,y.2=.free->∃ c,env.cells.lookup y.1=some c) :
  ∃ cl,closureFor scope env=pure cl/\(∀ n c,(n,c)∈cl->env.cells.lookup n=some c)/\∀ y∈scope.names,y.2=.free->∃ c,(y.1,c)∈cl:=by
 have gen:∀ (l:List (Str×NameKind)) (acc:List (Str×Addr)),(∀ y∈l,y.2=.free->∃ c,env.cells.lookup y.1=some c)->(∀ n c,(n,c)∈acc->env.cells.lookup n=some c) ->
   ∃ cl,(forIn l acc fun x r=>match x with | (name,kind)=>if (kind == NameKind.free)=true then do let a ← cellOf env name;pure (ForInStep.yield ((name,a)::r)) else pure (ForInStep.yield r):Sem (List (Str×Addr)))=pure cl /\
    (∀ n c,(n,c)∈cl->env.cells.lookup n=some c)/\(∀ p∈acc,p∈cl)/\∀ y∈l,y.2=.free->∃ c,(y.1,c)∈cl:=by
  intro l
  induction l with
  | nil=>intro acc _ ha;exact⟨acc,rfl,ha,fun _ hp=>hp,fun _ hy=>absurd hy (by simp)⟩
  | cons y l ih=>
   intro acc hl ha;obtain⟨n,k⟩:=y;cases hk:(k == NameKind.free) with
   | false=>
    obtain⟨cl,e,h1,h2,h3⟩:=ih acc (fun z hz=>hl z (by simp[hz])) ha
    refine⟨cl,?_,h1,h2,fun z hz Ii => ?_⟩
    ·rw[List.forIn_cons]
     simp only[hk,Bool.false_eq_true,if_false];exact e
    ·rcases List.mem_cons.mp hz with rfl | hz
     ·have:k=.free:=Ii
      rw[this]at hk;exact absurd hk (by decide)
     ·exact h3 z hz Ii
   | true=>
    have hk':k=.free:=by simpa using hk
    obtain⟨c,hc⟩:=hl (n,k) (by simp) hk'
    obtain⟨cl,e,h1,h2,h3⟩:=ih ((n,c)::acc) (fun z hz=>hl z (by simp[hz])) (fun n' c' hm=>by
     rcases List.mem_cons.mp hm with q | q
     ·cases q;exact hc
     ·exact ha n' c' q)
    refine⟨cl,?_,h1,fun p hp=>h2 p (by simp[hp]),fun z hz Ii => ?_⟩
    ·rw[List.forIn_cons]
     simp only[hk,if_true]
     have:cellOf env n=pure c:=by
      have hc:env.cells.lookup n=some c:=hc;unfold cellOf;rw[hc]
     rw[this];exact e
    ·rcases List.mem_cons.mp hz with rfl | hz
     ·exact⟨c,h2 _ (by simp)⟩
     ·exact h3 z hz Ii
 obtain⟨cl,e,h1,_,h3⟩:=gen scope.names [] h (fun _ _ z=>absurd z (by simp))
 refine⟨cl,?_,h1,h3⟩;unfold closureFor;have e':=congrArg (fun m:Sem (List (Str×Addr))=>m >>= fun r=>pure r) e
 exact e'
noncomputable def blk(X:Cx)(scope:Scope)(cl:List (Str×Addr))(C:Addr)(N:List Str)(s₀:Shared)(H₀:Hp)(fp:List Addr):Cx:=
 { X with N:=N,s₀:=s₀,H₀:=H₀,env:=compEnvC scope cl C X.env,outer:=X.stack,stack:=X.stack,ex:=fp,fn:=fun _=>false,pn:=[],xe:=fun _ _=>False }
theorem lookup_mem{α β:Type}[BEq α][LawfulBEq α]:∀ {l:List (α×β)} {x:α} {v:β},l.lookup x=some v->(x,v)∈l
 | [],_,_,h=>by simp at h
 | (n,k)::r,x,v,h=>by
  rw[List.lookup_cons]at h;cases e:x == n with
  | true=>rw[e]at h;cases h;rw[eq_of_beq e];simp
  | false=>rw[e]at h;exact List.mem_cons_of_mem _ (lookup_mem h)
theorem mem_lookup{α β:Type}[BEq α][LawfulBEq α]:∀ {l:List (α×β)} {x:α} {v:β},(x,v)∈l->∃ u,l.lookup x=some u
 | [],_,_,h=>by simp at h
 | (n,k)::r,x,v,h=>by
  rw[List.lookup_cons];cases e:x == n with
  | true=>exact⟨k,rfl⟩
  | false=>
   rcases List.mem_cons.mp h with q | q
   ·cases q;simp at e
   ·exact mem_lookup q
theorem dX{env:Env}:∀ (names:List (Str×NameKind)) (x:Str),(names.map fun (n,k)=>if (k == NameKind.free && env.scope.kind == .function && env.kindOf n == some .cell) then (n,NameKind.cell) else (n,k)).lookup x =
  (names.lookup x).map fun k=>if (k == NameKind.free && env.scope.kind == .function && env.kindOf x == some .cell) then NameKind.cell else k
 | [],_=>rfl
 | (n,k)::r,x=>by
  have ih:=dX (env:=env) r x
  show List.lookup x ((if (k == NameKind.free && env.scope.kind == .function && env.kindOf n == some .cell)=true then (n,NameKind.cell) else (n,k))::_)=_
  cases hx:x == n with
  | true=>
   obtain rfl:x=n:=eq_of_beq hx
   by_cases hc:(k == NameKind.free && env.scope.kind == .function && env.kindOf x == some .cell)=true
   ·rw[if_pos hc,List.lookup_cons,List.lookup_cons]
    simp only[hx,Option.map_some,if_pos hc]
   ·rw[if_neg hc,List.lookup_cons,List.lookup_cons]
    simp only[hx,Option.map_some,if_neg hc]
  | false=>
   by_cases hc:(k == NameKind.free && env.scope.kind == .function && env.kindOf n == some .cell)=true
   ·rw[if_pos hc,List.lookup_cons,List.lookup_cons]
    simp only[hx];exact ih
   ·rw[if_neg hc,List.lookup_cons,List.lookup_cons]
    simp only[hx];exact ih
structure je(X:Cx)(scope:Scope)(tn cn:List Str)(cap:List Nat):Prop where
 kind:scope.kind=.function
 cell:∀ y∈scope.names,y.2≠.cell
 names:∀ y∈scope.names,y.2=.local->scope.names.lookup y.1=some .local
 free:∀ y∈scope.names,y.2=.free->X.env.kindOf y.1=some .cell\/X.env.kindOf y.1=some .free
 len:cn.length=cap.length
 at':∀ (j i:Nat) (x:Str),cn[j]?=some x->cap[j]?=some i->X.N[i]?=some x/\scope.names.lookup x=some .free
noncomputable def oB(cap:List Nat)(σ:L2.St):L2.St:=cap.map fun i=>(σ[i]?).join
def fR(nt:Nat)(cap:List Nat)(σ:L2.St):L2.St:=List.replicate nt none++oB cap σ
section
variable{X:Cx}{scope:Scope}{tn cn:List Str}{cap:List Nat}
theorem tQ{pins:List (Addr×Obj)}{σ:L2.St}{H:Hp}{s:Shared}{fp:List Addr}{cl:List (Str×Addr)}{h1:Heap}{tk:Nat}{m:Str->Option Value}(B:je X scope tn cn cap)
  (I:Inv X pins σ H s) (hf:∀ b∈fp,lh X pins H b) (hfo:∀ b∈fp,∃ o,s.heap.get? b=some o) (c1:∀ n c,(n,c)∈cl->X.env.cells.lookup n=some c) (c2:∀ y∈scope.names,y.2=.free->∃ c,(y.1,c)∈cl)
  (kp:∀ b o,s.heap.get? b=some o->h1.get? b=some o) (hd:∃ n,h1.get? s.heap.objs.size=some { cls:=.type "list",data:=.seq ([]:List Value).toArray n }) (ns:h1.Ns (s.heap.objs.size + 1) m) :
  Inv (blk X scope cl (s.heap.objs.size + 1) (tn++cn) s H fp) [] (fR tn.length cap σ) (upd H s.heap.objs.size (.lst [])) { s with heap:=h1,toks:=tk }:=by
 have PJ:∀ b o,s.heap.get? b=some o->b≠s.heap.objs.size + 1:=fun b o e=>Nat.ne_of_lt (Nat.lt_succ_of_lt (Heap.lt_size e))
 have PK:∀ b o,s.heap.get? b=some o->b≠s.heap.objs.size:=fun b o e=>Nat.ne_of_lt (Heap.lt_size e)
 have cell:∀ x c,cl.lookup x=some c->∃ v,s.heap.IsCell c v:=fun x c e=>I.cell x c (c1 x c (lookup_mem e))
 have xW:∀ x c,cl.lookup x=some c->c≠s.heap.objs.size + 1/\c≠s.heap.objs.size:=fun x c e=>by
  obtain⟨v,o,ho,_⟩:=cell x c e;exact⟨PJ c o ho,PK c o ho⟩
 have PL:∀ b∈fp,b < s.heap.objs.size:=fun b hb=>let ⟨o,e⟩:=hfo b hb;Heap.lt_size e
 have fr:=I.hok.fresh (Nat.le_refl s.heap.objs.size);obtain⟨nd,hd⟩:=hd
 refine⟨⟨I.ok.mod,B.kind,I.ok.glob,I.ok.blt,Nat.le_succ _,fun x y c e1 e2 => ?_,fun x hx => ?_,fun x c e _=>absurd (show false=true from e) Bool.false_ne_true,I.ok.hd,I.ok.frames,.inl rfl,fun b hb=>⟨?_,fun x c e z => ?_⟩,fun b o e=>I.bs b o e,Nat.le_trans I.ok.ti I.sz,fun b o e hb => ?_,fun b hb hbs => ?_,I.stack,I.jw⟩,
  rfl,I.bare,?_,⟨m,ns,fun i x v e1 e2 e3 => ?_⟩,fun x c e => ?_,?_,fun x c e => ?_,fun p hp=>absurd (show p∈([]:List (Addr×Obj)) from hp) (by simp),?_,?_⟩
 ·exact I.ok.inj x y c (c1 x c (lookup_mem e1)) (c1 y c (lookup_mem e2))
 ·have hx:(relabel scope X.env).names.lookup x=some .cell\/(relabel scope X.env).names.lookup x=some .free:=hx
  unfold relabel at hx;simp only[dX]at hx;cases q:scope.names.lookup x with
  | none=>rw[q]at hx;simp at hx
  | some k=>
   rw[q]at hx;have hm:=lookup_mem q
   have hk:k=.free:=by
    by_cases hk:k=.free
    ·exact hk
    ·have hkf:(k == NameKind.free)=false:=by simpa using hk
     rw[Option.map_some]at hx;simp only[hkf,Bool.false_and,Bool.false_eq_true,if_false,Option.some.injEq]at hx;rcases hx with z | z
     ·exact absurd z (B.cell _ hm)
     ·exact z
   obtain⟨c,hc⟩:=c2 _ hm hk;exact mem_lookup hc
 ·exact Nat.ne_of_lt (Nat.lt_succ_of_lt (PL b hb))
 ·exact(hf b hb).2.2.2.2.1 x c (c1 x c (lookup_mem e)) z
 ·rcases(hf b hb).2.2.2.1 with z | z
  ·exact I.ok.nV b o e z
  ·exact absurd (Nat.lt_of_lt_of_le (Heap.lt_size (I.ok.bs b o e).1) z) (Nat.lt_irrefl _)
 ·rcases List.mem_cons.mp (I.mx b hbs) with z | z
  ·exact(hf b hb).2.1 z
  ·exact(hf b hb).2.2.1 z
 ·exact Un.laid kp (Nat.le_refl _) fr
 ·have KG:i < tn.length->False:=fun hi=>by
   have:(fR tn.length cap σ)[i]?=some none:=by
    unfold fR;rw[List.getElem?_append_left (by simpa using hi),List.getElem?_replicate,if_pos hi]
   rw[this]at e2;cases e2
  have hi:tn.length<=i:=Nat.le_of_not_lt KG;have e1:(tn++cn)[i]?=some x:=e1;rw[List.getElem?_append_right hi]at e1
  have e2':(oB cap σ)[i - tn.length]?=some (some v):=by
   unfold fR at e2;rw[List.getElem?_append_right (by simpa using hi)]at e2
   simpa using e2
  unfold oB at e2';rw[List.getElem?_map]at e2';cases q:cap[i - tn.length]? with
  | none=>rw[q]at e2';cases e2'
  | some i'=>
   rw[q]at e2';have e2:(σ[i']?).join=some v:=by simpa using e2'
   have e4:σ[i']?=some (some v):=by
    cases q2:σ[i']? with
    | none=>rw[q2]at e2;cases e2
    | some z=>rw[q2]at e2;cases z with
     | none=>cases e2
     | some z=>cases e2;rfl
   obtain⟨hN,hfr⟩:=B.at' _ _ _ e1 q;have hk:=B.free _ (lookup_mem hfr) rfl;have hk:X.env.kindOf x=some .cell\/X.env.kindOf x=some .free:=hk
   have KH:xV X.env.scope x:=by
    rcases hk with z | z
    ·exact .inr (.inl z)
    ·exact .inr (.inr z)
   obtain⟨m0,hn0,hl0⟩:=I.loc;obtain⟨u,ru,lk⟩:=hl0 i' x v hN e4 KH;refine⟨u,ru,.inr ⟨?_,?_⟩⟩
   ·show(relabel scope X.env).names.lookup x=some .cell\/(relabel scope X.env).names.lookup x=some .free
    unfold relabel;simp only[dX,hfr,Option.map_some];split
    ·exact .inl rfl
    ·exact .inr rfl
   ·have lk:∃ c,X.env.cells.lookup x=some c/\s.heap.IsCell c (some u):=by
     rcases lk with ⟨z,_⟩ | ⟨_,z⟩
     ·rcases hk with y | y<;>rw[y]at z<;>cases z
     ·exact z
    obtain⟨c,hc,hcc⟩:=lk;obtain⟨c',hc'⟩:=c2 _ (lookup_mem hfr) rfl;obtain⟨c'',hc''⟩:=mem_lookup hc';have:=c1 _ _ (lookup_mem hc'');rw[hc]at this;cases this
    obtain⟨o,ho,hd⟩:=hcc;exact⟨c,hc'',o,kp _ _ ho,hd⟩
 ·obtain⟨v,o,ho,hd⟩:=cell x c e
  exact⟨v,o,kp _ _ ho,hd⟩
 ·show upd H s.heap.objs.size (.lst []) (s.heap.objs.size + 1)=none
  rw[aG (Nat.succ_ne_self _)];exact I.hok.fresh (Nat.le_succ _)
 ·refine⟨?_,fun hz=>absurd (show false=true from hz) Bool.false_ne_true⟩
  rw[aG (xW x c e).2];exact(I.cU x c (c1 x c (lookup_mem e))).1
 ·refine I.hok.laid kp (Nat.le_refl _) ⟨Nat.zero_le _,[],nd,.nil,hd⟩
 ·show(fR tn.length cap σ).length=(tn++cn).length
  unfold fR oB;rw[List.length_append,List.length_append,List.length_replicate,List.length_map,B.len]
def yQ(X:Cx)(ifs:List Expr)(t:TT):Prop:=∀ (pins:List (Addr×Obj)) (s:Shared) (σ:L2.St) (H:Hp) (Q:Bool->Hp->Prop),Inv X pins σ H s->t σ H Q->wpAny (model X.prog X.w) X.A (rP ifs X.env) (TP X pins σ Q) X.xe s
theorem yR:yQ X [] (fun _ H Q=>Q true H):=fun pins s σ H Q I h=>wpAny_pure ⟨H,I,h⟩
theorem yS{c:Expr}{t:TT}(h:PT X c t):yQ X [c] t:=fun pins s σ H Q I q=>wpAny_tests_one (h pins s σ H Q I q)
def lP(wi:TI)(nt:Nat)(cap:List Nat)(g:TG)(tc:TT)(te:TE):TE:=fun σ H Q=>wi σ H fun J H1=>∀ D,H1 D=none->∃ W:Nat->Nat->List V->Hp->Prop,(∃ m,W 0 m [] (upd H1 D (.lst []))) /\
 ∀ i m ys H2,W i m ys H2->H2 D=some (.lst ys)/\((J.stop i H2/\Q (.ref D) H2)\/(J.go i H2/\ys.length < sizeLine/\∀ x H3,J.HX i H2 x H3->g x (fR nt cap σ) H3 fun σ' H4=>tc σ' H4 fun b H5=>
  if b=true then te σ' H5 fun y H6=>H6 D=some (.lst ys)/\∃ m',m' < m/\W (i + 1) m' (ys++[y]) (upd H6 D (.lst (ys++[y]))) else ∃ m',m' < m/\W (i + 1) m' ys H5))
theorem lQ{tg iter elt:Expr}{ifs:List Expr}{pos KI:Pos}{wi:TI}{g:TG}{tc:TT}{te:TE}{use:Option (Value->Sem Unit)}{Q':Value->Shared->Prop}{Q:VK}{pins:List (Addr×Obj)}{σ:L2.St}{H:Hp}{s:Shared}
  (hc:X.calm=true) (B:je X scope tn cn cap) (hi:PI X tg iter wi) (hs:∀ x,foldedSetIterable iter X.env x=pure x)
  (B9:∀ v σ H Q,g v σ H Q->g v σ H fun σ' H'=>Q σ' H'/\σ'.length=σ.length/\∀ j,tn.length<=j->σ'[j]?=σ[j]?)
  (hb:∀ cl C s₀ H₀ fp,PG (blk X scope cl C (tn++cn) s₀ H₀ fp) tg g/\yQ (blk X scope cl C (tn++cn) s₀ H₀ fp) ifs tc/\PE (blk X scope cl C (tn++cn) s₀ H₀ fp) elt te)
  (fin:∀ (s':Shared) (H':Hp) (C D:Addr) (m:Str->Option Value),Inv X pins σ H' s'->s'.heap.Ns C m->H' C=none->C≠X.env.locals->X.s₀.heap.objs.size<=C->(∀ x c,X.env.cells.lookup x=some c->c≠C)->(∀ p∈X.pn++pins,p.1≠C)->Q (.ref D) H' ->
   compPost (model X.prog X.w) X.A X.xe use Q' (.ref D) C (.ok .next) s')
  (I:Inv X pins σ H s) (h:lP wi tn.length cap g tc te σ H Q) :
  wpAny (model X.prog X.w) X.A (comprehension (.ListComp elt [⟨tg,iter,ifs,0⟩] scope pos) scope X.env KI (newList []) false (eval iter X.env) use) Q' X.xe s:=by
 have hfr:∀ y∈scope.names,y.2=.free->∃ c,X.env.cells.lookup y.1=some c:=fun y hy hk=>I.ok.has y.1 (B.free y hy hk)
 obtain⟨cl,hcl,c1,c2⟩:=qk hfr;refine wpAny_comprehension_free (use:=use) rfl hs hcl B.kind B.names ?_;refine b7 (hi pins s σ H _ I h) fun v s1 h1=>b7 h1 fun itv s2 h2 => ?_
 obtain⟨it,fp,KJ,J,H2,e,I2,T,st2,f2,h⟩:=h2;subst e;have fr:=I2.hok.fresh (Nat.le_refl s2.heap.objs.size);obtain⟨W,⟨m0,w0⟩,turn⟩:=h s2.heap.objs.size fr;refine wpAny_newObj_type (wpAny_newFunctionEnv B.cell (fun y hy=>absurd hy (by simp)) (fun h1 ns sb => ?_) B.kind)
 have hsz:(s2.heap.push { cls:=.type "list",dict:=none,data:=.seq ([]:List Value).toArray }).objs.size=s2.heap.objs.size + 1:=Heap.size_push _ _;dsimp only at ns sb ⊢;rw[hsz]at ns sb ⊢;have kp:∀ b o,s2.heap.get? b=some o->h1.get? b=some o:=fun b o e=>sb.extBut b o (Nat.ne_of_lt (Nat.lt_succ_of_lt (Heap.lt_size e))) (Heap.get?_push_of_some _ (Heap.get?_push_of_some _ e))
 have hD:∃ n,h1.get? s2.heap.objs.size=some { cls:=.type "list",data:=.seq ([]:List Value).toArray n }:=⟨0,sb.extBut _ _ (Nat.ne_of_lt (Nat.lt_succ_self _)) (Heap.get?_push_of_some _ (Heap.get?_push_size _ rfl))⟩;have hfo:∀ b∈fp,∃ o,s2.heap.get? b=some o:=fun b hb=>let ⟨o,e,_⟩:=T.obj 0 _ st2 b hb;⟨o,e⟩
 have I4:Inv (blk X scope cl (s2.heap.objs.size + 1) (tn++cn) s2 H2 fp) [] (fR tn.length cap σ) (upd H2 s2.heap.objs.size (.lst [])) { s2 with heap:=h1,toks:=s2.toks + ([]:List (Str×Value)).length }:=
  tQ B I2 f2 hfo c1 c2 kp hD ns
 obtain⟨hg,ht,he⟩:=hb cl (s2.heap.objs.size + 1) s2 H2 fp;have NH:KJ 0 h1:=T.keep 0 _ _ st2 fun b hb o e=>kp b o e
 have PM:∀ b∈fp,upd H2 s2.heap.objs.size (.lst []) b=none:=fun b hb=>by
  obtain⟨o,e⟩:=hfo b hb;rw[aG (Nat.ne_of_lt (Heap.lt_size e))];exact(f2 b hb).1
 have stat:∀ {H':Hp} {pl:List (Addr×Obj)},(∀ b∈fp,H' b=none)->∀ b∈fp,lh (blk X scope cl (s2.heap.objs.size + 1) (tn++cn) s2 H2 fp) [] H' b:=fun hn b hb=>
  ⟨hn b hb,(I4.ok.Bv b hb).1,I4.ok.nW b hb,.inl hb,(I4.ok.Bv b hb).2,fun p hp=>absurd (show p∈([]:List (Addr×Obj)) from hp) (by simp)⟩
 have loop:codeAny (model X.prog X.w) X.A (.compLoop (.ListComp elt [⟨tg,iter,ifs,0⟩] scope pos) 0 (.ref it) (.ref s2.heap.objs.size) (compEnvC scope cl (s2.heap.objs.size + 1) X.env))
   (compPost (model X.prog X.w) X.A X.xe use Q' (.ref s2.heap.objs.size) (s2.heap.objs.size + 1)) { s2 with heap:=h1,toks:=s2.toks + ([]:List (Str×Value)).length }:=by
  refine tP (fun n s'=>∃ i ys H',Inv (blk X scope cl (s2.heap.objs.size + 1) (tn++cn) s2 H2 fp) [] (fR tn.length cap σ) H' s'/\KJ i s'.heap/\(∀ b∈fp,H' b=none)/\W i n ys H') ?_ m0 ⟨0,[],_,I4,NH,PM,w0⟩
  rintro n s5 ⟨i,ys,H5,I5,D8,NI,w5⟩;obtain⟨Fm,alt⟩:=turn i n ys H5 w5;rcases alt with ⟨stop,qn⟩ | ⟨go,hlen,step⟩
  ·refine b7 (T.done (blk X scope cl (s2.heap.objs.size + 1) (tn++cn) s2 H2 fp) rfl rfl rfl hc i [] s5 _ H5 _ I5 (stat (pl:=[]) NI) D8 stop) fun r s6 ⟨hr,I6⟩ => ?_
   subst hr;obtain⟨mC,nC,_⟩:=I6.loc
   have I7:Inv X pins σ H5 s6:=by
    refine I2.call' I6.os I6.base I6.hok I6.bare fun b hb => ?_
    obtain⟨f0,f1,f3,f4,f5,f6⟩:=f2 b hb;exact⟨f4,f1,f5,f6⟩
   have hC:s2.heap.objs.size<=s2.heap.objs.size + 1:=Nat.le_succ _;refine fin s6 H5 (s2.heap.objs.size + 1) s2.heap.objs.size mC I7 nC I6.free (Nat.ne_of_gt (Nat.lt_of_lt_of_le I2.lt hC)) (Nat.le_trans I2.sz hC) (fun x c e z => ?_) (fun p hp z => ?_) qn
   ·obtain⟨v,q⟩:=I2.cell x c e
    exact absurd (Nat.lt_of_lt_of_le q.lt (by rw[z];exact hC)) (Nat.lt_irrefl _)
   ·exact absurd (Nat.lt_of_lt_of_le (Heap.lt_size (I2.pin p hp).1) (by rw[z];exact hC)) (Nat.lt_irrefl _)
  ·refine b7 (T.item (blk X scope cl (s2.heap.objs.size + 1) (tn++cn) s2 H2 fp) rfl rfl rfl hc i [] s5 _ H5 _ I5 (stat (pl:=[]) NI) D8 go) fun r s6 ⟨u,hr,h6⟩ => ?_
   subst hr;refine b7 h6 fun _ s7 ⟨x,H7,I7,r7,y7,KL,PN⟩ => ?_
   have PQ:=I7.pinned (stat (pl:=[]) PN) (T.obj _ _ KL);refine b7 (hg _ s7 _ H7 x u _ PQ r7 (B9 _ _ _ _ (step x H7 y7))) fun _ s8 ⟨Ij,H8,I8,q8,l8,k8⟩ => ?_
   refine b7 (ht _ s8 Ij H8 _ I8 q8) fun ok s9 ⟨H9,I9,q9⟩ => ?_
   have again:∀ {sA:Shared} {HA:Hp},Inv (blk X scope cl (s2.heap.objs.size + 1) (tn++cn) s2 H2 fp) ([]++jX fp s7.heap) Ij HA sA->Inv (blk X scope cl (s2.heap.objs.size + 1) (tn++cn) s2 H2 fp) [] (fR tn.length cap σ) HA sA/\KJ (i + 1) sA.heap/\∀ b∈fp,HA b=none:=fun {sA HA} IA=>by
    refine⟨(IA.ik (pins:=[])).weak l8.symm fun j v hj => ?_,T.keep _ _ _ KL fun b hb o e=>(IA.pin (b,o) (List.mem_append_right _ (List.mem_append_right _ (fy hb e)))).1,fun b hb => ?_⟩
    ·have hjt:tn.length<=j:=by
      refine Nat.le_of_not_lt fun hlt => ?_
      have:(fR tn.length cap σ)[j]?=some none:=by
       unfold fR;rw[List.getElem?_append_left (by simpa using hlt),List.getElem?_replicate,if_pos hlt]
      rw[this]at hj;cases hj
     rw[k8 j hjt];exact hj
    ·obtain⟨o,e,_⟩:=T.obj _ _ KL b hb
     exact(IA.pin (b,o) (List.mem_append_right _ (List.mem_append_right _ (fy hb e)))).2.1
   cases ok with
   | false=>
    rw[if_neg Bool.false_ne_true]at q9 ⊢;obtain⟨m',hm,w'⟩:=q9;obtain⟨a1,a2,a3⟩:=again I9;exact⟨m',hm,i + 1,ys,H9,a1,a2,a3,w'⟩
   | true=>
    rw[if_pos rfl]at q9 ⊢;refine b7 (he _ s9 Ij H9 _ I9 q9) fun y sB ⟨v,HB,IB,rB,PR,m',hm,w'⟩ => ?_
    have hx:=lN (X:=blk X scope cl (s2.heap.objs.size + 1) (tn++cn) s2 H2 fp) _ sB Ij HB (.ref s2.heap.objs.size) [v] (.ref s2.heap.objs.size) [y] (fun _ H'=>H'=upd HB s2.heap.objs.size (.lst (ys++[v]))) IB rfl (.cons rB .nil)
     ⟨s2.heap.objs.size,ys,v,rfl,rfl,PR,hlen,rfl⟩
    refine b7 hx fun _ sC ⟨_,HC,IC,_,eC⟩ => ?_
    subst eC;obtain⟨a1,a2,a3⟩:=again IC;exact⟨m',hm,i + 1,ys++[v],_,a1,a2,a3,w'⟩
 exact codeAny_compStart_list loop (T.self X.A 0 _ _ _ NH loop)
theorem yT{tg iter elt:Expr}{ifs:List Expr}{pos:Pos}{wi:TI}{g:TG}{tc:TT}{te:TE}(hc:X.calm=true)(B:je X scope tn cn cap)(hi:PI X tg iter wi)(hs:∀ x,foldedSetIterable iter X.env x=pure x)
  (B9:∀ v σ H Q,g v σ H Q->g v σ H fun σ' H'=>Q σ' H'/\σ'.length=σ.length/\∀ j,tn.length<=j->σ'[j]?=σ[j]?)
  (hb:∀ cl C s₀ H₀ fp,PG (blk X scope cl C (tn++cn) s₀ H₀ fp) tg g/\yQ (blk X scope cl C (tn++cn) s₀ H₀ fp) ifs tc/\PE (blk X scope cl C (tn++cn) s₀ H₀ fp) elt te) :
  PE X (.ListComp elt [⟨tg,iter,ifs,0⟩] scope pos) (lP wi tn.length cap g tc te):=by
 intro pins s σ H Q I h;rw[eval_ListComp];refine lQ (use:=none) hc B hi hs B9 hb (fun s' H' C D m I' ns h1 h2 h3 h4 h5 q=>⟨m,ns,fun h' sb => ?_⟩) I h
 exact⟨.ref D,H',I'.turned (it:=C) (t':=s'.toks) (fun b o nb e=>sb.extBut b o nb e) h1 h2 (.inr h3) h4 h5,rfl,q⟩
theorem qo{tg iter elt:Expr}{ifs:List Expr}{pos pos' spos:Pos}{wi:TI}{g:TG}{tc:TT}{te:TE}{i:Nat}{x:Str}(hN:X.N.Nodup)(hi':X.N[i]?=some x)(hx:X.env.scope.names.lookup x=some .local)
  (hsw:swapsWith (.ListComp elt [⟨tg,iter,ifs,0⟩] scope pos) (some (.Name x pos')) spos.line X.env=pure true) (hc:X.calm=true) (B:je X scope tn cn cap) (hi:PI X tg iter wi) (hs:∀ x,foldedSetIterable iter X.env x=pure x)
  (B9:∀ v σ H Q,g v σ H Q->g v σ H fun σ' H'=>Q σ' H'/\σ'.length=σ.length/\∀ j,tn.length<=j->σ'[j]?=σ[j]?)
  (hb:∀ cl C s₀ H₀ fp,PG (blk X scope cl C (tn++cn) s₀ H₀ fp) tg g/\yQ (blk X scope cl C (tn++cn) s₀ H₀ fp) ifs tc/\PE (blk X scope cl C (tn++cn) s₀ H₀ fp) elt te) :
  PS X (.Assign [.Name x pos'] (.ListComp elt [⟨tg,iter,ifs,0⟩] scope pos) spos) (BC (lP wi tn.length cap g tc te) (gU i)):=by
 intro pins s σ H D I h;rw[exec_Assign_Name_used _ _ _ _ hsw];refine wpAny_bind (wpAny_standAt (wpAny_bind ?_));refine wpAny_bind (m:=comprehension (.ListComp elt [⟨tg,iter,ifs,0⟩] scope pos) scope X.env _ (newList []) false (eval iter X.env) (some (assign (.Name x pos') X.env))) ?_;refine lQ (use:=some (assign (.Name x pos') X.env)) (Q':=fun _ s'=>wpAny (model X.prog X.w) X.A (pure ()) (fun _ s''=>wpAny (model X.prog X.w) X.A (pure Flow.next) (SP X pins D) X.xe s'') X.xe s') hc B hi hs B9 hb (fun s' H' C Dl m I' ns h1 h2 h3 h4 h5 q => ?_) I h
 show wpAny (model X.prog X.w) X.A (assign (.Name x pos') X.env (.ref Dl)) _ _ s'
 refine wpAny_assign_Name (lF I' hN hi' (.inl hx) (v:=.ref Dl) rfl (fun s2 I2 ch => ?_) (.inr hx))
 obtain⟨a,sb,ha⟩:=ch
 have D6:C≠a:=by
  rcases ha with rfl | ha
  ·exact h2
  ·exact fun z=>h4 _ _ ha z.symm
 refine⟨m,ns.sameBut sb D6,fun h' PV=>wpAny_pure (wpAny_pure ?_)⟩
 exact⟨_,H',I2.turned (it:=C) (t':=s2.toks) (fun b o nb e=>PV.extBut b o nb e) h1 h2 (.inr h3) h4 h5,q⟩
end
theorem PI.imp{X:Cx}{tg e:Expr}{t t':TI}(h:PI X tg e t)(i:∀ σ H R,t' σ H R->t σ H R):PI X tg e t':=fun pins s σ H R I q=>h pins s σ H R I (i σ H R q)
section
variable{Z:Addr->Prop}{H:Hp}
theorem kb:∀ (n:Nat) (lo:Int),(intsFrom lo n).length=n
 | 0,_=>rfl
 | n + 1,lo=>by rw[intsFrom,List.length_cons,kb n]
theorem ints_get:∀ (n:Nat) (lo:Int) (i:Nat) (d:D),(intsFrom lo n)[i]?=some d->d=.int (lo + i)
 | 0,_,_,_,h=>by simp[intsFrom]at h
 | n + 1,lo,0,d,h=>by simp[intsFrom]at h;subst h;simp
 | n + 1,lo,i + 1,d,h=>by
  simp only[intsFrom,List.getElem?_cons_succ]at h;rw[ints_get n (lo + 1) i d h]
  congr 1
  omega
noncomputable def NJ(x:Str):It:=⟨fun i _=>i < x.cps.size,fun i H v H'=>H'=H/\∃ c,x.cps[i]?=some c/\v=.str ⟨#[c]⟩,fun i _=>x.cps.size<=i⟩
end
theorem vM{P:Program}{w:World}{K:PySem.W.Frag}{tg:Expr}(it:Addr)(x:Str)(t:Tok)(ty:String)(hty:ty="str_ascii_iterator"\/ty="str_iterator"):Turn P w K tg (NJ x) [it] it (fun i h=>h.IsStrIter it ty x t i) where
 mem:=by simp
 obj:=fun i h st b hb=>by
  obtain rfl:b=it:=by simpa using hb
  obtain⟨o,e,c,d⟩:=st;exact⟨o,e,fun v z=>by rw[d]at z;cases z⟩
 keep:=fun i h h' st k=>let ⟨o,e,r⟩:=st;⟨o,k it (by simp) o e,r⟩
 item:=by
  intro X hP hw hK hc i pins s σ H E I hf st hg;subst hP hw hK;obtain⟨f0,f1,f2,f3,f4,f5⟩:=hf it (by simp)
  have W:Walks X.prog X.w X.A it [it] [it] x.cps.size (SignAt x) (fun i h=>h.IsStrIter it ty x t i):=by
   rcases hty with rfl | rfl
   ·exact Walks.strAscii (I.ok.hd hc) it x t
   ·exact Walks.strWide (I.ok.hd hc) it x t
  refine W.item i s _ _ hg st fun v h' tk hv st' kk => ?_
  obtain⟨c,u,hx,rfl⟩:=hv;have I1:Inv X pins σ H { s with heap:=h',toks:=tk }:=I.turned (fun b o hb e=>kk b o (by simpa using hb) e) f0 f1 f3 f4 f5
  obtain⟨o,e,q,d⟩:=id st';refine⟨_,rfl,rb (s:={ s with heap:=h',toks:=tk }) (n:=ty) e q d (by rcases hty with rfl | rfl<;>decide) ⟨.str ⟨#[c]⟩,H,I1,⟨u,rfl⟩,⟨rfl,c,hx,rfl⟩,st',fun b hb=>(hf b hb).1⟩⟩
 done:=by
  intro X hP hw hK hc i pins s σ H E I hf st hg;subst hP hw hK;obtain⟨f0,f1,f2,f3,f4,f5⟩:=hf it (by simp)
  have hi:x.cps.size<=i:=hg;rcases hty with rfl | rfl
  ·exact wpAny_pyNext_ascii_end (I.ok.hd hc) st (by simp[hi]) fun h' eb=>⟨rfl,I.turned (t':=s.toks) (fun b o hb e=>eb b o hb e) f0 f1 f3 f4 f5⟩
  ·exact wpAny_pyNext_wide_end (I.ok.hd hc) st (by simp[hi]) fun h' eb=>⟨rfl,I.turned (t':=s.toks) (fun b o hb e=>eb b o hb e) f0 f1 f3 f4 f5⟩
 self:=fun A i s Q E st h=>by
  rcases hty with rfl | rfl
  ·exact wpAny_pyIter_striter_ascii st h
  ·exact wpAny_pyIter_striter_wide st h
section
variable{X:Cx}{Γ:ly}{bw:Bool}{tg e:Expr}{c cs:Ex}{pos p:Pos}
def KN(K:PySem.W.Frag)(tl:TE):TI:=fun σ H R=>tl σ H fun x H1=>(∃ a xs,x=.ref a/\Rd H1 a (.lst xs)/\R (Kj K a) H1)\/(∃ a xs,x=.ref a/\Rd H1 a (.tup xs)/\R (Kk K a) H1)\/∃ y,x=.str y/\R (NJ y) H1
theorem B_{tl:TE}(hl:PE X e tl):PI X tg e (KN X.K tl):=by
 intro pins s σ H R I h;refine b7 (hl pins s σ H _ I h) fun v s1 ⟨x,H1,I1,r1,q1⟩ => ?_
 have fp:∀ b∈[s1.heap.objs.size],lh X pins H1 b:=fun b hb=>by
  obtain rfl:b=s1.heap.objs.size:=by simpa using hb
  exact I1.uP (Nat.le_refl _) (I1.hok.fresh (Nat.le_refl _))
 rcases q1 with ⟨a,xs,rfl,hq,q⟩ | ⟨a,xs,rfl,hq,q⟩ | ⟨y,rfl,q⟩
 ·cases r1
  obtain⟨its,rv,pl,hz⟩:=I1.list (jb (K:=X.K) hq);refine wpAny_pyIter_list pl.isList ?_;exact⟨s1.heap.objs.size,[s1.heap.objs.size],_,_,H1,rfl,I1.kept (t':=s1.toks) fun b o e=>Heap.get?_push_of_some _ e,tj a _,⟨_,Heap.get?_push_size _ rfl,rfl,rfl⟩,fp,q⟩
 ·cases r1
  obtain⟨its,rv,pl,hz⟩:=I1.tuple (tL (K:=X.K) hq);refine wpAny_pyIter_tuple (show s1.heap.IsTuple a its.toArray from pl) ?_
  exact⟨s1.heap.objs.size,[s1.heap.objs.size],_,_,H1,rfl,I1.kept (t':=s1.toks) fun b o e=>Heap.get?_push_of_some _ e,pP a _,⟨_,Heap.get?_push_size _ rfl,rfl,rfl⟩,fp,q⟩
 ·obtain⟨t,rfl⟩:=r1
  refine wpAny_pyIter_strU ?_;exact⟨s1.heap.objs.size,[s1.heap.objs.size],_,_,H1,rfl,I1.kept (t':=s1.toks) fun b o e=>Heap.get?_push_of_some _ e,vM _ y t (strIterType y) (by unfold strIterType;split<;>simp),⟨_,Heap.get?_push_size _ rfl,rfl,rfl⟩,fp,q⟩
end
section
variable{X:Cx}{Γ:ly}{bw:Bool}{tg iter elt:Expr}{ifs:List Expr}{scope:Scope}{tn cn:List Str}{cap:List Nat}{PX cc Sg:Ex}{pos:Pos}{n:Nat}
theorem jf(n:Nat)(hn:0 < n):∀ v σ H Q,gU 0 v σ H Q->gU 0 v σ H fun σ' H'=>Q σ' H'/\σ'.length=σ.length/\∀ j,n<=j->σ'[j]?=σ[j]?:=fun v σ H Q h=>⟨h,by simp,fun j hj=>by
 rw[List.getElem?_set_ne];omega⟩
end
theorem PS.imp{X:Cx}{st:Stmt}{t t':TS}(h:PS X st t)(i:∀ D σ H,t' D σ H->t D σ H):PS X st t':=fun pins s σ H D I q=>h pins s σ H D I (i D σ H q)
theorem ij.imp{X:Cx}{st:List Stmt}{t t':TS}(h:ij X st t)(i:∀ D σ H,t' D σ H->t D σ H):ij X st t':=fun pins s σ H D I q=>h pins s σ H D I (i D σ H q)
section
variable{X:Cx}{Γ:ly}{e:Expr}{c:Ex}{st:Stmt}{rest:List Stmt}{a b:NK}{pos pos':Pos}
end
section
variable{Z0 Z1 Z:Addr->Prop}{H0 H1 H:Hp}{ρ:yK}{σ:L2.St}
end
section
variable{X:Cx}{Γ:ly}{tg e:Expr}{c:Ex}{b:NK}{tb:List Stmt}{pos pos':Pos}
def iV:List Nat->AS
 | []=>EC
 | i::is=>AU (gU i) (iV is)
theorem lR{nms:List (Str×Pos)}(hN:X.N.Nodup):∀ (is:List Nat) (nms:List (Str×Pos)),is.length=nms.length->(∀ (j i:Nat) (x:Str×Pos),is[j]?=some i->nms[j]?=some x->X.N[i]?=some x.1/\Loc X.env.scope x.1/\(X.fn x.1=true\/X.env.scope.names.lookup x.1=some .local)) ->
  EB X (nms.map fun x=>Expr.Name x.1 x.2) (iV is)
 | [],[],_,_=>yh
 | [],_::_,h,_=>by cases h
 | _::_,[],h,_=>by cases h
 | i::is,(x,px)::nms,hl,h=>by
  obtain⟨h1,h2,h3⟩:=h 0 i (x,px) rfl rfl;exact uN (jx hN h1 h2 h3) (lR (nms:=nms) hN is nms (by simpa using hl) fun j i x e1 e2=>h (j + 1) i x (by simpa using e1) (by simpa using e2))
end
section
variable{X:Cx}{Γ:ly}{e o:Expr}{c:Ex}{i j:Nat}{x y:Str}{p0 p1 p2 p3 p4 p5 pos:Pos}
end
theorem gh{X:Cx}{pins:List (Addr×Obj)}{σ:L2.St}{H:Hp}{s:Shared}{h':Heap}{t':Nat}{fp:List Addr}{a:Addr}{o:HO}(I:Inv X pins σ H s)(hf:∀ b∈fp,lh X pins H b)
  (k:∀ b o,b∉fp->s.heap.get? b=some o->h'.get? b=some o) (ha:s.heap.objs.size<=a) (new:cm X.prog X.w (upd H a o) h' a o):Inv X pins σ (upd H a o) { s with heap:=h',toks:=t' }:=by
 have hn:=I.hok.fresh ha;have NL:∀ b u,H b=some u->b∉fp:=fun b u e z=>by rw[(hf b z).1]at e;cases e
 have up:∀ b u,H b=some u->upd H a o b=some u:=fun b u e=>by rw[aG (bb e hn)];exact e
 refine I.step (g':=s.gens) (d':=s.drawn) (ch:=fp) (fun b hb => ?_) (fun b o _ _ hc e _=>k b o hc e) (fun b o _ _ hc e _=>⟨o.slots,k b o hc e⟩) (fun b u _ e n => ?_)
  (fun b o hc e=>⟨o,k b o hc e⟩) (fun b xs e=>up b _ e) (fun b u v e=>up b _ e) (fun b ps e=>⟨#[],by rw[up b _ e];simp⟩) (fun m hm => ?_) (fun b u e => ?_) I.bare
 ·obtain⟨f0,f1,f2,f3,f4,f5⟩:=hf b hb
  exact⟨f3,f1,f4,f5⟩
 ·have:b≠a:=fun z=>absurd (Heap.lt_size e) (by rw[z];exact Nat.not_lt.mpr ha)
  rw[aG this];exact n
 ·obtain⟨o,es,ep,ho,r⟩:=hm
  exact⟨o,es,ep,k _ o (fun z=>(hf _ z).2.1 rfl) ho,r⟩
 ·by_cases hb:b=a
  ·subst hb
   rw[bo]at e;cases e
   exact new
  ·rw[aG hb]at e
   refine(I.hok b u e).stay (fun c v hc q=>k c v ?_ q) (fun c q=>up c _ q) fun c _ q=>up c _ q
   rcases hc with z | z
   ·rw[z];exact NL b u e
   ·exact NL c _ z
def NN(K:PySem.W.Frag)(a:Addr):It:=
 ⟨fun i H=>∃ xs x,i7 K H a xs/\xs[i]?=some x,fun i H x H'=>∃ p,x=.ref p/\H p=none/\∀ xs,i7 K H a xs->∃ v,xs[i]?=some v/\H'=upd H p (.tup [.int i,v]),fun i H=>∃ xs,i7 K H a xs/\xs.length<=i⟩
theorem tS{P:Program}{w:World}{K:PySem.W.Frag}{elts:List Expr}{x1:Nat}{tpos:Pos}(a e it:Addr)(hne:e≠it) :
  Turn P w K (.Tuple elts x1 tpos) (NN K a) [e,it] e (fun i h=>(∃ old,IsEnum h e it i old)/\h.IsListIter it a i) where
 mem:=by simp
 obj:=fun i h st b hb=>by
  obtain⟨⟨old,st1⟩,o,e2,c,d⟩:=st;rcases List.mem_cons.mp hb with z | z
  ·subst z
   exact⟨_,st1,fun v z=>by
    have z':Data.fields _=Data.cell v:=z;cases z'⟩
  ·have z:b=it:=by simpa using z
   subst z;exact⟨o,e2,fun v z=>by rw[d]at z;cases z⟩
 keep:=fun i h h' st k=>by
  obtain⟨⟨old,st1⟩,st2⟩:=st;exact⟨⟨old,k e (by simp) _ st1⟩,st2.at fun o q=>k it (by simp) o q⟩
 item:=by
  intro X hP hw hK hc i pins s σ H E I hf st hg;subst hP hw hK;obtain⟨xs,x,hq,hx⟩:=hg;obtain⟨⟨old,st1⟩,st2⟩:=st;obtain⟨its,rv,p,hz⟩:=I.list hq;obtain⟨u,hu,ru⟩:=rv.get hx;refine wpAny_pyNext_enum_item st1 st2 p.isList (x:=u) (by simpa using hu) hne fun h' so si tu sz kp => ?_
  refine⟨_,rfl,wpAny_letOwnedTupleGo_enum (s:={ s with heap:=h',toks:=s.toks + 1 }) so fun h2 se sb => ?_⟩
  have B8:∀ b o,b∉[e,it]->s.heap.get? b=some o->h2.get? b=some o:=fun b o hb q=>by
   have h1:b≠e:=fun z=>hb (by simp[z])
   have h3:b≠it:=fun z=>hb (by simp[z])
   exact sb.extBut b o h1 (kp b o h1 h3 q)
  have hel:e < s.heap.objs.size:=Heap.lt_size st1;have KO:h2.get? s.heap.objs.size=some { cls:=.type "tuple",data:=.seq #[.int i s.toks,u] }:=sb.extBut _ _ (Nat.ne_of_gt hel) tu;have se':∃ old,IsEnum h2 e it ((i + 1:Nat):Int) old:=⟨u,by rw[show((i + 1:Nat):Int)=(i:Int) + 1 by omega];exact se⟩
  refine⟨.ref s.heap.objs.size,upd H s.heap.objs.size (.tup [.int i,x]),?_,rfl,⟨_,rfl,I.hok.fresh (Nat.le_refl _),fun ys hy=>⟨x,by rw[I.nY hy hq];exact hx,rfl⟩⟩,⟨se',?_⟩,fun b hb => ?_⟩
  ·have tup:IsTup h2 s.heap.objs.size [Value.int i s.toks,u].toArray:=⟨_,KO,rfl,_,rfl⟩
   have new:cm X.prog X.w (upd H s.heap.objs.size (.tup [.int i,x])) h2 s.heap.objs.size (.tup [.int i,x]):=⟨by rw[sizeLine_eq];simp,[.int i s.toks,u],.cons ⟨_,rfl⟩ (.cons ru .nil),tup⟩
   have:=gh (s:=s) (h':=h2) (t':=s.toks + 1) I hf B8 (Nat.le_refl _) new;exact this
  ·exact si.extBut sb.extBut (Ne.symm hne)
  ·have hlt:b < s.heap.objs.size:=by
    rcases List.mem_cons.mp hb with z | z
    ·subst z;exact hel
    ·have z:b=it:=by simpa using z
     subst z;obtain⟨o,q,_⟩:=st2;exact Heap.lt_size q
   rw[aG (Nat.ne_of_lt hlt)];exact(hf b hb).1
 done:=by
  intro X hP hw hK hc i pins s σ H E I hf st hg;subst hP hw hK;obtain⟨xs,hq,hx⟩:=hg;obtain⟨⟨old,st1⟩,st2⟩:=st;obtain⟨its,rv,p,hz⟩:=I.list hq;obtain⟨f0,f1,f2,f3,f4,f5⟩:=hf it (by simp)
  have hl:=rv.length;exact wpAny_pyNext_enum_end (I.ok.hd hc) st1 st2 p.isList (by simp;omega) fun h' eb=>⟨rfl,I.turned (t':=s.toks) (fun b o hb e=>eb b o hb e) f0 f1 f3 f4 f5⟩
 self:=fun _ _ _ _ _ st h=>by
  obtain⟨⟨old,st1⟩,_⟩:=st;exact wpAny_pyIter_enum st1 h
theorem iw:∀ (ds:List D) (k:Nat),(cX k ds).length=ds.length
 | [],_=>rfl
 | d::ds,k=>by rw[cX,List.length_cons,List.length_cons,iw ds]
theorem jA:∀ (ds:List D) (k i:Nat) (d:D),(cX k ds)[i]?=some d->∃ x,ds[i]?=some x/\d=.tup [.int (k + i:Nat),x]
 | [],_,_,_,h=>by simp[cX]at h
 | d::ds,k,0,d',h=>by simp[cX]at h;exact⟨d,rfl,h.symm⟩
 | d::ds,k,i + 1,d',h=>by
  simp only[cX,List.getElem?_cons_succ]at h;obtain⟨x,h1,h2⟩:=jA ds (k + 1) i d' h;exact⟨x,by simpa using h1,by rw[h2,show k + 1 + i=k + (i + 1) by omega]⟩
theorem rQ:∀ {ds:List D} {xs:List Str} {Z:Addr->Prop} {H:Hp} {vs:List V} {us:List Value},fP ds=some xs->aQ Z H ds vs->Vals vs us->StrsAre us xs
 | [],xs,Z,H,vs,us,h,r,q=>by
  cases h;rw[r.nil_inv]at q;cases q;exact .nil
 | d::ds,xs,Z,H,vs,us,h,r,q=>by
  obtain⟨v,rs,rfl,r1,r2⟩:=r.cons_inv;cases d with
  | str x=>
   simp only[fP]at h;obtain⟨ys,h1,rfl⟩:=Option.map_eq_some_iff.mp h;simp only[Rep]at r1;subst r1;cases q with
   | cons qa qb=>
    obtain⟨t,rfl⟩:=qa;exact .cons x t (rQ h1 r2 qb)
  | _=>cases h
def rJoin:V->List V->Hp->VK->Prop:=fun x vs H Q=>∃ z Z ds xs y,x=.str z/\vs=[y]/\Now Z H (.lst ds) y/\fP ds=some xs/\z.length<=16/\(xs.map (·.length)).sum + xs.length<=1048576/\Q (.str (Txt.join z xs)) H
theorem yU{X:Cx}:Eb X "str.join" rJoin:=by
 intro pins s σ H x vs v us Q I rx rv h;obtain⟨z,Z,ds,xs,y,rfl,rfl,n,hs,h1,h2,q⟩:=h;obtain⟨t,rfl⟩:=rx;obtain⟨l,ws,rfl,q1,q2⟩:=cD n;obtain⟨u,rfl,ru⟩:=rv.one;cases ru;obtain⟨its,rv',pl,hz⟩:=I.list (jb (K:=X.K) q1);exact join_listW pl.isList (by simpa using rQ hs q2 rv') h1 h2 fun t' k=>⟨.str _,H,I.tok _,⟨t',rfl⟩,q⟩
theorem yV{v v':V}{u:Value}(h:L2.RelV v u)(h':L2.RelV v' u):v=v':=by
 cases v<;>cases v'<;>simp only[L2.RelV]at h h'<;>first
  | (obtain⟨t,rfl⟩:=h;obtain⟨t',e⟩:=h';cases e;done)
  | (obtain⟨t,rfl⟩:=h;obtain⟨t',e⟩:=h';cases e;rfl)
  | (obtain⟨t,rfl⟩:=h;cases h';done)
  | (subst h;obtain⟨t',e⟩:=h';cases e;done)
  | (subst h;cases h';done)
  | (subst h;cases h';rfl)
  | rfl
theorem rR{H:Hp}{a:Addr}{u:HO}{vs:List V}(h:Rd H a (.lst vs))(h':Rd H a u)(hu:∀ o w,u≠.jn o w):u=.lst vs:=by
 rcases h with h | ⟨o,h⟩<;>rcases h' with h' | ⟨o',h'⟩<;>rw[h]at h'<;>cases h'<;>first | rfl | exact absurd rfl (hu _ _)
theorem rS{H:Hp}{a:Addr}{u:HO}{vs:List V}(h:Rd H a (.tup vs))(h':Rd H a u)(hu:∀ o w,u≠.jn o w):u=.tup vs:=by
 rcases h with h | ⟨o,h⟩<;>rcases h' with h' | ⟨o',h'⟩<;>rw[h]at h'<;>cases h'<;>first | rfl | exact absurd rfl (hu _ _)
mutual
theorem rT{Z:Addr->Prop}{H:Hp}:∀ {n:Nat} {d d':D} {v:V},aH n d=true->aH n d'=true->Rep Z H d v->Rep Z H d' v->d=d'
 | n,.non,d',v,_,o',h,h'=>by
  simp only[Rep]at h;subst h
  cases d'<;>simp only[Rep]at h'<;>first | rfl | (cases h';done) | (obtain⟨_,_,e,_⟩:=h';cases e)
 | n,.bl b,d',v,_,o',h,h'=>by
  simp only[Rep]at h;subst h
  cases d'<;>simp only[Rep]at h'<;>first | (cases h';rfl) | (cases h';done) | (obtain⟨_,_,e,_⟩:=h';cases e)
 | n,.int b,d',v,_,o',h,h'=>by
  simp only[Rep]at h;subst h
  cases d'<;>simp only[Rep]at h'<;>first | (cases h';rfl) | (cases h';done) | (obtain⟨_,_,e,_⟩:=h';cases e)
 | n,.str b,d',v,_,o',h,h'=>by
  simp only[Rep]at h;subst h
  cases d'<;>simp only[Rep]at h'<;>first | (cases h';rfl) | (cases h';done) | (obtain⟨_,_,e,_⟩:=h';cases e)
 | 0,.lst ds,_,_,o,_,_,_=>by simp[aH]at o
 | 0,.tup ds,_,_,o,_,_,_=>by simp[aH]at o
 | n + 1,.lst ds,d',v,o,o',h,h'=>by
  simp only[Rep]at h;obtain⟨a,vs,rfl,_,h1,h2⟩:=h;cases d' with
  | lst ds'=>
   simp only[Rep]at h';obtain⟨a',vs',e,_,h1',h2'⟩:=h';cases e;have:=rR h1 h1' (fun _ _ z=>by cases z)
   cases this;simp only[aH]at o o';rw[kd o o' h2 h2']
  | tup ds'=>
   simp only[Rep]at h';obtain⟨a',vs',e,_,h1',h2'⟩:=h';cases e;have:=rR h1 h1' (fun _ _ z=>by cases z)
   cases this
  | dct _ _=>simp[aH]at o'
  | ref _=>simp[aH]at o'
  | _=>simp only[Rep]at h';cases h'
 | n + 1,.tup ds,d',v,o,o',h,h'=>by
  simp only[Rep]at h;obtain⟨a,vs,rfl,_,h1,h2⟩:=h;cases d' with
  | lst ds'=>
   simp only[Rep]at h';obtain⟨a',vs',e,_,h1',h2'⟩:=h';cases e;have:=rS h1 h1' (fun _ _ z=>by cases z)
   cases this
  | tup ds'=>
   simp only[Rep]at h';obtain⟨a',vs',e,_,h1',h2'⟩:=h';cases e;have:=rS h1 h1' (fun _ _ z=>by cases z)
   cases this;simp only[aH]at o o';rw[kd o o' h2 h2']
  | dct _ _=>simp[aH]at o'
  | ref _=>simp[aH]at o'
  | _=>simp only[Rep]at h';cases h'
 | n,.dct _ _,_,_,o,_,_,_=>by cases n<;>simp[aH]at o
 | n,.ref _,_,_,o,_,_,_=>by cases n<;>simp[aH]at o
theorem kd{Z:Addr->Prop}{H:Hp}:∀ {n:Nat} {ds ds':List D} {vs:List V},ds.all (aH n)=true->ds'.all (aH n)=true->aQ Z H ds vs->aQ Z H ds' vs->ds=ds'
 | n,[],ds',vs,_,_,h,h'=>by
  rw[h.nil_inv]at h';cases ds' with
  | nil=>rfl
  | cons d r=>obtain⟨_,_,e,_⟩:=h'.cons_inv;cases e
 | n,d::ds,ds',vs,o,o',h,h'=>by
  obtain⟨v,r,rfl,h1,h2⟩:=h.cons_inv;cases ds' with
  | nil=>exact absurd h'.nil_inv (by simp)
  | cons d' ds'=>
   obtain⟨v',r',e,h1',h2'⟩:=h'.cons_inv;cases e;simp only[List.all_cons,Bool.and_eq_true]at o o';rw[rT o.1 o'.1 h1 h1',kd o.2 o'.2 h2 h2']
end
def vO:V->List V->Hp->VK->Prop:=fun x vs H Q=>∃ Z ds d y j,vs=[y]/\Now Z H (.lst ds) x/\Now Z H d y/\aH 8 d=true/\ds.all (aH 8)=true/\ds.findIdx? (fun e=>dS e d)=some j/\Q (.int j) H
theorem iW{Z:Addr->Prop}{H:Hp}{ds:List D}{vs:List V}{its:List Value}{m:Nat}(r:aQ Z H ds vs)(q:Vals vs its)(hm:m < its.length)(hd:m < ds.length):∃ v,Rep Z H ds[m] v/\L2.RelV v its[m]:=by
 obtain⟨v,h1,h2⟩:=r.get (i:=m) (d:=ds[m]) (by simp[hd])
 obtain⟨u,h3,h4⟩:=q.get h1;rw[List.getElem?_eq_getElem hm]at h3;cases h3;exact⟨v,h2,h4⟩
theorem vP{X:Cx}(hu:X.A.units + 64 < cLine):Eb X "list.index" vO:=by
 intro pins s σ H x vs v us Q I rx rv h;obtain⟨Z,ds,d,y,j,rfl,nx,ny,o1,o2,hj,q⟩:=h;obtain⟨l,ws,rfl,q1,q2⟩:=cD nx;cases rx;obtain⟨u,rfl,ru⟩:=rv.one;obtain⟨its,rv',pl,hz⟩:=I.list (jb (K:=X.K) q1);obtain⟨hjl,he,hno⟩:=List.findIdx?_eq_some_iff_getElem.mp hj;have hl:=rv'.length;have hl2:=q2.length;obtain⟨o,n,ho,hc,hd,hdt⟩:=pl;have hdm:∀ m (hm:m < ds.length),aH 8 ds[m]=true:=fun m hm=>List.all_eq_true.mp o2 _ (List.getElem_mem hm)
 have hj2:j < its.length:=by omega
 classical
 let e:Value->Bool:=fun w=>decide (∃ m,∃ (hm:m < its.length) (hd:m < ds.length),its[m]=w/\dS ds[m] d=true)
 have he':∀ m (hm:m < its.length) (hd:m < ds.length),e its[m]=dS ds[m] d:=fun m hm hd=>by
  cases hq:dS ds[m] d with
  | true=>exact decide_eq_true ⟨m,hm,hd,rfl,hq⟩
  | false=>
   refine decide_eq_false ?_;rintro⟨m',hm',hd',e1,e2⟩;obtain⟨v1,r1,p1⟩:=iW q2 rv' hm hd;obtain⟨v2,r2,p2⟩:=iW q2 rv' hm' hd';rw[e1]at p2;have:=yV p1 p2;subst this;rw[rT (hdm m hd) (hdm m' hd') r1 r2]at hq;rw[hq]at e2;cases e2
 refine call_meets F.slot_list_index ⟨_,ho,hc⟩ F.entry_list_index (F.args_list_index_2 _ _)
  (SeqAt.list_indexAt l its.toArray n none o.slots u e j (by rw[List.size_toArray];exact hj2) (by rw[sizeLine_eq]at hz;omega) ?_ ?_) ⟨?_,fun w hw => ?_,?_⟩
 ·show e its[j]=true
  rw[he' j hj2 hjl];exact he
 ·intro m hm PY
  have hm':m < its.length:=by simpa using hm
  show e its[m]=false
  rw[he' m hm' (by omega)]
  simpa using hno m PY
 ·rw[ho]
  obtain⟨c',d',dt,sl⟩:=o;cases hc;cases hd;cases hdt;rfl
 ·obtain⟨m,hm,rfl⟩:=List.mem_iff_getElem.mp (show w∈its by simpa using hw)
  have hd':m < ds.length:=by omega
  rw[he' m hm hd'];obtain⟨v1,r1,p1⟩:=iW q2 rv' hm hd';exact fg I 8 _ _ _ _ _ (by simp[Around.in1];omega) (hdm m hd') o1 (fQ I r1.now p1 (hdm m hd')) (fQ I ny ru o1)
 ·exact⟨.int j,H,I.tok _,⟨_,rfl⟩,q⟩
end Mir
namespace Mir
open PySem PySem.Spec PyProof.Rows L2
theorem cK:PySem.Slot "list_reverseiterator" "__next__" "list_reverseiterator.__next__":=
 .of (owner:="list_reverseiterator") (n:="__next__") (by rw[typeLookup_type,builtinLookup_eq_fast];kernel_rfl) (by decide +kernel) (by decide +kernel) (by decide +kernel)
  (by first | exact .inl (by decide +kernel) | exact .inr (by decide +kernel)) (by rw[isSubtype_type];kernel_rfl)
theorem gW:PySem.Slot "list_reverseiterator" "__iter__" "list_reverseiterator.__iter__":=
 .of (owner:="list_reverseiterator") (n:="__iter__") (by rw[typeLookup_type,builtinLookup_eq_fast];kernel_rfl) (by decide +kernel) (by decide +kernel) (by decide +kernel)
  (by first | exact .inl (by decide +kernel) | exact .inr (by decide +kernel)) (by rw[isSubtype_type];kernel_rfl)
theorem gi:entryFor table "list_reverseiterator.__next__"=some Builtin.«list_reverseiterator.__next__» := entryFor_of_tree (by kernel_rfl)
theorem gX(a:Value):argsOk "list_reverseiterator.__next__" ⟨[a],[]⟩:=by unfold argsOk;kernel_rfl
theorem ke:entryFor table "list_reverseiterator.__iter__"=some Builtin.«dict_keyiterator.__iter__» :=
 entryFor_alias (id':="dict_keyiterator.__iter__") (by kernel_rfl) rfl (by decide +kernel) (by kernel_rfl)
theorem lz(a:Value):argsOk "list_reverseiterator.__iter__" ⟨[a],[]⟩:=by unfold argsOk;kernel_rfl
theorem qq:typeLookup (.type "list_reverseiterator") "__len__"=pure none:=by rw[typeLookup_type,builtinLookup_eq_fast];kernel_rfl
theorem lA:PySem.Slot "list_reverseiterator" "__length_hint__" "list_reverseiterator.__length_hint__":=
 .of (owner:="list_reverseiterator") (n:="__length_hint__") (by rw[typeLookup_type,builtinLookup_eq_fast];kernel_rfl) (by decide +kernel) (by decide +kernel) (by decide +kernel)
  (by first | exact .inl (by decide +kernel) | exact .inr (by decide +kernel)) (by rw[isSubtype_type];kernel_rfl)
abbrev gY(h:Heap)(it l:Addr)(i:Int):Prop:=h.get? it=some { cls:=.type "list_reverseiterator",data:=.fields #[.ref l,rawInt i] }
section
variable{prog:Program}{w:World}{A:Around}{E:Value->Shared->Prop}{s:Shared}
theorem kf{it l:Addr}{i:Int}{Q:Value->Shared->Prop}(hit:gY s.heap it l i)(h:Q (.ref it) s):wpAny (model prog w) A (pyIter (.ref it)) Q E s:=by
 have hT:s.TypeIs (.ref it) "list_reverseiterator":=⟨_,hit,rfl⟩;refine wpAny_pyIter_slot hT gW (wpAny_call_entry gW hT ke ?_ (lz _))
 show wpAny _ _ (ret (.ref it)) _ _ s
 exact wpAny_pure ⟨_,rfl,"list_reverseiterator",_,hT,cK.lookup,h⟩
theorem jv{it l:Addr}{i:Nat}{items:Array Value}{x:Value}{Q:Option Value->Shared->Prop}(hit:gY s.heap it l i)(hl:s.heap.IsList l items)(hx:items[i]?=some x)
  (hQ:∀ h',gY h' it l ((i:Int) - 1)->Heap.SameBut it s.heap h'->Q (some x) { s with heap:=h' }):wpAny (model prog w) A (pyNext (.ref it)) Q E s:=by
 have hT:s.TypeIs (.ref it) "list_reverseiterator":=⟨_,hit,rfl⟩;obtain⟨ol,hol,_,nl,hdl⟩:=hl;unfold pyNext;refine wpAny_bind (wpAny_attempt (wpAny_callSpecial?_slot (name:=Str.ofString "__next__") hT cK (wpAny_call_entry cK hT gi ?_ (gX _))))
 show wpAny _ _ (field (.ref it) 1 >>= _) _ _ s
 refine wpAny_bind (wpAny_field hit rfl (x:=rawInt i) rfl ?_)
 show wpAny _ _ (if (i:Int) < 0 then _ else _) _ _ s
 rw[if_neg (by omega)]
 show wpAny _ _ (field (.ref it) 0 >>= _) _ _ s
 refine wpAny_bind (wpAny_field hit rfl (x:=.ref l) rfl ?_)
 show wpAny _ _ (seqItems? (.ref l) >>= _) _ _ s
 refine wpAny_bind (wpAny_seqItems hol hdl ?_);simp only[Int.toNat_natCast,hx];refine wpAny_bind (wpAny_setField_rec hit (by simp) fun h' h1 h2 => ?_)
 exact wpAny_pure ⟨x,rfl,wpAny_pure (hQ h' h1 h2)⟩
theorem kg{it l:Addr}{Q:Option Value->Shared->Prop}(hh:A.handled=none)(hit:gY s.heap it l (-1))(hQ:∀ h',(∀ b o,s.heap.get? b=some o->h'.get? b=some o)->Q none { s with heap:=h' }):wpAny (model prog w) A (pyNext (.ref it)) Q E s:=by
 have hT:s.TypeIs (.ref it) "list_reverseiterator":=⟨_,hit,rfl⟩;unfold pyNext;refine wpAny_bind (wpAny_attempt (wpAny_callSpecial?_slot (name:=Str.ofString "__next__") hT cK (wpAny_call_entry cK hT gi ?_ (gX _))))
 show wpAny _ _ (field (.ref it) 1 >>= _) _ _ s
 refine wpAny_bind (wpAny_field hit rfl (x:=rawInt (-1)) rfl ?_)
 show wpAny _ _ (if (-1:Int) < 0 then _ else _) _ _ s
 rw[if_pos (by omega)]
 refine wpAny_bind (wpAny_rule ?_);refine wpAny_bind ?_;unfold Builtin.SmallTypes.stopIteration;refine wpAny_bind ?_;simp only[newExc,newTuple];refine wpAny_bind (wpAny_newObj_type ?_ (by size_fits))
 refine wpAny_bind (m:=firstArgMember _ _) (wpAny_of_eq (a:=Value.none) (by first | rfl | (simp only[firstArgMember];rfl)) ?_)
 refine wpAny_newObj_type ?_ (by size_fits)
 simp only[raiseNew];refine wpAny_bind (wpAny_handled ?_);rw[show A.in1.handled=none from hh]
 refine wpAny_bind (wpAny_pure (wpAny_throw ?_));refine wpAny_bind (wpAny_isInstance (T:="StopIteration") (b:=true) ⟨_,Heap.get?_push_size _ rfl,rfl⟩ isSubtype_stop ?_);exact wpAny_pure (hQ _ fun b o e=>Heap.get?_push_of_some _ (Heap.get?_push_of_some _ e))
theorem tT(hh:A.handled=none)(it l:Addr)(hne:it≠l)(items:Array Value):Walks prog w A it [it,l] [it] items.size (fun i v=>items[items.size - 1 - i]?=some v) (fun i h=>gY h it l ((items.size:Int) - 1 - (i:Nat))/\h.IsList l items) where
 sub:=fun b hb=>by simp at hb ⊢;exact .inl hb
 frame:=fun i h h' st hk=>⟨hk it (by simp) _ st.1,let ⟨o,ho,r⟩:=st.2;⟨o,hk l (by simp) o ho,r⟩⟩
 item:=fun i s Q E hi st hQ=>by
  obtain⟨st1,st2⟩:=st;have hx:items[items.size - 1 - i]?=some items[items.size - 1 - i]:=by rw[Array.getElem?_eq_getElem]
  have yW:gY s.heap it l ((items.size - 1 - i:Nat):Int):=by rw[show((items.size - 1 - i:Nat):Int)=(items.size:Int) - 1 - (i:Nat) by omega];exact st1
  refine jv yW st2 hx fun h' h1 h2=>hQ _ h' s.toks hx ⟨?_,?_⟩ fun b o hb e=>h2.extBut b o (fun z=>hb (by simp[z])) e
  ·rw[show(items.size:Int) - 1 - ((i + 1:Nat):Int)=((items.size - 1 - i:Nat):Int) - 1 by omega];exact h1
  ·obtain⟨o,ho,r⟩:=st2
   exact⟨o,h2.extBut l o (Ne.symm hne) ho,r⟩
 done:=fun s Q E st hQ=>by
  obtain⟨st1,st2⟩:=st;rw[show(items.size:Int) - 1 - ((items.size:Nat):Int) = -1 by omega]at st1
  exact kg hh st1 fun h' hk=>hQ h' s.toks fun b o _ e=>hk b o e
 self:=fun i s Q E st hQ=>kf st.1 hQ
theorem vQ{it l:Addr}{i:Int}{Q:Bool->Shared->Prop}(hit:gY s.heap it l i)(h:Q false s):wpAny (model prog w) A (Builtin.List.listLengthHint (.ref it)) Q E s:=by
 have hT:s.TypeIs (.ref it) "list_reverseiterator":=⟨_,hit,rfl⟩;unfold Builtin.List.listLengthHint;refine wpAny_bind (wpAny_specialOf hT qq ?_)
 show wpAny _ A (specialOf (Value.ref it) (Str.ofString "__length_hint__") >>= _) _ _ _
 refine wpAny_bind (wpAny_specialOf hT lA.lookup ?_);generalize hid:("list_reverseiterator.__length_hint__":String)=id0
 wp_delta
 rw[show splitId id0=some ("list_reverseiterator","__length_hint__") from by subst hid;decide +kernel]
 subst hid;refine wpAny_bind (wpAny_isInstance (T:="list_reverseiterator") (b:=true) hT (by rw[isSubtype_type];kernel_rfl) ?_)
 refine wpAny_ite_split (fun hab=>absurd hab (by decide)) (fun _ => ?_)
 refine wpAny_ite_split (fun _ => ?_) (fun hab=>absurd (by decide +kernel) hab)
 refine wpAny_ite_split (fun hab=>absurd hab (by decide)) (fun _=>wpAny_pure h)
theorem qr{R:Result->Shared->Prop}{it l:Addr}{items:Array Value}(hh:A.handled=none)(hne:it≠l)(hit:gY s.heap it l ((items.size:Int) - 1))(hl:s.heap.IsList l items)(hn:items.size<=sizeLine)(S:Addr)(res:Value)(c₀:Nat)(hS:s.heap.get? S=some { cls:=.type "list",data:=.seq #[] c₀ })(hSl:S≠l)
  (hR:∀ h' tk acc' c',(∀ b o,b≠S->b≠it->s.heap.get? b=some o->h'.get? b=some o)->h'.get? S=some { cls:=.type "list",dict:=none,data:=.seq acc' c',slots := #[] }->ItemsOf (fun i v=>items[items.size - 1 - i]?=some v) acc' items.size->R (.ok (.ret res)) { s with heap:=h',toks:=tk }) :
  wpAny (model prog w) A.in1 (Builtin.List.listExtendWith (.ref S) (.ref it) res)
   (fun fin s'=>match fin with | .done f=>R (.ok f) s' | .again c'=>c'.quiet=true/\codeAny (model prog w) A c' R s') (fun e s'=>R (.error e) s') s:=by
 have hT:s.TypeIs (.ref it) "list_reverseiterator":=⟨_,hit,rfl⟩
 have hSI:S≠it:=fun e=>by
  rw[e]at hS;have:=hit.symm.trans hS;simp at this
 have W:=(tT (prog:=prog) (w:=w) (A:=A.in1) hh it l hne items).toS
 have hSf:S∉[it,l]:=fun hm=>by
  rcases List.mem_cons.mp hm with e | e
  ·exact hSI e
  ·exact hSl (by simpa using e)
 unfold Builtin.List.listExtendWith;refine wpAny_bind (wpAny_typeOf hT ?_);have h1:Builtin.List.listSameRef (.ref S) (.ref it)=false:=by simp[Builtin.List.listSameRef,hSI]
 have h2:(Value.type "list_reverseiterator" == Value.type "list")=false:=by decide
 have h3:(Value.type "list_reverseiterator" == Value.type "tuple")=false:=by decide
 simp only[h1,h2,h3,Bool.or_false,Bool.false_eq_true,if_false];refine wpAny_bind (kf hit ?_);refine wpAny_bind (wpAny_holding (vQ hit ?_));refine wpAny_ite_split (fun hab=>absurd hab (by decide)) (fun _=>wpAny_pure ⟨plainId_quiet F.plain_extend_loop _,?_⟩)
 refine codeAny_extend_loopS W hn S hSf res items.size 0 _ #[] c₀ rfl (Nat.zero_le _) ⟨by simpa using hit,hl⟩ hS (ItemsOf.nil _) fun s' acc' c' hm hS' hacc => ?_
 rw[Moved.eq_with hm];refine hR s'.heap s'.toks acc' c' (fun b o hb hb' e=>hm.heap b o (fun hmem => ?_) e) hS' hacc
 rcases List.mem_cons.mp hmem with e' | hmem
 ·exact hb e'
 ·exact hb' (by simpa using hmem)
theorem vR{R:Result->Shared->Prop}{it l:Addr}{items:Array Value}(hh:A.handled=none)(hne:it≠l)(hit:gY s.heap it l ((items.size:Int) - 1))(hl:s.heap.IsList l items)(hn:items.size<=sizeLine)(S:Addr)(hS:s.heap.get? S=some { cls:=.type "list",data:=.seq #[] })(hSl:S≠l)(hSI:S≠it)
  (hR:∀ h' tk acc' c',(∀ b o,b≠S->b≠it->s.heap.get? b=some o->h'.get? b=some o)->h'.get? S=some { cls:=.type "list",dict:=none,data:=.seq acc' c',slots := #[] }->ItemsOf (fun i v=>items[items.size - 1 - i]?=some v) acc' items.size->R (.ok (.ret .none)) { s with heap:=h',toks:=tk }) :
  wpAny (model prog w) A.in1 (Builtin.«list.__init__» ⟨[.ref S,.ref it],[]⟩)
   (fun fin s'=>match fin with | .done f=>R (.ok f) s' | .again c'=>c'.quiet=true/\codeAny (model prog w) A c' R s') (fun e s'=>R (.error e) s') s:=by
 show wpAny _ _ (do let old ← Builtin.List.listItems (.ref S);Builtin.List.listUpdate (.ref S) (fun _ => #[]);letGo old.toList.reverse;Builtin.List.listExtendWith (.ref S) (.ref it) .none) _ _ s
 refine wpAny_bind ?_;unfold Builtin.List.listItems;refine wpAny_bind (wpAny_seqItems hS rfl (wpAny_pure ?_))
 show wpAny _ _ (updateSeq S (fun _ => #[]) >>= fun _=>letGo (#[]:Array Value).toList.reverse >>= fun _=>Builtin.List.listExtendWith (.ref S) (.ref it) .none) _ _ s
 refine wpAny_bind (wpAny_updateSeq hS rfl ?_);have hS₂:=Heap.get?_update_self (Obj.mapSeq (fun _=>(#[]:Array Value))) hS rfl
 have oth:∀ b o,b≠S->s.heap.get? b=some o->(s.heap.update S (Obj.mapSeq (fun _=>(#[]:Array Value)))).get? b=some o:=
  fun b o hb e=>(Heap.get?_update_other _ _ (Ne.symm hb)).trans e
 refine wpAny_bind (wpAny_letGo ?_)
 have hl':(s.heap.update S (Obj.mapSeq (fun _=>(#[]:Array Value)))).IsList l items:=by
  obtain⟨o,ho,r⟩:=hl;exact⟨o,oth l o (Ne.symm hSl) ho,r⟩
 refine qr hh hne (oth it _ (Ne.symm hSI) hit) hl' hn S .none _ hS₂ hSl fun h' tk acc' c' hk hS' hacc => ?_
 exact hR h' tk acc' c' (fun b o hb hb' e=>hk b o hb hb' (oth b o hb e)) hS' hacc
theorem lB{Q:Value->Shared->Prop}{it l:Addr}{items:Array Value}(hh:A.handled=none)(hne:it≠l)(hit:gY s.heap it l ((items.size:Int) - 1))(hl:s.heap.IsList l items)(hn:items.size<=sizeLine)
  (hQ:∀ h' tk acc' c',(∀ b o,b≠it->s.heap.get? b=some o->h'.get? b=some o)->h'.get? s.heap.objs.size=some { cls:=.type "list",dict:=none,data:=.seq acc' c',slots := #[] }->ItemsOf (fun i v=>items[items.size - 1 - i]?=some v) acc' items.size->Q (.ref s.heap.objs.size) { s with heap:=h',toks:=tk }) :
  wpAny (model prog w) A (call (.type "list") [.ref it]) Q E s:=by
 have PZ:s.heap.objs.size≠it:=fun e=>Nat.lt_irrefl _ (e▸Heap.lt_size hit)
 have hLt:s.heap.objs.size≠l:=fun e=>by obtain⟨o,ho,_⟩:=hl;exact Nat.lt_irrefl _ (e▸Heap.lt_size ho)
 refine callType_codes (Q₁:=fun obj s₁=>obj=.ref s.heap.objs.size/\s₁={ s with heap:=s.heap.push { cls:=.type "list",data:=.seq #[] } }) F.called_list (F.typeCall_list_1 _) F.entry_list_init
  (code_list_new _ ⟨rfl,rfl⟩) fun obj s₁ h₁ => ?_
 obtain⟨rfl,rfl⟩:=h₁;have hS:(s.heap.push { cls:=.type "list",data:=.seq #[] }).get? s.heap.objs.size=some { cls:=.type "list",data:=.seq #[] }:=Heap.get?_push_size _ rfl;refine⟨⟨_,hS,rfl⟩,F.args_list_init_2 _ _,vR (A:=A.in1) (s:={ s with heap:=s.heap.push { cls:=.type "list",data:=.seq #[] } }) (show A.in1.handled=none from hh) hne (Heap.get?_push_of_some _ hit) (hl.push _) hn _ hS hLt PZ fun h' tk acc' c' hk hS' hacc => ?_⟩
 exact⟨rfl,hQ h' tk acc' c' (fun b o hb e=>hk b o (fun z=>absurd (Heap.lt_size e) (by rw[z];exact Nat.lt_irrefl _)) hb (Heap.get?_push_of_some _ e)) hS' hacc⟩
end
end Mir
namespace Mir
open PySem PySem.Spec PyProof.Rows L2
open AutoSeq1 (wpAny_loadPart')
theorem mS:isSubtype (.type "reversed") (.type "reversed")=pure true:=by rw[isSubtype_type];kernel_rfl
theorem oC:isSubtype (.type "list_reverseiterator") (.type "reversed")=pure false:=by rw[isSubtype_type];kernel_rfl
theorem mro_reversed:mroOf (.type "reversed")=pure [.type "reversed",.type "object"]:=by rw[mroOf_type];kernel_rfl
theorem lookup_reversed_new:typeLookup (.type "reversed") "__new__"=pure (some (.builtin "reversed.__new__")):=by rw[typeLookup_type,builtinLookup_eq_fast];kernel_rfl
theorem made_reversed:Bind.madeBy (.type "reversed")=pure (some "reversed.__new__"):=madeBy_type mro_reversed lookup_reversed_new (by decide +kernel)
theorem ix(a:Value):checkTypeCall "reversed" ⟨[a],[]⟩=pure ():=by kernel_rfl
theorem iX(a:Value):checkBuiltinCall "reversed.__new__" ⟨[.type "reversed",a],[]⟩=pure ():=by kernel_rfl
theorem entry_reversed_new:entryFor table "reversed.__new__"=some Builtin.«reversed.__new__» := entryFor_of_tree (by kernel_rfl)
theorem plain_reversed_new:plainId "reversed.__new__"=true:=by decide +kernel
section
variable{prog:Program}{w:World}{A:Around}{E:Value->Shared->Prop}{s:Shared}
theorem code_reversed_new{l:Addr}{items:Array Value}{n:Nat}{Q₁:Value->Shared->Prop}(hl:s.heap.get? l=some { cls:=.type "list",dict:=none,data:=.seq items n,slots := #[] })
  (h:Q₁ (.ref s.heap.objs.size) { s with heap:=s.heap.push { cls:=.type "list_reverseiterator",data:=.fields #[.ref l,rawInt ((items.size:Int) - 1)] } }) :
  codeAny (model prog w) A (.call (.builtin "reversed.__new__") ⟨[.type "reversed",.ref l],[]⟩) (wants Q₁ E) s:=by
 refine codeAny_of_tree ?_
 show wpAny _ A.in1 (do checkBuiltinCall "reversed.__new__" ⟨[.type "reversed",.ref l],[]⟩;again (.builtin "reversed.__new__" ⟨[.type "reversed",.ref l],[]⟩)) _ _ s
 refine wpAny_bind (wpAny_of_eq (iX _) (wpAny_pure ⟨plainId_quiet plain_reversed_new _,codeAny_builtin entry_reversed_new ?_⟩));rw[Around.under_plainId plain_reversed_new _];have hsub:=mS;have hT:s.TypeIs (.ref l) "list":=⟨_,hl,rfl⟩;have hlk:=PySem.F.slot_list_reversed.lookup;have hbd:=PySem.F.slot_list_reversed.bind (.ref l);obtain⟨hp,g,d,tk,os⟩:=s
 wp_walk
 refine codeAny_mono (codeAny_call_builtin (R:=wants (fun v s'=>Q₁ v s') E) PySem.F.slot_list_reversed.plain PySem.F.entry_list_reversed (PySem.F.slot_list_reversed.check _ _ _ _ _ _ _ _ hT (PySem.F.args_list_reversed_1 _) (AutoListH.list___reversed___list_0 l items n prog w _ (wants (fun v s'=>Q₁ v s') E) _ ⟨hl,h⟩))) fun r s' hr => ?_
 cases r with
 | error e=>exact hr
 | ok fl=>
  cases fl with
  | ret v=>exact wpAny_pure hr
  | _=>exact hr.elim
theorem lD{l:Addr}{items:Array Value}{n:Nat}{Q:Value->Shared->Prop}(hl:s.heap.get? l=some { cls:=.type "list",dict:=none,data:=.seq items n,slots := #[] })
  (h:Q (.ref s.heap.objs.size) { s with heap:=s.heap.push { cls:=.type "list_reverseiterator",data:=.fields #[.ref l,rawInt ((items.size:Int) - 1)] } }) :
  wpAny (model prog w) A (call (.type "reversed") [.ref l]) Q E s:=by
 have hmro:=mro_reversed;have hmade:=made_reversed;have hct:=ix (.ref l);refine wpAny_call (codeAny_of_tree ?_)
 show wpAny _ _ (callAny (.type "reversed") _) _ _ _
 refine wpAny_pure ⟨Code.quiet_builtin _ (by decide +kernel),codeAny_builtin F.entry_type_call ?_⟩
 rw[Around.under_plain (weight_type_call_type "reversed" [.ref l] []) rfl];have h1:(Value.type "reversed" == Value.type "type")=false:=by decide +kernel
 have h2:((Manifest.find? "reversed").bind (·.mro.findSome? fun t=>(Manifest.find? t).bind fun b=>if b.noNew then some true else if b.attrs.any (·.1 == "__new__") then some false else none)).getD false=false:=by decide +kernel
 repeat (any_goals (first | assumption | wp_step))
 refine codeAny_mono (code_reversed_new (E:=E) (Q₁:=fun v s'=>v=.ref s.heap.objs.size/\s'={ s with heap:=s.heap.push { cls:=.type "list_reverseiterator",data:=.fields #[.ref l,rawInt ((items.size:Int) - 1)] } }) hl ⟨rfl,rfl⟩) fun r s' hr => ?_
 cases r with
 | error e=>exact hr
 | ok fl=>
  cases fl with
  | ret v=>
   obtain⟨rfl,rfl⟩:=hr;refine wpAny_bind (wpAny_isInstance (T:="list_reverseiterator") (b:=false) ⟨_,Heap.get?_push_size _ rfl,rfl⟩ oC ?_);refine wpAny_ite_split (fun _=>wpAny_bind (wpAny_rule (wpAny_pure h))) (fun hab=>absurd rfl hab)
  | _=>exact hr.elim
end
end Mir
namespace Mir
open PySem PySem.Spec PyProof.Rows L2
def P0(te:TE)(K:PySem.W.Frag):TE:=fun σ H Q=>te σ H fun x H1=>∃ l xs,x=.ref l/\Rd H1 l (.lst xs)/\∀ p,H1 p=none->Q (.ref p) (upd H1 p (.lst xs.reverse))
theorem qu{X:Cx}{e:Expr}{te:TE}{p p' pos pos':Pos}(hc:X.calm=true)(hg:Gl X "list")(hm:X.mg "list"=none)(hg':Gl X "reversed")(hm':X.mg "reversed"=none)(hs:starEach [e] X.env=[(false,eval e X.env)])(he:PE X e te) :
  PE X (.Call (.Name "list" p) [.Call (.Name "reversed" p') [e] [] pos'] [] pos) (P0 te X.K):=by
 intro pins s σ H Q I h;refine wpAny_Call_Name_kw (g_ I hg hm boot_list ?_ (by decide) (by decide))
 refine PyProof.Rows.callWith_type1 ?_ rfl rfl
 show wpAny _ _ (spliced ((false,eval (.Call (.Name "reversed" p') [e] [] pos') X.env)::backTo pos (starEach [] X.env))) _ _ s
 refine Calls.spliced_cons ?_;refine wpAny_Call_Name_kw (g_ I hg' hm' boot_reversed ?_ (by decide) (by decide))
 refine PyProof.Rows.callWith_type1 (b7 (cV he iR hs pos' pins s σ H (fun vs H1=>match vs with | [x]=>(∃ l xs,x=V.ref l/\Rd H1 l (.lst xs)/\∀ p,H1 p=none->Q (.ref p) (upd H1 p (.lst xs.reverse))) | _=>False) I h) fun us s1 ⟨vs,H1,I1,r1,q1⟩ => ?_) hs rfl
 match vs,q1,r1 with
 | [x],q1,r1=>
  obtain⟨l,xs,rfl,hR,q⟩:=q1;obtain⟨u,rfl,ru⟩:=r1.one;cases ru;obtain⟨its,rv,pl,hz⟩:=I1.list (jb (K:=X.K) hR);obtain⟨z,its',n,r',eo⟩:xs.length<=sizeLine/\∃ (its:List Value) (n:Nat),Vals xs its/\s1.heap.get? l=some { cls:=.type "list",data:=.seq its.toArray n }:=Rd.ok hR I1.hok;have hl':=r'.length;refine lD eo ?_;refine Calls.spliced_nil ?_;have hll:l < s1.heap.objs.size:=Heap.lt_size eo;have P1:=Heap.get?_push_of_some { cls:=.type "list_reverseiterator",data:=.fields #[.ref l,rawInt ((its'.toArray.size:Int) - 1)] } eo;refine lB (I1.ok.hd hc) (Nat.ne_of_gt hll) (Heap.get?_push_size _ rfl) ⟨_,P1,rfl,n,rfl⟩ (by rw[List.size_toArray];omega) fun h' tk acc' c' kp new io => ?_
  obtain⟨i1,i2⟩:=io;have Sh:acc'.size=its'.length:=i1.trans List.size_toArray
  have hacc:acc'=its'.reverse.toArray:=by
   apply Array.ext';apply List.ext_getElem?;intro j
   by_cases hj:j < acc'.size
   ·have e1:=i2 j acc'[j] (by rw[Array.getElem?_eq_getElem hj])
    rw[List.size_toArray]at e1;rw[Array.getElem?_toList,Array.getElem?_eq_getElem hj,← e1,List.getElem?_toArray];simp;rw[List.getElem?_reverse (by omega)]
   ·rw[List.getElem?_eq_none (by simp;omega),List.getElem?_eq_none (by simp;omega)]
  have I2:L2.Inv X pins σ H1 { s1 with heap:=s1.heap.push { cls:=.type "list_reverseiterator",data:=.fields #[.ref l,rawInt ((its'.toArray.size:Int) - 1)] } }:=I1.kept (t':=s1.toks) fun b o e=>Heap.get?_push_of_some _ e
  subst hacc;have hfr:H1 (s1.heap.push { cls:=.type "list_reverseiterator",data:=.fields #[.ref l,rawInt ((its'.toArray.size:Int) - 1)] }).objs.size=none:=I2.hok.fresh (Nat.le_refl _);refine⟨.ref _,upd H1 _ (.lst xs.reverse),?_,rfl,q _ hfr⟩
  have Fo:cm X.prog X.w (upd H1 (s1.heap.push { cls:=.type "list_reverseiterator",data:=.fields #[.ref l,rawInt ((its'.toArray.size:Int) - 1)] }).objs.size (.lst xs.reverse)) h' (s1.heap.push { cls:=.type "list_reverseiterator",data:=.fields #[.ref l,rawInt ((its'.toArray.size:Int) - 1)] }).objs.size (.lst xs.reverse):=
   ⟨by rw[List.length_reverse];exact z,its'.reverse,c',r'.reverse,new⟩
  exact gh (s:={ s1 with heap:=s1.heap.push { cls:=.type "list_reverseiterator",data:=.fields #[.ref l,rawInt ((its'.toArray.size:Int) - 1)] } }) (fp:=[s1.heap.objs.size]) (t':=tk) I2 (fun b hb=>by
   have e:b=s1.heap.objs.size:=by simpa using hb
   subst e;exact I1.uP (Nat.le_refl _) (I1.hok.fresh (Nat.le_refl _))) (fun b o hb e=>kp b o (fun z=>hb (by simp[z])) e) (Nat.le_refl _) Fo
section
variable{prog:Program}{w:World}{A:Around}{R:Result->Shared->Prop}{I:Addr}{fp wr:List Addr}{G:Array GenState->Array GenState->Prop}{n:Nat}{P:Nat->Value->Prop}{St:Nat->Shared->Prop}
end
section
variable{prog:Program}{w:World}{A:Around}{E:Value->Shared->Prop}{s:Shared}
end
section
variable{prog:Program}{w:World}{A:Around}{E:Value->Shared->Prop}{s:Shared}
theorem qv{it t:Addr}{i:Nat}{items:Array Value}{x:Value}{Q:Value->Shared->Prop}(hit:s.heap.IsTupleIter it t i)(ht:s.heap.IsTuple t items)(hx:items[i]?=some x)
  (hQ:∀ h',h'.IsTupleIter it t (i + 1)->Heap.SameBut it s.heap h'->Q x { s with heap:=h' }):wpAny (model prog w) A (Builtin.SmallTypes.nextOf (.ref it)) Q E s:=by
 obtain⟨o,ho,hc,hd⟩:=id hit;obtain⟨ol,hol,_,nl,hdl⟩:=ht;unfold Builtin.SmallTypes.nextOf
 refine wpAny_bind (wpAny_callSpecial?_slot (name:=Str.ofString "__next__") hit.typeIs F.slot_tuple_iterator_next
  (wpAny_call_entry F.slot_tuple_iterator_next hit.typeIs F.entry_tuple_iterator_next ?_ (F.args_tuple_iterator_next_1 _)))
 show wpAny _ _ (field (.ref it) 0 >>= _) _ _ s
 refine wpAny_bind (wpAny_field ho hd (x:=.ref t) rfl ?_)
 show wpAny _ _ (if (Value.ref t == Value.none)=true then _ else _) _ _ s
 rw[if_neg (show ¬ ((Value.ref t == Value.none)=true) from Bool.false_ne_true)]
 show wpAny _ _ (field (.ref it) 1 >>= _) _ _ s
 refine wpAny_bind (wpAny_field ho hd (x:=.int i 0) rfl ?_)
 show wpAny _ _ (seqItems? (.ref t) >>= _) _ _ s
 refine wpAny_bind (wpAny_seqItems hol hdl ?_);simp only[Int.toNat_natCast,hx];refine wpAny_bind (wpAny_setField ho hd (by simp) (wpAny_pure ⟨x,rfl,wpAny_pure (hQ _ ?_ (Heap.SameBut.update ..))⟩))
 exact⟨_,Heap.get?_update_self _ ho (Obj.isFreed_of_fields (Obj.data_mapFields hd _)),(Obj.cls_mapFields ..).trans hc,by
  rw[Obj.data_mapFields hd];simp[rawInt]⟩
theorem lS{it t:Addr}{i:Nat}{items:Array Value}{Q:Value->Shared->Prop}(hh:A.handled=none)(hit:s.heap.IsTupleIter it t i)(ht:s.heap.IsTuple t items)(hx:items[i]?=none)
  (hE:∀ h' e,Heap.ExtBut it s.heap h'->(∃ o,h'.get? e=some o/\o.cls=.type "StopIteration")->E (.ref e) { s with heap:=h' }):wpAny (model prog w) A (Builtin.SmallTypes.nextOf (.ref it)) Q E s:=by
 obtain⟨o,ho,hc,hd⟩:=id hit;obtain⟨ol,hol,_,nl,hdl⟩:=ht;unfold Builtin.SmallTypes.nextOf
 refine wpAny_bind (wpAny_callSpecial?_slot (name:=Str.ofString "__next__") hit.typeIs F.slot_tuple_iterator_next
  (wpAny_call_entry F.slot_tuple_iterator_next hit.typeIs F.entry_tuple_iterator_next ?_ (F.args_tuple_iterator_next_1 _)))
 show wpAny _ _ (field (.ref it) 0 >>= _) _ _ s
 refine wpAny_bind (wpAny_field ho hd (x:=.ref t) rfl ?_)
 show wpAny _ _ (if (Value.ref t == Value.none)=true then _ else _) _ _ s
 rw[if_neg (show ¬ ((Value.ref t == Value.none)=true) from Bool.false_ne_true)]
 show wpAny _ _ (field (.ref it) 1 >>= _) _ _ s
 refine wpAny_bind (wpAny_field ho hd (x:=.int i 0) rfl ?_)
 show wpAny _ _ (seqItems? (.ref t) >>= _) _ _ s
 refine wpAny_bind (wpAny_seqItems hol hdl ?_);simp only[Int.toNat_natCast,hx];refine wpAny_bind (wpAny_rule (wpAny_bind (wpAny_setField ho hd (by simp) ?_)))
 show wpAny _ _ (newExc (.type "StopIteration") [] >>= _) _ _ _
 refine wpAny_bind ?_;simp only[newExc,newTuple];refine wpAny_bind (wpAny_newObj_type ?_ (by size_fits))
 refine wpAny_bind (m:=firstArgMember _ _) (wpAny_of_eq (a:=Value.none) (by first | rfl | (simp only[firstArgMember];rfl)) ?_)
 refine wpAny_newObj_type ?_ (by size_fits)
 simp only[raiseNew];refine wpAny_bind (wpAny_handled ?_)
 first | rw[show A.in1.handled=none from hh] | rw[hh]
 refine wpAny_bind (wpAny_pure (wpAny_throw ?_));exact hE _ _ (((Heap.SameBut.update ..).extBut.push _).push _) ⟨_,Heap.get?_push_size _ rfl,rfl⟩
end
theorem Cb{prog:Program}{w:World}{A:Around}(hh:A.handled=none)(it l:Addr)(hne:l≠it)(items:Array Value) :
  Draws prog w A it [it,l] items.size (fun i v=>items[i]?=some v) (fun i h=>h.IsTupleIter it l i/\h.IsTuple l items) where
 live:=fun _ _ st=>let ⟨o,ho,_⟩:=st.1;⟨o,ho⟩
 frame:=fun _ _ _ st hk=>⟨let ⟨o,ho,r⟩:=st.1;⟨o,hk it (by simp) o ho,r⟩,let ⟨o,ho,r⟩:=st.2;⟨o,hk l (by simp) o ho,r⟩⟩
 item:=fun i s Q E hi st hQ=>by
  refine qv st.1 st.2 (x:=items[i]) (by simp[hi]) fun h' hit' hs' => ?_
  exact hQ _ h' s.toks (by simp[hi]) ⟨hit',st.2.extBut hs'.extBut hne⟩ hs'
 done:=fun s Q E st hE=>lS hh st.1 st.2 (by simp) hE
open AutoSeq1 (wpAny_loadPart') in
theorem oE(l:Addr)(items:Array Value)(n:Nat)(dct:Option Addr)(sl:Array (Option Value)) :
  Meets (Builtin.«enumerate.__new__» ⟨[.type "enumerate",.ref l],[]⟩) (fun _ R s=>s.heap.get? l=some { cls:=.type "tuple",dict:=dct,data:=.seq items n,slots:=sl } /\
   R (.ok (.ret (.ref (s.heap.push { cls:=.type "tuple_iterator",data:=.fields #[.ref l,.int 0 0] }).objs.size)))
    { s with heap:=(s.heap.push { cls:=.type "tuple_iterator",data:=.fields #[.ref l,.int 0 0] }).push { cls:=.type "enumerate",data:=.fields #[.none,.bool false,.ref s.heap.objs.size,rawInt 0,.none,.none] } }):=
 .of_wp fun prog w A R s h=>by
  obtain⟨hp,g,d,tk,os⟩:=s;obtain⟨hl,h⟩:=h
  have hsub:=sub_enumerate;have hL:Heap.IsTuple (Shared.heap ⟨hp,g,d,tk,os⟩) l items:=⟨_,hl,rfl,n,rfl⟩
  wp_walk using wpAny_loadPart' hl
  refine wpAny_stack_any fun st=>wpAny_pure ?_
  split
  ·rename_i c _ _ _ _ _
   cases (c == Value.type "enumerate")
   ·wp_walk using wpAny_loadPart' hl,wpAny_pyIter_tuple hL
    exact⟨_,rfl,h⟩
   ·wp_walk using wpAny_loadPart' hl,wpAny_pyIter_tuple hL
    exact⟨_,rfl,h⟩
  ·wp_walk using wpAny_loadPart' hl,wpAny_pyIter_tuple hL
   exact⟨_,rfl,h⟩
theorem qx{prog:Program}{w:World}{A:Around}{E:Value->Shared->Prop}{s:Shared}{l:Addr}{items:Array Value}{Q:Value->Shared->Prop}(hL:s.heap.IsTuple l items)
  (h:∀ h',IsEnum h' (s.heap.objs.size + 1) s.heap.objs.size 0 .none->h'.IsTupleIter s.heap.objs.size l 0->h'.objs.size=s.heap.objs.size + 2 ->
   (∀ b o,s.heap.get? b=some o->h'.get? b=some o)->Q (.ref (s.heap.objs.size + 1)) { s with heap:=h' }) :
  wpAny (model prog w) A (call (.type "enumerate") [.ref l]) Q E s:=by
 obtain⟨⟨c,dct,dt,sl⟩,hl,hc,n,hd⟩:=hL;replace hc:c=.type "tuple":=hc;replace hd:dt=.seq items n:=hd;subst hc hd
 refine callType_new F.called_enumerate (by decide) (F.typeCall_enumerate_1 _) (F.newCall_enumerate_1 _) (fun obj=>F.args_object_init_2 obj _) F.entry_enumerate_new
  (oE l items n dct sl) ⟨hl,?_⟩
 have hz:(s.heap.push { cls:=.type "tuple_iterator",data:=.fields #[.ref l,.int 0 0] }).objs.size=s.heap.objs.size + 1:=Heap.size_push ..
 show _/\_
 rw[hz]
 have he:IsEnum ((s.heap.push { cls:=.type "tuple_iterator",data:=.fields #[.ref l,.int 0 0] }).push
   { cls:=.type "enumerate",data:=.fields #[.none,.bool false,.ref s.heap.objs.size,rawInt 0,.none,.none] }) (s.heap.objs.size + 1) s.heap.objs.size 0 .none:=by
  have:=Heap.get?_push_size (s.heap.push { cls:=.type "tuple_iterator",data:=.fields #[.ref l,.int 0 0] })
   (o:={ cls:=.type "enumerate",data:=.fields #[.none,.bool false,.ref s.heap.objs.size,rawInt 0,.none,.none] }) rfl
  rw[hz]at this;exact this
 refine⟨⟨_,he,rfl⟩,h _ he ⟨_,Heap.get?_push_of_some _ (Heap.get?_push_size _ rfl),rfl,rfl⟩ (by rw[Heap.size_push,hz]) fun b o x=>Heap.get?_push_of_some _ (Heap.get?_push_of_some _ x)⟩
theorem tU{prog:Program}{w:World}{A:Around}{E:Value->Shared->Prop}{s:Shared}{e it l:Addr}{i:Nat}{items:Array Value}{old:Value}{Q:Option Value->Shared->Prop}(hh:A.handled=none)
  (he:IsEnum s.heap e it i old) (hit:s.heap.IsTupleIter it l i) (hl:s.heap.IsTuple l items) (hx:items[i]?=none)
  (hQ:∀ h',Heap.ExtBut it s.heap h'->Q none { s with heap:=h' }):wpAny (model prog w) A (pyNext (.ref e)) Q E s:=by
 have hT:s.TypeIs (.ref e) "enumerate":=⟨_,he,rfl⟩;unfold pyNext
 refine wpAny_bind (wpAny_attempt (wpAny_callSpecial?_slot (name:=Str.ofString "__next__") hT F.slot_enumerate_next
  (wpAny_call_entry F.slot_enumerate_next hT F.entry_enumerate_next ?_ (F.args_enumerate_next_1 _))))
 show wpAny _ _ (field (.ref e) 2 >>= _) _ _ _
 refine wpAny_bind (wpAny_field he rfl (x:=.ref it) rfl ?_);refine wpAny_bind (lS hh hit hl hx fun h' x he' hx' => ?_)
 obtain⟨o,ho,hc⟩:=hx';refine wpAny_bind (wpAny_isInstance (T:="StopIteration") (b:=true) ⟨o,ho,hc⟩ isSubtype_stop ?_);exact wpAny_pure (hQ _ he')
def Fp(K:PySem.W.Frag)(a:Addr):It:=
 ⟨fun i H=>∃ xs x,fS K H a xs/\xs[i]?=some x,fun i H x H'=>∃ p,x=.ref p/\H p=none/\∀ xs,fS K H a xs->∃ v,xs[i]?=some v/\H'=upd H p (.tup [.int i,v]),fun i H=>∃ xs,fS K H a xs/\xs.length<=i⟩
theorem qy{P:Program}{w:World}{K:PySem.W.Frag}{elts:List Expr}{x1:Nat}{tpos:Pos}(a e it:Addr)(hne:e≠it) :
  Turn P w K (.Tuple elts x1 tpos) (Fp K a) [e,it] e (fun i h=>(∃ old,IsEnum h e it i old)/\h.IsTupleIter it a i) where
 mem:=by simp
 obj:=fun i h st b hb=>by
  obtain⟨⟨old,st1⟩,o,e2,c,d⟩:=st;rcases List.mem_cons.mp hb with z | z
  ·subst z
   exact⟨_,st1,fun v z=>by
    have z':Data.fields _=Data.cell v:=z;cases z'⟩
  ·have z:b=it:=by simpa using z
   subst z;exact⟨o,e2,fun v z=>by rw[d]at z;cases z⟩
 keep:=fun i h h' st k=>by
  obtain⟨⟨old,st1⟩,o,e2,r⟩:=st;exact⟨⟨old,k e (by simp) _ st1⟩,o,k it (by simp) o e2,r⟩
 item:=by
  intro X hP hw hK hc i pins s σ H E I hf st hg;subst hP hw hK;obtain⟨xs,x,hq,hx⟩:=hg;obtain⟨⟨old,st1⟩,st2⟩:=st;obtain⟨its,rv,p,hz⟩:=I.tuple hq;obtain⟨u,hu,ru⟩:=rv.get hx
  have hit':a≠it:=fun z=>by
   obtain⟨o,h1,h2,_⟩:=p;obtain⟨o',h3,h4,_⟩:=st2;rw[z,h3]at h1;cases h1
   rw[h2]at h4;exact absurd h4 (by decide)
  have P2:e≠a:=fun z=>by
   obtain⟨o,h1,h2,_⟩:=p;have yW:s.heap.get? e=some _:=st1;rw[z,h1]at yW;have h2':=congrArg (fun x:Option Obj=>x.map (·.cls)) yW
   simp only[Option.map_some,h2,Option.some.injEq]at h2';exact absurd h2' (by decide)
  have hlt:i < its.toArray.size:=by
   have:=(List.getElem?_eq_some_iff.mp hu).1;simpa using this
  refine wpAny_pyNext_enum_itemD (Cb (A:=X.A.in1) (I.ok.hd hc) it a hit' its.toArray) st1 ⟨st2,p⟩ hlt hne (by simp[hne,P2]) fun u' h' tk P4 so si tu sz kp => ?_
  have KP:u'=u:=by
   have e1:its.toArray[i]?=some u':=P4;have e2:its[i]?=some u':=by simpa using e1
   rw[hu]at e2;cases e2;rfl
  subst KP;refine⟨_,rfl,wpAny_letOwnedTupleGo_enum (s:={ s with heap:=h',toks:=tk + 1 }) so fun h2 se sb => ?_⟩
  have B8:∀ b o,b∉[e,it]->s.heap.get? b=some o->h2.get? b=some o:=fun b o hb q=>by
   have h1:b≠e:=fun z=>hb (by simp[z])
   have h3:b≠it:=fun z=>hb (by simp[z])
   exact sb.extBut b o h1 (kp b o h1 h3 q)
  have hel:e < s.heap.objs.size:=Heap.lt_size st1;have KO:h2.get? s.heap.objs.size=some { cls:=.type "tuple",data:=.seq #[.int i tk,u'] }:=sb.extBut _ _ (Nat.ne_of_gt hel) tu;have se':∃ old,IsEnum h2 e it ((i + 1:Nat):Int) old:=⟨u',by rw[show((i + 1:Nat):Int)=(i:Int) + 1 by omega];exact se⟩
  refine⟨.ref s.heap.objs.size,upd H s.heap.objs.size (.tup [.int i,x]),?_,rfl,⟨_,rfl,I.hok.fresh (Nat.le_refl _),fun ys hy=>⟨x,by rw[I.lG hy hq];exact hx,rfl⟩⟩,⟨se',?_⟩,fun b hb => ?_⟩
  ·have tup:IsTup h2 s.heap.objs.size [Value.int i tk,u'].toArray:=⟨_,KO,rfl,_,rfl⟩
   have new:cm X.prog X.w (upd H s.heap.objs.size (.tup [.int i,x])) h2 s.heap.objs.size (.tup [.int i,x]):=⟨by rw[sizeLine_eq];simp,[.int i tk,u'],.cons ⟨_,rfl⟩ (.cons ru .nil),tup⟩
   have:=gh (s:=s) (h':=h2) (t':=tk + 1) I hf B8 (Nat.le_refl _) new;exact this
  ·exact si.1.extBut sb.extBut (Ne.symm hne)
  ·have hlt:b < s.heap.objs.size:=by
    rcases List.mem_cons.mp hb with z | z
    ·subst z;exact hel
    ·have z:b=it:=by simpa using z
     subst z;obtain⟨o,q,_⟩:=st2;exact Heap.lt_size q
   rw[aG (Nat.ne_of_lt hlt)];exact(hf b hb).1
 done:=by
  intro X hP hw hK hc i pins s σ H E I hf st hg;subst hP hw hK;obtain⟨xs,hq,hx⟩:=hg;obtain⟨⟨old,st1⟩,st2⟩:=st;obtain⟨its,rv,p,hz⟩:=I.tuple hq;obtain⟨f0,f1,f2,f3,f4,f5⟩:=hf it (by simp)
  have hl:=rv.length;exact tU (I.ok.hd hc) st1 st2 p (by simp;omega) fun h' eb=>⟨rfl,I.turned (t':=s.toks) (fun b o hb e=>eb b o hb e) f0 f1 f3 f4 f5⟩
 self:=fun _ _ _ _ _ st h=>by
  obtain⟨⟨old,st1⟩,_⟩:=st;exact wpAny_pyIter_enum st1 h
def Fq(K:PySem.W.Frag)(ta:TA):TI:=fun σ H R=>ta σ H fun vs H1=>∃ a,vs=[.ref a]/\(((∃ xs,i7 K H1 a xs)/\R (NN K a) H1)\/((∃ xs,fS K H1 a xs)/\R (Fp K a) H1))
theorem vS{X:Cx}{es:List Expr}{x1:Nat}{tpos p pos:Pos}{a:Expr}{ta:TA}(hg:Gl X "enumerate")(hm:X.mg "enumerate"=none)(ha:PA X [a] ta)(hs:starEach [a] X.env=[(false,eval a X.env)]) :
  PI X (.Tuple es x1 tpos) (.Call (.Name "enumerate" p) [a] [] pos) (Fq X.K ta):=by
 intro pins s σ H R I h;refine Call_ (g_ I hg hm boot_enumerate (PyProof.Rows.callWith_type1 (b7 (ha pos pins s σ H _ I h) fun us s1 ⟨vs,H1,I1,r1,q1⟩ => ?_) hs rfl))
 obtain⟨l,rfl,hq⟩:=q1;cases r1 with
 | cons r rr=>
  cases rr;cases r
  have fp:∀ b∈[s1.heap.objs.size + 1,s1.heap.objs.size],s1.heap.objs.size<=b:=fun b hb=>by
   rcases List.mem_cons.mp hb with z | z
   ·rw[z];exact Nat.le_succ _
   ·have z:b=s1.heap.objs.size:=by simpa using z
    rw[z];exact Nat.le_refl _
  rcases hq with ⟨⟨xs,hq⟩,q⟩ | ⟨⟨xs,hq⟩,q⟩
  ·obtain⟨its,rv,pl,hz⟩:=I1.list hq
   refine call_enumerate_list pl.isList fun h' en li sz kp=>wpAny_pyIter_enum (s:={ s1 with heap:=h' }) en ?_
   have I2:L2.Inv X pins σ H1 { s1 with heap:=h' }:=I1.kept (t':=s1.toks) kp;exact⟨s1.heap.objs.size + 1,[s1.heap.objs.size + 1,s1.heap.objs.size],_,_,H1,rfl,I2,tS l _ _ (Nat.succ_ne_self _),⟨⟨_,en⟩,li⟩,fun b hb=>I1.uP (fp b hb) (I1.hok.fresh (fp b hb)),q⟩
  ·obtain⟨its,rv,pl,hz⟩:=I1.tuple hq
   refine qx (items:=its.toArray) pl fun h' en li sz kp=>wpAny_pyIter_enum (s:={ s1 with heap:=h' }) en ?_
   have I2:L2.Inv X pins σ H1 { s1 with heap:=h' }:=I1.kept (t':=s1.toks) kp;exact⟨s1.heap.objs.size + 1,[s1.heap.objs.size + 1,s1.heap.objs.size],_,_,H1,rfl,I2,qy l _ _ (Nat.succ_ne_self _),⟨⟨_,en⟩,li⟩,fun b hb=>I1.uP (fp b hb) (I1.hok.fresh (fp b hb)),q⟩
theorem dg{a b:Str}:bz a b=true↔a.cps.toList<=b.cps.toList:=by
 unfold bz;rw[Bool.not_eq_true',decide_eq_false_iff_not];exact List.not_lt
theorem jg(a b c:Str)(h1:bz a b=true)(h2:bz b c=true):bz a c=true:=dg.mpr (List.le_trans (dg.mp h1) (dg.mp h2))
theorem oF(a b:Str):(bz a b || bz b a)=true:=by
 rw[Bool.or_eq_true,dg,dg];exact List.le_total _ _
theorem qA{a b:Str}(h1:bz a b=true)(h2:bz b a=true):a=b:=by
 have e:=List.le_antisymm (dg.mp h1) (dg.mp h2);cases a;cases b
 simp only[Str.mk.injEq];exact Array.toList_inj.mp e
theorem lT:∀ {ss:List Str} {p:Str},risingS p ss=true->(p::ss).Pairwise fun a b=>bz a b=true
 | [],p,_=>by simp
 | x::r,p,h=>by
  simp only[risingS,Bool.and_eq_true,Bool.not_eq_true',ltCps_eq]at h;have hpx:bz p x=true:=by unfold bz;rw[h.1];rfl
  have ih:=lT h.2;refine List.pairwise_cons.mpr ⟨fun y hy => ?_,ih⟩
  rcases List.mem_cons.mp hy with rfl | hy
  ·exact hpx
  ·exact jg _ _ _ hpx ((List.pairwise_cons.mp ih).1 y hy)
theorem vT{ss ss':List Str}(hp:ss'.Perm ss)(hs:sortedS ss'=true):ss'=ss.mergeSort bz:=by
 refine List.Perm.eq_of_pairwise (le:=fun a b=>bz a b=true) (fun a b _ _ h1 h2=>qA h1 h2) ?_ (List.pairwise_mergeSort jg oF ss) (hp.trans (List.mergeSort_perm ss bz).symm)
 cases ss' with
 | nil=>exact List.Pairwise.nil
 | cons x r=>exact lT hs
theorem vU{ns ns':List Int}(hp:ns'.Perm ns)(hs:ns'.Pairwise (· <= ·)):ns'=ns.mergeSort fun a b=>decide (a<=b):=by
 refine List.Perm.eq_of_pairwise (le:=fun a b=>decide (a<=b)=true) (fun a b _ _ h1 h2 => ?_) (hs.imp fun h=>by simpa using h) (List.pairwise_mergeSort (fun a b c h1 h2 => ?_) (fun a b => ?_) ns) (hp.trans (List.mergeSort_perm ns _).symm)
 ·simp at h1 h2;omega
 ·simp at h1 h2 ⊢;omega
 ·simp;omega
theorem ki:∀ {ss:List Str} {us:List Value},Vals (ss.map V.str) us->StrsAre us ss
 | [],_,r=>by cases r;exact .nil
 | x::ss,_,r=>by
  cases r with
  | cons h t=>
   obtain⟨tk,rfl⟩:=h;exact .cons _ _ (ki t)
theorem lU:∀ {us:List Value} {ss:List Str},StrsAre us ss->Vals (ss.map V.str) us
 | _,_,.nil=>.nil
 | _,_,.cons x t h=>.cons ⟨t,rfl⟩ (lU h)
theorem tV{X:Cx}:dQ X (.builtin "sorted") (fun xs H Q=>∃ a,xs=[.ref a]/\((∃ ss:List Str,i7 X.K H a (ss.map V.str)/\ss.length < 64/\∀ l,H l=none->Q (.ref l) (upd H l (.lst ((ss.mergeSort bz).map V.str)))) \/
  ∃ ns:List Int,i7 X.K H a (ns.map V.int)/\ns.length < 64/\∀ l,H l=none->Q (.ref l) (upd H l (.lst ((ns.mergeSort fun a b=>decide (a<=b)).map V.int))))):=by
 intro pins s σ H xs us Q I r h;obtain⟨a,rfl,h⟩:=h;obtain⟨u,rfl,ru⟩:=vals1 r;cases ru;have fresh:H (s.heap.objs.size + 1)=none:=I.hok.fresh (Nat.le_succ _);rcases h with ⟨ss,hq,h64,q⟩ | ⟨ns,hq,h64,q⟩
 ·obtain⟨its,rv,pl,hz⟩:=I.list hq
  have hl:=rv.length;rw[List.length_map]at hl;refine sorted_strs (vs:=its) pl.isList (ki rv) (by omega) fun out ss' h1 h2 h3 => ?_
  obtain⟨e,he⟩:=sortedAll_at s.heap its out;have hs:=vT h2 h3;subst hs;refine⟨.ref (s.heap.objs.size + 1),_,I.laid (t':=s.toks) (o:=.lst ((ss.mergeSort bz).map V.str)) (fun b ob hb=>sortedAll_old hb) (Nat.le_succ _) ?_,rfl,q _ fresh⟩
  exact⟨by rw[List.length_map,List.length_mergeSort,sizeLine_eq];omega,out.toList,e,lU h1,he⟩
 ·obtain⟨its,rv,pl,hz⟩:=I.list hq
  have hl:=rv.length;rw[List.length_map]at hl;refine sorted_ints (vs:=its) pl.isList (intsAre_of rv) (by omega) fun out ns' h1 h2 h3 => ?_
  obtain⟨e,he⟩:=sortedAll_at s.heap its out;have hs:=vU h2 h3;subst hs;refine⟨.ref (s.heap.objs.size + 1),_,I.laid (t':=s.toks) (o:=.lst ((ns.mergeSort fun a b=>decide (a<=b)).map V.int)) (fun b ob hb=>sortedAll_old hb) (Nat.le_succ _) ?_,rfl,q _ fresh⟩
  exact⟨by rw[List.length_map,List.length_mergeSort,sizeLine_eq];omega,out.toList,e,iT h1,he⟩
section
variable{X:Cx}{Γ:ly}{bw:Bool}{a b:Expr}{rest:List Expr}{ca cb:Ex}{pos:Pos}
theorem yX{ta tb:TE}(ha:PE X a ta)(hb:PE X (.BoolOp .And (b::rest) pos) tb):PE X (.BoolOp .And (a::b::rest) pos) (fun σ H Q=>ta σ H fun x H1=>∃ c,n4 X.K x H1 c/\if c=true then tb σ H1 Q else Q x H1):=by
 intro pins s σ H Q I h;refine BoolOp_and (b7 (ha pins s σ H _ I h) fun v s1 ⟨x,H1,I1,r1,c,t1,q1⟩ => ?_)
 refine b7 (mB pins s1 σ H1 x v (fun d H2=>d=c/\H2=H1) I1 r1 ⟨c,t1,rfl,rfl⟩) fun d s2 ⟨H2,I2,e1,e2⟩ => ?_
 subst e1 e2;cases d with
 | true=>exact hb pins s2 σ H2 Q I2 q1
 | false=>exact⟨x,H2,I2,r1,q1⟩
theorem Cc{ta tb:TE}(ha:PE X a ta)(hb:PE X (.BoolOp .Or (b::rest) pos) tb):PE X (.BoolOp .Or (a::b::rest) pos) (fun σ H Q=>ta σ H fun x H1=>∃ c,n4 X.K x H1 c/\if c=true then Q x H1 else tb σ H1 Q):=by
 intro pins s σ H Q I h;refine BoolOp_or (b7 (ha pins s σ H _ I h) fun v s1 ⟨x,H1,I1,r1,c,t1,q1⟩ => ?_)
 refine b7 (mB pins s1 σ H1 x v (fun d H2=>d=c/\H2=H1) I1 r1 ⟨c,t1,rfl,rfl⟩) fun d s2 ⟨H2,I2,e1,e2⟩ => ?_
 subst e1 e2;cases d with
 | false=>exact hb pins s2 σ H2 Q I2 q1
 | true=>exact⟨x,H2,I2,r1,q1⟩
theorem yY{ta:TE}(ha:PE X a ta):PE X (.UnaryOp .Not a pos) (fun σ H Q=>ta σ H fun x H1=>∃ c,n4 X.K x H1 c/\Q (.bl (!c)) H1):=by
 intro pins s σ H Q I h;refine UnaryOp_ (b7 (ha pins s σ H _ I h) fun v s1 ⟨x,H1,I1,r1,c,t1,q1⟩ => ?_)
 refine not_of (b7 (mB pins s1 σ H1 x v (fun d H2=>d=c/\H2=H1) I1 r1 ⟨c,t1,rfl,rfl⟩) fun d s2 ⟨H2,I2,e1,e2⟩ => ?_)
 subst e1 e2;exact⟨.bl (!d),H2,I2,rfl,q1⟩
theorem dn.nw{own:Bool}{Z:Addr->Prop}{Hb H:Hp}{d:D}{v:V}(h:dn bw own Z Hb H d v):Now Z H d v:=by
 cases bw with
 | true=>exact h.now
 | false=>exact(h.weak (bw:=true)).now
end
noncomputable def Fs(sc:Scope)(x:Str):Bool:=match sc.names.lookup x with
 | some .local | some .cell | some .free=>true
 | _=>false
noncomputable def vV(sc:Scope)(x:Str):Bool:=match sc.names.lookup x with
 | some .local | some .cell=>true
 | _=>false
noncomputable def rV(sc:Scope)(x:Str):Bool:=sc.names.lookup x == some .globalImplicit
noncomputable def okN(x:Str):Bool := !(x == ("__debug__":Str)) && !(x == ("__classdict__":Str)) && !(x == ("__name__":Str))
noncomputable def yZ(N:List Str)(x:Str):Option Nat:=N.findIdx? (· == x)
def lV(sc:Scope)(N:List Str)(x:Str):Option Nat:=if Fs sc x && okN x then yZ N x else none
def vW(x:Str):Option Ty:=[Ty.int,.str,.bool,.list,.tuple,.dict].find? (fun t=>t.nm == x)
noncomputable def isStar:Expr->Bool
 | .Starred _ _=>true
 | _=>false
noncomputable def isSlice:Expr->Bool
 | .Slice _ _ _ _=>true
 | _=>false
noncomputable def isSet:Expr->Bool
 | .Set _ _ _=>true
 | _=>false
noncomputable def qB(scope sc:Scope):Scope:={ scope with names:=scope.names.map fun (n,k)=>if (k == .free && sc.kind == .function && sc.names.lookup n == some .cell) then (n,.cell) else (n,k) }
noncomputable def cT(scope:Scope):List Str:=(scope.names.filter fun y=>y.2 == .free).map (·.1)
def qD(sc:Scope)(N:List Str):List Str->Option (List Nat)
 | []=>some []
 | x::xs=>do let i ← lV sc N x;let is ← qD sc N xs;some (i::is)
def vX(scope:Scope)(sc:Scope)(x:Str):Bool:=
 scope.kind == .function && scope.names.all (fun y => !(y.2 == .cell)) && scope.names.all (fun y => !(y.2 == .local) || scope.names.lookup y.1 == some .local) &&
 scope.names.all (fun y => !(y.2 == .free) || (sc.names.lookup y.1 == some .cell || sc.names.lookup y.1 == some .free) && scope.names.lookup y.1 == some .free) &&
 scope.names.lookup x == some .local && decide ((x::cT scope).Nodup)
noncomputable def kj:List Comprehension->Option (Str×Pos×Expr×List Expr)
 | [⟨.Name x p,iter,ifs,0⟩]=>some (x,p,iter,ifs)
 | _=>none
theorem lW{gs:List Comprehension}{x:Str}{p:Pos}{iter:Expr}{ifs:List Expr}(h:kj gs=some (x,p,iter,ifs)):gs=[⟨.Name x p,iter,ifs,0⟩]:=by
 unfold kj at h;split at h
 ·cases h;rfl
 ·cases h
theorem vY{N:List Str}{x:Str}{i:Nat}(h:yZ N x=some i):N[i]?=some x:=by
 unfold yZ at h;obtain⟨hi,he,_⟩:=List.findIdx?_eq_some_iff_getElem.mp h;rw[List.getElem?_eq_getElem hi,eq_of_beq he]
theorem rW{sc:Scope}{N:List Str}{x:Str}{i:Nat}(h:lV sc N x=some i):N[i]?=some x/\xV sc x/\(x == ("__debug__":Str))=false/\(x == ("__classdict__":Str))=false:=by
 unfold lV at h;split at h
 ·rename_i hc
  simp only[Bool.and_eq_true,okN,Bool.not_eq_true']at hc;refine⟨vY h,?_,hc.2.1.1,hc.2.1.2⟩;have hv:=hc.1;unfold Fs at hv;unfold xV;split at hv
  ·rename_i q;exact .inl q
  ·rename_i q;exact .inr (.inl q)
  ·rename_i q;exact .inr (.inr q)
  ·cases hv
 ·cases h
theorem rX{x:Str}(h:okN x=true):(x == ("__debug__":Str))=false/\(x == ("__classdict__":Str))=false/\x≠"__name__":=by
 simp only[okN,Bool.and_eq_true,Bool.not_eq_true']at h;refine⟨h.1.1,h.1.2,fun e => ?_⟩
 rw[e]at h;simp at h
noncomputable def cY:List Str:=["len","all","any","list","tuple","int","min","max","bool","isinstance","str","dict","range","sorted","enumerate","reversed","set"]
theorem bV{e:Expr}{es:List Expr}{env:Env}(h:isStar e=false):starEach (e::es) env=(false,eval e env)::starEach es env:=by
 cases e<;>first | rfl | (cases h)
theorem cO{env:Env}{pos:Pos}:∀ {es:List Expr},(∀ e∈es,isStar e=false)->(backTo pos (starEach es env)).any (·.1)=false
 | [],_=>rfl
 | e::es,h=>by
  rw[bV (h e (by simp))]
  show(false || (backTo pos (starEach es env)).any (·.1))=false
  rw[cO fun z hz=>h z (by simp[hz])]
  rfl
section
variable{X:Cx}{Γ:ly}{T:Tab}{k:Nat}{sc:Scope}{N:List Str}
theorem Ft{x:Str}{t:Ty}(h:vW x=some t):x=t.nm/\t.nm∈cY:=by
 unfold vW at h;have h1:=List.find?_some h;exact⟨(eq_of_beq h1).symm,by cases t<;>decide⟩
end
section
variable{X:Cx}{Γ:ly}{T:Tab}{k:Nat}{sc:Scope}{N:List Str}
theorem vZ{sc:Scope}{N:List Str}:∀ {xs:List Str} {is:List Nat},qD sc N xs=some is->xs.length=is.length/\∀ (j i:Nat) (x:Str),xs[j]?=some x->is[j]?=some i->N[i]?=some x
 | [],is,h=>by cases h;exact⟨rfl,fun j i x e=>by simp at e⟩
 | x::xs,is,h=>by
  simp only[qD,Option.bind_eq_bind]at h;obtain⟨i,h1,h⟩:=Option.bind_eq_some_iff.mp h;obtain⟨is',h2,h⟩:=Option.bind_eq_some_iff.mp h;cases h;obtain⟨q1,q2⟩:=vZ h2;refine⟨by rw[List.length_cons,List.length_cons,q1],fun j i' y e1 e2 => ?_⟩
  cases j with
  | zero=>simp at e1 e2;subst e1 e2;exact(rW h1).1
  | succ j=>exact q2 j i' y (by simpa using e1) (by simpa using e2)
theorem iy{iter:Expr}{env:Env}(h:isSet iter=false):∀ x,foldedSetIterable iter env x=pure x:=by
 intro x;cases iter<;>first | rfl | (simp[isSet]at h)
theorem oG{op:CmpOp}{b:Expr}(h:isSet b=false):behindInMarks op b=false:=by
 cases b<;>first | rfl | (simp[isSet]at h)
end
def oH(sc:Scope)(N:List Str)(x:Str):Option Nat:=if vV sc x && okN x then yZ N x else none
noncomputable def qE:Expr->Bool
 | .ListComp .. | .SetComp .. | .DictComp ..=>true
 | _=>false
noncomputable def oI(sc:Scope)(x:Str)(px:Pos)(e:Expr):Bool:=match e with
 | .ListComp _ _ s _=>sc.names.lookup x == some .local && px.line == e.pos.line && !(s.names.any fun (n,k)=>n == x && (k == .local || k == .cell))
 | _=>false
noncomputable def dY:List Expr->Option (List (Str×Pos))
 | []=>some []
 | .Name x p::r=>(dY r).map ((x,p) :: ·)
 | _=>none
def km(sc:Scope)(N:List Str):List (Str×Pos)->Option (List Nat)
 | []=>some []
 | x::xs=>do let i ← oH sc N x.1;let is ← km sc N xs;some (i::is)
noncomputable def v5:Expr->Bool
 | .Call .. | .Name .. | .Subscript ..=>true
 | _=>false
section
variable{X:Cx}{Γ:ly}{T:Tab}{k:Nat}{sc:Scope}{N:List Str}
theorem jh:∀ {es:List Expr} {nms:List (Str×Pos)},dY es=some nms->es=nms.map fun x=>Expr.Name x.1 x.2
 | [],_,h=>by cases h;rfl
 | e::es,nms,h=>by
  unfold dY at h;split at h
  ·rename_i e;cases e
  ·rename_i x p r q
   cases q;obtain⟨ns,h1,h⟩:=Option.map_eq_some_iff.mp h;subst h;rw[jh h1];rfl
  ·cases h
theorem lX(env:Env):∀ (nms:List (Str×Pos)),(assignEach (nms.map fun x=>Expr.Name x.1 x.2) env).length=nms.length/\(assignEach (nms.map fun x=>Expr.Name x.1 x.2) env).findIdx? (·.1)=none
 | []=>⟨rfl,rfl⟩
 | x::r=>by
  obtain⟨h1,h2⟩:=lX env r;refine⟨?_,?_⟩
  ·show(assignEach (r.map fun x=>Expr.Name x.1 x.2) env).length + 1=_
   rw[h1];rfl
  ·show List.findIdx? (·.1) ((false,_)::assignEach (r.map fun x=>Expr.Name x.1 x.2) env)=none
   rw[List.findIdx?_cons,h2];rfl
end
def bW(N ps:List Str)(sc:Scope):Bool:=
 sc.kind == .function && !sc.isCoroutine && !sc.isGenerator && decide N.Nodup && decide (N.take ps.length=ps) && ps.all (vV sc) && sc.names.all fun y => !(y.2 == .free)
theorem dG{N ps:List Str}{sc:Scope}(h:bW N ps sc=true):fD N ps sc:=by
 simp only[bW,Bool.and_eq_true,Bool.not_eq_true',decide_eq_true_eq,List.all_eq_true,beq_iff_eq]at h;obtain⟨⟨⟨⟨⟨⟨h1,h2⟩,h3⟩,h4⟩,h5⟩,h6⟩,h7⟩:=h;refine⟨h1,h2,h3,h4,h5,fun x hx => ?_,fun y hy e => ?_⟩
 ·have hv:=h6 x hx
  unfold vV at hv;split at hv
  ·rename_i q;exact .inl q
  ·rename_i q;exact .inr q
  ·cases hv
 ·have:=h7 y hy
  rw[e]at this;exact absurd this (by decide)
section
variable{P:Program}{w:World}{K:PySem.W.Frag}{mg:Str->Option Value}{base:Heap}{Γ:ly}{T:Tab}{k:Nat}
end
noncomputable def y4:Value->Bool
 | .type x=>x == "list"
 | _=>false
def oJ(K:PySem.W.Frag):Bool:=K.all fun p => !y4 p.2.cls
theorem oK:∀ {K:PySem.W.Frag} {a:Addr} {o:Obj},K.lookup a=some o->(a,o)∈K
 | [],_,_,h=>by cases h
 | (b,p)::K,a,o,h=>by
  rw[List.lookup_cons]at h;split at h
  ·rename_i e
   cases h;rw[eq_of_beq e];simp
  ·exact List.mem_cons_of_mem _ (oK h)
theorem Fu{K:PySem.W.Frag}(hK:oJ K=true){H:Hp}{a:Addr}{xs:List V}(h:i7 K H a xs):Rd H a (.lst xs):=by
 rcases h with h | ⟨o,its,n,h1,h2,_⟩
 ·exact h
 ·have hm:=oK h1
  have:=List.all_eq_true.mp hK _ hm;rw[h2]at this;exact absurd this (by decide)
noncomputable def v7(K:PySem.W.Frag)(x:Str):Bool:=match PySem.W.nsIn K mainGlobals x with
 | some none=>true
 | _=>false
def rY(K:PySem.W.Frag):Bool:=cY.all (v7 K)
theorem v8{K:PySem.W.Frag}{h:Heap}{mg:Str->Option Value}(X:K.In h)(G:h.Ns mainGlobals mg)(nb:rY K=true):∀ x∈cY,mg x=none:=fun x hx=>by
 have:=List.all_eq_true.mp nb x hx;unfold v7 at this;split at this
 ·rename_i q;exact PySem.W.mg_none_of X G q
 ·cases this
end Mir
namespace Mir
open PySem
@[simp] theorem Fv:jt .non=some false:=rfl
@[simp] theorem y6{b:Bool}:jt (.bl b)=some b:=rfl
@[simp] theorem Fw{i:Int}:jt (.int i)=some (i != 0):=rfl
@[simp] theorem Fx{xs:List D}:jt (.lst xs)=some (!xs.isEmpty):=rfl
@[simp] theorem Fy{xs:List D}:jt (.tup xs)=some (!xs.isEmpty):=rfl
section
variable{Γ:ly}{ρ:yK}{a b:NK}{e:Ex}{i j:Nat}{bw:Bool}
end
section
variable{bw:Bool}{i:Nat}{a b c es:Ex}
end
section
variable{Γ:ly}{ρ:yK}{bw:Bool}{i:Nat}{a b c es:Ex}
def yO(o:Bool)(f:List D->D):D->Out Rs
 | .tup ds=>if small ds.length=true then .ok (o,f ds) else .bad
 | _=>.bad
@[simp] theorem Fz{o:Bool}{f:List D->D}{ds:List D}:yO o f (.tup ds)=if small ds.length=true then .ok (o,f ds) else .bad:=rfl
end
@[simp] theorem Ik{i j:Int}:e9 .Add (.int i) (.int j)=.ok (false,.int (i + j)):=rfl
@[simp] theorem Il{i j:Int}:e9 .Sub (.int i) (.int j)=.ok (false,.int (i - j)):=rfl
@[simp] theorem Im{i j:Int}:e9 .Mult (.int i) (.int j)=if (lx i || lx j)=true then .ok (false,.int (i * j)) else .bad:=rfl
@[simp] theorem Io{i j:Int}:e9 .FloorDiv (.int i) (.int j)=if (decide (0 < j) && decide (j < 1073741824))=true then .ok (false,.int (i / j)) else .bad:=rfl
@[simp] theorem Ip{i j:Int}:e9 .Mod (.int i) (.int j)=if decide (0 < j)=true then .ok (false,.int (i % j)) else .bad:=rfl
@[simp] theorem Iq{i j:Int}:e9 .Pow (.int i) (.int j)=if (decide (0<=j) && decide (j<=1000) && decide (i.natAbs < 2 ^ 64))=true then .ok (false,.int (i ^ j.toNat)) else .bad:=rfl
@[simp] theorem FA{i j:Str}:e9 .Add (.str i) (.str j)=if small (i.length + j.length)=true then .ok (false,.str (i++j)) else .bad:=rfl
@[simp] theorem FC{i j:List D}:e9 .Add (.lst i) (.lst j)=if small (i.length + j.length)=true then .ok (true,.lst (i++j)) else .bad:=rfl
@[simp] theorem Cd{x y:D}:dF .Eq x y=if (aH 8 x && aH 8 y)=true then .ok (dS x y) else .bad:=rfl
@[simp] theorem qF{x y:D}:dF .NotEq x y=if (aH 8 x && aH 8 y)=true then .ok (!dS x y) else .bad:=rfl
@[simp] theorem KQ{i j:Int}:dF .Lt (.int i) (.int j)=.ok (decide (i < j)):=rfl
@[simp] theorem KR{i j:Int}:dF .LtE (.int i) (.int j)=.ok (decide (i<=j)):=rfl
@[simp] theorem cmp_gt{i j:Int}:dF .Gt (.int i) (.int j)=.ok (decide (j < i)):=rfl
@[simp] theorem KS{i j:Int}:dF .GtE (.int i) (.int j)=.ok (decide (j<=i)):=rfl
@[simp] theorem KU{x y:D}:dF .In x y=inD x y:=rfl
@[simp] theorem Ir{x y:D}:dF .NotIn x y=inD x y >>= fun b=>.ok (!b):=rfl
@[simp] theorem KW{x y:D}:dF .Is x y=isD x y:=rfl
@[simp] theorem Iu{x y:D}:dF .IsNot x y=isD x y >>= fun b=>.ok (!b):=rfl
@[simp] theorem KY{n:Nat}:aH n .non=true:=by cases n<;>rfl
@[simp] theorem NO{n:Nat}{b:Bool}:aH n (.bl b)=true:=by cases n<;>rfl
@[simp] theorem KZ{n:Nat}{i:Int}:aH n (.int i)=true:=by cases n<;>rfl
@[simp] theorem K_{n:Nat}{x:Str}:aH n (.str x)=true:=by cases n<;>rfl
@[simp] theorem La{n:Nat}{xs:List D}:aH (n + 1) (.lst xs)=xs.all (aH n):=rfl
@[simp] theorem Lb{n:Nat}{xs:List D}:aH (n + 1) (.tup xs)=xs.all (aH n):=rfl
@[simp] theorem eq_int{i j:Int}:dS (.int i) (.int j)=(i == j):=rfl
@[simp] theorem NP{i j:Bool}:dS (.bl i) (.bl j)=(i == j):=rfl
@[simp] theorem eq_str{i j:Str}:dS (.str i) (.str j)=(i == j):=rfl
@[simp] theorem Lc{i j:List D}:dS (.lst i) (.lst j)=dA i j:=rfl
@[simp] theorem Ld{i j:List D}:dS (.tup i) (.tup j)=dA i j:=rfl
@[simp] theorem Iv:dA [] []=true:=rfl
@[simp] theorem oM{x y:D}{xs ys:List D}:dA (x::xs) (y::ys)=(dS x y && dA xs ys):=rfl
@[simp] theorem Le{y:D}{ys:List D}:dA [] (y::ys)=false:=rfl
@[simp] theorem Lf{y:D}{ys:List D}:dA (y::ys) []=false:=rfl
theorem y8{z:Str}{i:Int}{c:Nat}(h:small z.length=true)(e:L2.i_ z.cps.toList i=some c):p9 (.str z) (.int i)=.ok (false,.str (gc c)):=by
 simp only[p9,h,if_pos,e]
@[simp] theorem Iw{xs:List D}{l h:Option Int}:vt (.lst xs) l h=.ok (true,.lst (cW xs l h)):=rfl
@[simp] theorem Iy{z:Str}{l h:Option Int}:vt (.str z) l h=if small z.length=true then .ok (false,.str ⟨(cW z.cps.toList l h).toArray⟩) else .bad:=rfl
@[simp] theorem Iz{xs:List D}:hZ .len (.tup [.lst xs])=.ok (false,.int xs.length):=rfl
@[simp] theorem ID{xs:List D}:hZ .len (.tup [.tup xs])=.ok (false,.int xs.length):=rfl
@[simp] theorem len_str{z:Str}:hZ .len (.tup [.str z])=if small z.length=true then .ok (false,.int z.length) else .bad:=rfl
noncomputable def v9(f:List Bool->Bool):Option (List Bool)->Out Rs
 | some bs=>.ok (false,.bl (f bs))
 | none=>.bad
@[simp] theorem Ed{f:List Bool->Bool}{bs:List Bool}:v9 f (some bs)=.ok (false,.bl (f bs)):=rfl
@[simp] theorem IE{xs:List D}:hZ .all (.tup [.lst xs])=v9 (fun bs=>bs.all id) (e_ xs):=rfl
@[simp] theorem IF{xs:List D}:hZ .any (.tup [.lst xs])=v9 (fun bs=>bs.any id) (e_ xs):=rfl
@[simp] theorem FD{xs:List D}:hZ .list (.tup [.lst xs])=.ok (true,.lst xs):=rfl
@[simp] theorem FE{xs:List D}:hZ .list (.tup [.tup xs])=.ok (true,.lst xs):=rfl
@[simp] theorem Ee{xs:List D}:hZ .tuple (.tup [.lst xs])=.ok (false,.tup xs):=rfl
@[simp] theorem Ef{xs:List D}:hZ .tuple (.tup [.tup xs])=.ok (false,.tup xs):=rfl
@[simp] theorem int_int{i:Int}:hZ .int (.tup [.int i])=.ok (false,.int i):=rfl
@[simp] theorem Lg{k:Bool}:hZ .int (.tup [.bl k])=.ok (false,.int (if k then 1 else 0)):=rfl
@[simp] theorem IG{i j:Int}:hZ .min (.tup [.int i,.int j])=.ok (false,.int (if j < i then j else i)):=rfl
@[simp] theorem IH{i j:Int}:hZ .max (.tup [.int i,.int j])=.ok (false,.int (if j > i then j else i)):=rfl
@[simp] theorem Lh{t:Ty}:vv .non t=some false:=rfl
@[simp] theorem NQ{t:Ty}{b:Bool}:vv (.bl b) t=some (t == .bool || t == .int):=rfl
@[simp] theorem ty_int{t:Ty}{i:Int}:vv (.int i) t=some (t == .int):=rfl
@[simp] theorem ty_str{t:Ty}{x:Str}:vv (.str x) t=some (t == .str):=rfl
@[simp] theorem Li{t:Ty}{xs:List D}:vv (.lst xs) t=some (t == .list):=rfl
@[simp] theorem Lj{t:Ty}{xs:List D}:vv (.tup xs) t=some (t == .tuple):=rfl
@[simp] theorem Lk{t:Ty}{ks:List L2.Key}{xs:List D}:vv (.dct ks xs) t=some (t == .dict):=rfl
theorem ba{n:Nat}(h:n<=100000):small n=true:=by
 unfold small;rw[decide_eq_true_eq,sizeLine_eq];omega
theorem jB{i:Int}(h1 : -(2 ^ 64) < i)(h2:i < 2 ^ 64):lx i=true:=decide_eq_true (by omega)
theorem dH{i:Int}(h1 : -(2 ^ 62) < i)(h2:i < 2 ^ 62):hW i=true:=decide_eq_true (by omega)
theorem Ce{α:Type}{xs:List α}{i:Int}(h0:0<=i)(h1:i < xs.length):∃ x,x∈xs/\L2.i_ xs i=some x:=by
 have hl:i.toNat < xs.length:=by omega
 refine⟨xs[i.toNat],List.getElem_mem hl,?_⟩;have h:=L2.bK (List.getElem?_eq_getElem hl);rw[show(i.toNat:Int)=i by omega]at h
 exact h
theorem rZ{α:Type}{p:α->Bool}:∀ {xs:List α},e_ (xs.map fun x=>.bl (p x))=some (xs.map p)
 | []=>rfl
 | x::xs=>by simp only[List.map_cons,e_,y6,rZ]
@[simp] theorem in_str{x y:Str}:inD (.str x) (.str y)=.ok (AZ x y):=rfl
theorem cp(n:Nat):∀ lo:Int,(intsFrom lo n).length=n:=by
 induction n with
 | zero=>intro lo;rfl
 | succ n ih=>intro lo;simp[intsFrom,ih]
theorem dI{n:Nat}:∀ {lo:Int} {i:Nat} {d:D},(intsFrom lo n)[i]?=some d->d=.int (lo + i)/\i < n:=by
 induction n with
 | zero=>intro lo i d h;simp[intsFrom]at h
 | succ n ih=>
  intro lo i d h;cases i with
  | zero=>simp[intsFrom]at h;subst h;exact⟨by simp,by omega⟩
  | succ i=>
   simp[intsFrom]at h;obtain⟨h1,h2⟩:=ih h;exact⟨by rw[h1];congr 1;omega,by omega⟩
theorem str_len{z:Str}:z.length=z.cps.toList.length:=by unfold Str.length;simp
theorem kn{c:Nat}:(gc c).length=1:=rfl
noncomputable def L1(xs:List Str):D:=.lst (xs.map .str)
def LL(rs:List (List Str)):D:=.lst (rs.map L1)
theorem mT{α:Type}(xs:List α)(k:Nat):cW xs (some (k:Int)) none=xs.drop k:=by
 unfold cW;rw[HT.n9,HT.rk];rcases Nat.le_total k xs.length with h | h
 ·rw[Nat.min_eq_left h]
  exact List.take_of_length_le (by simp)
 ·rw[Nat.min_eq_right h,List.drop_eq_nil_of_le (Nat.le_refl _),List.drop_eq_nil_of_le h];simp
theorem v_{α:Type}(xs:List α)(k:Nat):cW xs none (some (k:Int))=xs.take k:=by
 unfold cW;rw[HT.n9,HT.rk,List.drop_zero,Nat.sub_zero];rcases Nat.le_total k xs.length with h | h
 ·rw[Nat.min_eq_left h]
 ·rw[Nat.min_eq_right h,List.take_of_length_le (Nat.le_refl _),List.take_of_length_le h]
@[simp] theorem NR{α:Type}(xs:List α):cW xs (some 1) none=xs.tail:=by rw[show(1:Int)=((1:Nat):Int) from rfl,mT];simp
theorem mU(n:Nat)(xs:List Str):(xs.map D.str).all (aH n)=true:=by
 rw[List.all_eq_true];intro d hd;obtain⟨x,_,rfl⟩:=List.mem_map.mp hd;simp
theorem y9(xs:List Str)(n:Str):((xs.map D.str).any fun y=>dS y (.str n))=decide (n∈xs):=by
 induction xs with
 | nil=>rfl
 | cons x xs ih=>
  simp only[List.map_cons,List.any_cons,ih,eq_str,List.mem_cons]
  by_cases h:n=x
  ·subst h;simp
  ·have:(x == n)=false:=by simp;exact fun e=>h e.symm
   simp[this,h]
theorem y_(xs:List Str)(n:Str):inD (.str n) (.lst (xs.map .str))=.ok (decide (n∈xs)):=by
 have:inD (.str n) (.lst (xs.map .str))=if aH 8 (.str n) && (xs.map D.str).all (aH 8) then .ok ((xs.map D.str).any fun y=>dS y (.str n)) else .bad:=rfl
 rw[this,mU,y9];simp
theorem r_(xs ys:List Str):dA (xs.map .str) (ys.map .str)=decide (xs=ys):=by
 induction xs generalizing ys with
 | nil=>cases ys<;>simp
 | cons x xs ih=>
  cases ys with
  | nil=>simp
  | cons y ys=>
   simp only[List.map_cons,oM,eq_str,ih,List.cons.injEq]
   by_cases h:x=y
   ·subst h;simp
   ·simp[h]
theorem oN(n:Nat)(xs:List Str):aH (n + 1) (L1 xs)=true:=mU n xs
noncomputable def freeOf(rs:List (List Str)):List Str->Option Str
 | []=>none
 | n::_=>if ∃ t∈rs,n∈t.tail then none else some n
theorem dZ{rs:List (List Str)}{n:Str}{r:List Str}(h:∃ t∈rs,n∈t.tail):freeOf rs (n::r)=none:=if_pos h
theorem cP{rs:List (List Str)}{n:Str}{r:List Str}(h:¬ ∃ t∈rs,n∈t.tail):freeOf rs (n::r)=some n:=if_neg h
def free(rs:List (List Str)):Option Str:=rs.findSome? (freeOf rs)
noncomputable def wa:Option Str->D
 | none=>.non
 | some n=>.str n
@[simp] theorem Ll{x:Str}:isD (.str x) .non=.ok false:=rfl
@[simp] theorem II:isD .non .non=.ok true:=rfl
@[simp] theorem Lm{x:Int}:isD (.int x) .non=.ok false:=rfl
@[simp] theorem Ln{x:List D}:isD (.lst x) .non=.ok false:=rfl
noncomputable def br(n:Str)(r:List Str):List Str:=if r.take 1=[n] then r.tail else r
inductive Mg:List (List Str)->List Str->Prop
 | done {rs}:(∀ r∈rs,r=[])->Mg rs []
 | step {rs n o}:(∃ r∈rs,r≠[])->free rs=some n->Mg (rs.map (br n)) o->Mg rs (n::o)
theorem any_rows(rs:List (List Str)):e_ (rs.map L1)=some (rs.map fun r => !r.isEmpty):=by
 induction rs with
 | nil=>rfl
 | cons r rs ih=>
  simp only[List.map_cons,e_,ih];simp[L1]
theorem any_true{rs:List (List Str)}(h:∃ r∈rs,r≠[]):(rs.map fun r => !r.isEmpty).any id=true:=by
 obtain⟨r,hr,hn⟩:=h;rw[List.any_eq_true];exact⟨_,List.mem_map.mpr ⟨r,hr,rfl⟩,by cases r<;>simp at hn ⊢⟩
theorem any_false{rs:List (List Str)}(h:∀ r∈rs,r=[]):(rs.map fun r => !r.isEmpty).any id=false:=by
 rw[List.any_eq_false];intro b hb;obtain⟨r,hr,rfl⟩:=List.mem_map.mp hb;rw[h r hr];simp
abbrev Fn:=List D->Out Rs
def dC(μ:Int->Int->Int->Int)(F:Fn):Prop:=∀ c t m,0<=t->t < 100000->0 < m->0<=μ c t m/\μ c t m < m/\F [.int c,.int t,.int m]=.ok (false,.int (μ c t m))
noncomputable def SC(ns:List Int):D:=.lst (ns.map .int)
def mV(κ:List Int->Nat->Int)(F:Fn):Prop:=∀ ns (k:Nat),F [SC ns,.int k]=.ok (false,.int (κ ns k))
theorem ints_map(lo:Int)(n:Nat):intsFrom lo n=(List.range n).map fun (i:Nat)=>D.int (lo + i):=by
 apply List.ext_getElem?;intro i
 by_cases h:i < n
 ·have hl:i < (intsFrom lo n).length:=by rw[cp];exact h
  have e:=(dI (List.getElem?_eq_getElem hl)).1;rw[List.getElem?_eq_getElem hl,e];simp[h]
 ·rw[List.getElem?_eq_none (by rw[cp];omega),List.getElem?_eq_none (by simp;omega)]
theorem lY(n:Nat):intsFrom 0 n=(List.range n).map fun (i:Nat)=>D.int i:=by
 rw[ints_map];congr 1;funext i;simp
theorem lZ{α β:Type}(f:α->β):∀ (xs:List α) (i:Nat),(xs.map f).eraseIdx i=(xs.eraseIdx i).map f
 | [],_=>by simp
 | x::xs,0=>by simp
 | x::xs,i + 1=>by simp[lZ f xs i]
theorem ko{α:Type}:∀ (xs:List α) (i:Nat) (h:i < xs.length),(xs[i]::xs.eraseIdx i).Perm xs
 | x::xs,0,_=>by simp
 | x::xs,i + 1,h=>by
  have ih:=ko xs i (by simpa using h)
  simp only[List.getElem_cons_succ,List.eraseIdx_cons_succ];exact(List.Perm.swap _ _ _).trans (List.Perm.cons x ih)
theorem tW{α:Type}(xs:List α)(d:α):∀ (p:Nat->Bool),(((List.range xs.length).filter p).map fun i=>xs.getD i d).Sublist xs:=by
 intro p
 have h1:((List.range xs.length).map fun i=>xs.getD i d)=xs:=by
  apply List.ext_getElem?;intro i
  by_cases h:i < xs.length
  ·simp[h]
  ·rw[List.getElem?_eq_none (by simpa using h),List.getElem?_eq_none (by omega)]
 have h2:(((List.range xs.length).filter p).map fun i=>xs.getD i d).Sublist ((List.range xs.length).map fun i=>xs.getD i d):=List.Sublist.map _ List.filter_sublist
 rw[h1]at h2;exact h2
noncomputable def abc:Str:="abcdefghijklmnopqrstuvwxyz"
theorem Cf:∀ q:Nat,q < 26->abc.cps.toList[q]?=some (97 + q):=by decide
theorem sd{q:Int}(h0:0<=q)(h1:q < 26):p9 (.str abc) (.int q)=.ok (false,.str (gc (97 + q.toNat))):=by
 refine y8 (ba (by decide)) ?_
 have:=L2.bK (Cf q.toNat (by omega))
 rwa[show((q.toNat:Nat):Int)=q by omega]at this
noncomputable def bs(μ:Int->Int->Int->Int)(c:Int):List D:=(List.range 8).map fun (i:Nat)=>.int (μ c i 26)
section
variable{Γ:ly}{M:Fn}{μ:Int->Int->Int->Int}{c:Int}{m:Nat}
def Nm(μ:Int->Int->Int->Int)(c:Int)(m at' k:Nat)(z:Str):Prop:=
 z.length<=8/\if μ c 10 4=1/\m < 9 then z.length=k + 1 else z.cps.toList[at']?=some (97 + ((μ c at' 26 + k) % 26).toNat)
theorem FF{at' k k':Nat}{z z':Str}(hk:k < m)(hk':k' < m)(hm:m<=24)(h:Nm μ c m at' k z)(h':Nm μ c m at' k' z')(e:z=z'):k=k':=by
 subst e;obtain⟨_,h⟩:=h;obtain⟨_,h'⟩:=h'
 by_cases hj:μ c 10 4=1/\m < 9
 ·rw[if_pos hj]at h h';omega
 ·rw[if_neg hj]at h h'
  rw[h]at h';have:=Option.some.inj h';omega
end
theorem za{rs:List (List Str)}{r:List Str}{n:Str}(hr:r∈rs)(h:freeOf rs r=some n):∃ k,free rs=some k:=by
 unfold free;cases q:rs.findSome? (freeOf rs) with
 | some k=>exact⟨k,rfl⟩
 | none=>
  rw[List.findSome?_eq_none_iff]at q;rw[q r hr]at h;cases h
theorem fJ{rs:List (List Str)}{n:Str}(h:free rs=some n):(∃ r∈rs,∃ t,r=n::t)/\∀ t∈rs,n∉t.tail:=by
 unfold free at h;obtain⟨r,hr,e⟩:=List.exists_of_findSome?_eq_some h;cases r with
 | nil=>cases e
 | cons x t=>
  by_cases hb:∃ t∈rs,x∈t.tail
  ·rw[dZ hb]at e;cases e
  ·rw[cP hb]at e
   cases e;exact⟨⟨_,hr,t,rfl⟩,fun t ht hn=>hb ⟨t,ht,hn⟩⟩
theorem zb{n:Str}{rs:List (List Str)}(hf:free rs=some n):∀ r∈rs.map (br n),n∉r:=by
 intro r hr hn;obtain⟨t,ht,rfl⟩:=List.mem_map.mp hr;have hno:=(fJ hf).2 t ht;unfold br at hn;split at hn
 ·exact hno hn
 ·rename_i h
  cases t with
  | nil=>simp at hn
  | cons x t=>
   rcases List.mem_cons.mp hn with e | e
   ·subst e;exact h (by simp)
   ·exact hno e
theorem wb{n x:Str}{r:List Str}(h:x∈br n r):x∈r:=by
 unfold br at h;split at h
 ·exact List.mem_of_mem_tail h
 ·exact h
theorem qG{rs:List (List Str)}{o:List Str}(M:Mg rs o):∀ x∈o,∃ r∈rs,x∈r:=by
 induction M with
 | done h=>intro x hx;simp at hx
 | @step rs n o hne hf _ ih=>
  intro x hx;rcases List.mem_cons.mp hx with e | e
  ·subst e
   obtain⟨⟨r,hr,t,rfl⟩,_⟩:=fJ hf;exact⟨_,hr,by simp⟩
  ·obtain⟨r,hr,hx⟩:=ih x e
   obtain⟨t,ht,rfl⟩:=List.mem_map.mp hr;exact⟨t,ht,wb hx⟩
theorem oO{rs:List (List Str)}{o:List Str}(M:Mg rs o):o.Nodup:=by
 induction M with
 | done h=>exact List.nodup_nil
 | @step rs n o hne hf M' ih=>
  refine List.nodup_cons.mpr ⟨fun h => ?_,ih⟩
  obtain⟨r,hr,hx⟩:=qG M' n h;exact zb hf r hr hx
section
variable{Γ:ly}
noncomputable def behind(rs:List (List Str)):List Str:=rs.flatMap List.tail
end
@[simp] theorem IJ{xs:List Str}:hZ .list (.tup [L1 xs])=.ok (true,L1 xs):=rfl
@[simp] theorem IK{xs:List (List Str)}:hZ .list (.tup [LL xs])=.ok (true,LL xs):=rfl
@[simp] theorem NS{xs:List Str}{n:Str}:inD (.str n) (L1 xs)=.ok (decide (n∈xs)):=y_ xs n
@[simp] theorem NT{xs:List Str}{t:Ty}:vv (L1 xs) t=some (t == .list):=rfl
@[simp] theorem NU{a b:Bool}:isD (.bl a) (.bl b)=.ok (a == b):=rfl
open L2
structure Lo where
 name:Str
 qual:Str
 params:Arguments
 body:List Stmt
 scope:Scope
 ps:List Str
 cn:List Str
class aA where
 tab:Nat->Lo
 ta:Nat->Addr
inductive Cell where
 | lst (ds:List D)
 | dK (kvs:List (Key×D))
 | dT (kvs:List (List Key×D))
 | ins (C:Str) (fs:List (Str×D))
 | fn (j:Nat) (mW:List D)
 | tb (j:Nat) (p:Pos) (b:Bool)
abbrev ay:=List Cell
inductive av (α:Type) where
 | ok (a:α) (Ω:ay)
 | exc (x:D) (Ω:ay)
 | bad
noncomputable def av.bind{α β:Type}:av α->(α->ay->av β)->av β
 | .ok a Ω,f=>f a Ω
 | .exc x Ω,_=>.exc x Ω
 | .bad,_=>.bad
abbrev aP:=List (Option D)
inductive aK {α β:Type} (R:α->β->Prop):List α->List β->Prop where
 | nil:aK R [] []
 | cons {a b as bs}:R a b->aK R as bs->aK R (a::as) (b::bs)
namespace aK
variable{α β:Type}{R S:α->β->Prop}
theorem length:∀ {as:List α} {bs:List β},aK R as bs->bs.length=as.length
 | _,_,.nil=>rfl
 | _,_,.cons _ t=>by rw[List.length_cons,List.length_cons,length t]
theorem imp(h:∀ a b,R a b->S a b):∀ {as:List α} {bs:List β},aK R as bs->aK S as bs
 | _,_,.nil=>.nil
 | _,_,.cons r t=>.cons (h _ _ r) (imp h t)
theorem get:∀ {as:List α} {bs:List β} {i:Nat} {a:α},aK R as bs->as[i]?=some a->∃ b,bs[i]?=some b/\R a b
 | _,_,_,_,.nil,e=>by simp at e
 | _,_,0,_,.cons r _,e=>by simp at e;subst e;exact⟨_,rfl,r⟩
 | _,_,i + 1,a,.cons _ t,e=>by
  obtain⟨u,h1,h2⟩:=get (i:=i) (a:=a) t (by simpa using e)
  exact⟨u,by simpa using h1,h2⟩
theorem Cg:∀ {as:List α} {bs:List β} {i:Nat} {b:β},aK R as bs->bs[i]?=some b->∃ a,as[i]?=some a/\R a b
 | _,_,_,_,.nil,e=>by simp at e
 | _,_,0,_,.cons r _,e=>by simp at e;subst e;exact⟨_,rfl,r⟩
 | _,_,i + 1,a,.cons _ t,e=>by
  obtain⟨u,h1,h2⟩:=Cg (i:=i) (b:=a) t (by simpa using e)
  exact⟨u,by simpa using h1,h2⟩
theorem append:∀ {as cs:List α} {bs ds:List β},aK R as bs->aK R cs ds->aK R (as++cs) (bs++ds)
 | _,_,_,_,.nil,h=>h
 | _,_,_,_,.cons r t,h=>.cons r (append t h)
theorem one{a:α}{b:β}(h:R a b):aK R [a] [b]:=.cons h .nil
theorem take:∀ {as:List α} {bs:List β} (n:Nat),aK R as bs->aK R (as.take n) (bs.take n)
 | _,_,0,_=>by simp;exact .nil
 | _,_,n + 1,.nil=>by simp;exact .nil
 | _,_,n + 1,.cons r t=>.cons r (take n t)
theorem drop:∀ {as:List α} {bs:List β} (n:Nat),aK R as bs->aK R (as.drop n) (bs.drop n)
 | _,_,0,h=>h
 | _,_,n + 1,.nil=>by simp;exact .nil
 | _,_,n + 1,.cons r t=>drop n t
theorem reverse:∀ {as:List α} {bs:List β},aK R as bs->aK R as.reverse bs.reverse
 | _,_,.nil=>.nil
 | _,_,.cons r t=>by rw[List.reverse_cons,List.reverse_cons];exact(reverse t).append (one r)
theorem eraseIdx:∀ {as:List α} {bs:List β} (n:Nat),aK R as bs->aK R (as.eraseIdx n) (bs.eraseIdx n)
 | _,_,n,.nil=>by simp;exact .nil
 | _,_,0,.cons _ t=>t
 | _,_,n + 1,.cons r t=>.cons r (eraseIdx n t)
theorem set{a:α}{b:β}(r:R a b):∀ {as:List α} {bs:List β} (n:Nat),aK R as bs->aK R (as.set n a) (bs.set n b)
 | _,_,_,.nil=>.nil
 | _,_,0,.cons _ t=>.cons r t
 | _,_,n + 1,.cons q t=>.cons q (set r n t)
theorem nil_inv{bs:List β}(h:aK R [] bs):bs=[]:=by cases h;rfl
theorem cons_inv{a:α}{as:List α}{bs:List β}(h:aK R (a::as) bs):∃ b r,bs=b::r/\R a b/\aK R as r:=by
 cases h with
 | cons r t=>exact⟨_,_,rfl,r,t⟩
end aK
mutual
noncomputable def au(α:List Addr)(Z:Addr->Prop)(H:Hp):D->V->Prop
 | .non,v=>v=.non
 | .bl b,v=>v=.bl b
 | .int i,v=>v=.int i
 | .str x,v=>v=.str x
 | .lst ds,v=>∃ a vs,v=.ref a/\Z a/\Rd H a (.lst vs)/\dq α Z H ds vs
 | .tup ds,v=>∃ a vs,v=.ref a/\Z a/\H a=some (.tup vs)/\dq α Z H ds vs
 | .dct _ _,_=>False
 | .ref n,v=>∃ a,α[n]?=some a/\v=.ref a
noncomputable def dq(α:List Addr)(Z:Addr->Prop)(H:Hp):List D->List V->Prop
 | [],vs=>vs=[]
 | d::ds,vs=>∃ v r,vs=v::r/\au α Z H d v/\dq α Z H ds r
end
theorem a_{α:List Addr}{Z:Addr->Prop}{H:Hp}:∀ {ds:List D} {vs:List V},dq α Z H ds vs↔aK (au α Z H) ds vs
 | [],vs=>by
  simp only[dq];exact⟨fun h=>by subst h;exact .nil,fun h=>h.nil_inv⟩
 | d::ds,vs=>by
  simp only[dq];constructor
  ·rintro⟨v,r,rfl,h1,h2⟩
   exact .cons h1 (a_.mp h2)
  ·intro h
   obtain⟨v,r,rfl,h1,h2⟩:=h.cons_inv;exact⟨v,r,rfl,h1,a_.mpr h2⟩
section
variable{α α':List Addr}{Z Z':Addr->Prop}{H H':Hp}
mutual
theorem au.mono(p:∀ (n:Nat) (a:Addr),α[n]?=some a->α'[n]?=some a)(k:∀ a o,Z a->H a=some o->H' a=some o)(z:∀ a,Z a->Z' a):∀ {d:D} {v:V},au α Z H d v->au α' Z' H' d v
 | .non,_,h=>by simpa only [au] using h
 | .bl _,_,h=>by simpa only [au] using h
 | .int _,_,h=>by simpa only [au] using h
 | .str _,_,h=>by simpa only [au] using h
 | .lst ds,v,h=>by
  simp only[au]at h ⊢;obtain⟨a,vs,e,hz,hr,hs⟩:=h;exact⟨a,vs,e,z a hz,mM (fun o=>k a o hz) hr,dq.mono p k z hs⟩
 | .tup ds,v,h=>by
  simp only[au]at h ⊢;obtain⟨a,vs,e,hz,hr,hs⟩:=h;exact⟨a,vs,e,z a hz,k a _ hz hr,dq.mono p k z hs⟩
 | .dct ks ds,v,h=>by simp only[au]at h
 | .ref n,v,h=>by
  simp only[au]at h ⊢;obtain⟨a,e,h⟩:=h;exact⟨a,p n a e,h⟩
theorem dq.mono(p:∀ (n:Nat) (a:Addr),α[n]?=some a->α'[n]?=some a)(k:∀ a o,Z a->H a=some o->H' a=some o)(z:∀ a,Z a->Z' a):∀ {ds:List D} {vs:List V},dq α Z H ds vs->dq α' Z' H' ds vs
 | [],_,h=>by simpa only [dq] using h
 | d::ds,vs,h=>by
  simp only[dq]at h ⊢;obtain⟨v,r,e,h1,h2⟩:=h;exact⟨v,r,e,au.mono p k z h1,dq.mono p k z h2⟩
end
end
def A3{K:Type}(R:D->V->Prop)(kvs:List (K×D))(kvs':List (K×V)):Prop:=aK (fun p q=>p.1=q.1/\R p.2 q.2) kvs kvs'
variable [aA]
def gS(κ:Str->Addr->Prop)(R:D->V->Prop)(H:Hp)(a:Addr):Cell->Prop
 | .lst ds=>∃ vs,H a=some (.lst vs)/\aK R ds vs
 | .dK kvs=>∃ kvs',H a=some (.dK kvs')/\A3 R kvs kvs'
 | .dT kvs=>∃ kvs',H a=some (.dT kvs')/\A3 R kvs kvs'
 | .ins C fs=>∃ Ca dx fs',κ C Ca/\H a=some (.ins Ca dx fs')/\A3 R fs fs'
 | _=>False
theorem A3.imp{K:Type}{R S:D->V->Prop}(h:∀ d v,R d v->S d v){kvs:List (K×D)}{kvs':List (K×V)}(k:A3 R kvs kvs'):A3 S kvs kvs':=aK.imp (fun a b q=>⟨q.1,h _ _ q.2⟩) k
theorem gS.imp{κ:Str->Addr->Prop}{R S:D->V->Prop}{H H':Hp}{a:Addr}{c:Cell}(h:∀ d v,R d v->S d v)(e:∀ o,H a=some o->H' a=some o)(z:∀ b o u,H b=some (.jn o u)->H' b=some (.jn o u))(k:gS κ R H a c):gS κ S H' a c:=by
 cases c with
 | lst ds=>obtain⟨vs,h1,h2⟩:=k;exact⟨vs,e _ h1,h2.imp h⟩
 | dK kvs=>obtain⟨vs,h1,h2⟩:=k;exact⟨vs,e _ h1,h2.imp h⟩
 | dT kvs=>obtain⟨vs,h1,h2⟩:=k;exact⟨vs,e _ h1,h2.imp h⟩
 | ins C fs=>obtain⟨Ca,dx,vs,h0,h1,h2⟩:=k;exact⟨Ca,dx,vs,h0,e _ h1,h2.imp h⟩
 | fn j mW=>exact k.elim
 | tb j p b=>exact k.elim
theorem gS.some{κ:Str->Addr->Prop}{R:D->V->Prop}{H:Hp}{a:Addr}{c:Cell}(k:gS κ R H a c):H a≠none:=by
 cases c with
 | lst ds=>obtain⟨vs,h1,h2⟩:=k;rw[h1];simp
 | dK kvs=>obtain⟨vs,h1,h2⟩:=k;rw[h1];simp
 | dT kvs=>obtain⟨vs,h1,h2⟩:=k;rw[h1];simp
 | ins C fs=>obtain⟨Ca,dx,vs,h0,h1,h2⟩:=k;rw[h1];simp
 | fn j mW=>exact k.elim
 | tb j p b=>exact k.elim
structure bt(κ:Str->Addr->Prop)(α:List Addr)(Z:Addr->Prop)(Ω:ay)(H:Hp):Prop where
 nS:α.Nodup
 xY:aK (fun c a=>gS κ (au α Z H) H a c) Ω α
 sep:∀ a∈α,¬ Z a
 dom:∀ a,Z a->H a≠none
structure bS(α:List Addr)(Z:Addr->Prop)(H:Hp)(α':List Addr)(Z':Addr->Prop)(H':Hp):Prop where
 pre:∀ (n:Nat) (a:Addr),α[n]?=some a->α'[n]?=some a
 sub:∀ a,Z a->Z' a
 new:∀ a,Z' a->Z a\/H a=none
 Ci:∀ a∈α',a∈α\/H a=none
 frm:∀ a o,H a=some o->a∉α->H' a=some o
 has:∀ a∈α,H' a≠none
section
variable{κ:Str->Addr->Prop}{α α' FG:List Addr}{Z Z' NW:Addr->Prop}{Ω ak:ay}{H H' IL:Hp}
theorem bS.refl(h:∀ a∈α,H a≠none):bS α Z H α Z H:=⟨fun _ _ e=>e,fun _ h=>h,fun _ h=>.inl h,fun _ h=>.inl h,fun _ _ e _=>e,h⟩
theorem bt.has(S:bt κ α Z Ω H):∀ a∈α,H a≠none:=fun a ha=>by
 obtain⟨n,hn⟩:=List.mem_iff_getElem?.mp ha;obtain⟨c,_,h⟩:=S.xY.Cg hn;exact h.some
theorem bS.none(g:bS α Z H α' Z' H'){a:Addr}(h:H' a=none):H a=none:=by
 cases q:H a with
 | none=>rfl
 | some o=>
  by_cases ha:a∈α
  ·exact absurd h (g.has a ha)
  ·rw[g.frm a o q ha]at h;cases h
theorem bS.trans(g:bS α Z H α' Z' H')(g':bS α' Z' H' FG NW IL):bS α Z H FG NW IL where
 pre:=fun n a e=>g'.pre n a (g.pre n a e)
 sub:=fun a h=>g'.sub a (g.sub a h)
 new:=fun a h=>by
  rcases g'.new a h with h | h
  ·exact g.new a h
  ·exact .inr (g.none h)
 Ci:=fun a h=>by
  rcases g'.Ci a h with h | h
  ·exact g.Ci a h
  ·exact .inr (g.none h)
 frm:=fun a o e ha=>g'.frm a o (g.frm a o e ha) fun h=>by
  rcases g.Ci a h with h | h
  ·exact ha h
  ·rw[e]at h;cases h
 has:=fun a ha=>by
  obtain⟨n,hn⟩:=List.mem_iff_getElem?.mp ha;exact g'.has a (List.mem_of_getElem? (g.pre n a hn))
theorem bt.du(S:bt κ α Z Ω H)(g:bS α Z H α' Z' H'){d:D}{v:V}(h:au α Z H d v):au α' Z' H' d v:=
 h.mono g.pre (fun a o z e=>g.frm a o e fun ha=>S.sep a ha z) g.sub
theorem bt.kq(S:bt κ α Z Ω H)(g:bS α Z H α' Z' H'){ds:List D}{vs:List V}(h:aK (au α Z H) ds vs):aK (au α' Z' H') ds vs:=h.imp fun _ _ q=>S.du g q
theorem bt.cell(S:bt κ α Z Ω H){n:Nat}{c:Cell}(e:Ω[n]?=some c):∃ a,α[n]?=some a/\gS κ (au α Z H) H a c:=S.xY.get e
theorem bt.len(S:bt κ α Z Ω H):α.length=Ω.length:=S.xY.length
theorem bt.wc(S:bt κ α Z Ω H){p:Addr}{o:HO}(h:H p=none)(z:Prop)[Decidable z]:bt κ α (if z then Zp Z p else Z) Ω (upd H p o)/\bS α Z H α (if z then Zp Z p else Z) (upd H p o):=by
 have hne:∀ a∈α,a≠p:=fun a ha e=>S.has a ha (e▸h)
 have Cj:∀ a,Z a->a≠p:=fun a hz e=>S.dom a hz (e▸h)
 have sub:∀ a,Z a->(if z then Zp Z p else Z) a:=fun a ha=>by
  split
  ·exact .inl ha
  ·exact ha
 have g:bS α Z H α (if z then Zp Z p else Z) (upd H p o):=⟨fun _ _ e=>e,sub,fun a ha=>by
   split at ha
   ·rcases ha with ha | rfl
    ·exact .inl ha
    ·exact .inr h
   ·exact .inl ha,fun _ ha=>.inl ha,fun a u e _=>by rw[aG (bb e h)];exact e,fun a ha=>by rw[aG (hne a ha)];exact S.has a ha⟩
 refine⟨⟨S.nS,?_,fun a ha hz => ?_,fun a ha => ?_⟩,g⟩
 ·refine S.xY.imp fun c a hc => ?_
  refine hc.imp (fun d v r=>S.du g r) (fun u e => ?_) fun b o' u' e => ?_
  ·rw[aG (bb e h)];exact e
  ·rw[aG (bb e h)];exact e
 ·split at hz
  ·rcases hz with hz | rfl
   ·exact S.sep a ha hz
   ·exact hne _ ha rfl
  ·exact S.sep a ha hz
 ·split at ha
  ·rcases ha with ha | rfl
   ·rw[aG (Cj a ha)];exact S.dom a ha
   ·rw[bo];simp
  ·rw[aG (Cj a ha)];exact S.dom a ha
theorem bt.laid(S:bt κ α Z Ω H){p:Addr}{o:HO}{c:Cell}(h:H p=none)(hc:∀ R:D->V->Prop,(∀ d v,au α Z H d v->R d v)->gS κ R (upd H p o) p c):bt κ (α++[p]) Z (Ω++[c]) (upd H p o)/\bS α Z H (α++[p]) Z (upd H p o):=by
 have hne:∀ a∈α,a≠p:=fun a ha e=>S.has a ha (e▸h)
 have Cj:∀ a,Z a->a≠p:=fun a hz e=>S.dom a hz (e▸h)
 have g:bS α Z H (α++[p]) Z (upd H p o):=⟨fun n a e=>by rw[List.getElem?_append_left (List.getElem?_eq_some_iff.mp e).1];exact e,fun _ h=>h,fun _ h=>.inl h,fun a ha=>by
   rcases List.mem_append.mp ha with ha | ha
   ·exact .inl ha
   ·rw[List.mem_singleton.mp ha];exact .inr h,fun a u e _=>by rw[aG (bb e h)];exact e,fun a ha=>by rw[aG (hne a ha)];exact S.has a ha⟩
 refine⟨⟨?_,?_,fun a ha hz => ?_,fun a ha=>by rw[aG (Cj a ha)];exact S.dom a ha⟩,g⟩
 ·refine List.nodup_append.mpr ⟨S.nS,by simp,fun a ha b hb => ?_⟩
  rw[List.mem_singleton.mp hb];exact hne a ha
 ·refine aK.append (S.xY.imp fun c a hc => ?_) (.one (hc _ fun d v r=>S.du g r))
  refine hc.imp (fun d v r=>S.du g r) (fun u e => ?_) fun b o' u' e => ?_
  ·rw[aG (bb e h)];exact e
  ·rw[aG (bb e h)];exact e
 ·rcases List.mem_append.mp ha with ha | ha
  ·exact S.sep a ha hz
  ·rw[List.mem_singleton.mp ha]at hz;exact Cj _ hz rfl
theorem bt.put(S:bt κ α Z Ω H){n:Nat}{p:Addr}{o:HO}{c:Cell}(hn:α[n]?=some p)(hm:∀ o u,H p≠some (.jn o u))(hc:∀ R:D->V->Prop,(∀ d v,au α Z H d v->R d v)->gS κ R (upd H p o) p c):bt κ α Z (Ω.set n c) (upd H p o)/\bS α Z H α Z (upd H p o):=by
 have hpm:p∈α:=List.mem_of_getElem? hn
 have g:bS α Z H α Z (upd H p o):=⟨fun n a e=>e,fun _ h=>h,fun _ h=>.inl h,fun a ha=>.inl ha,fun a u e ha=>by rw[aG (fun (q:a=p)=>ha (by rw[q];exact hpm))];exact e,fun a ha=>by
   by_cases q:a=p
   ·subst q;rw[bo];simp
   ·rw[aG q];exact S.has a ha⟩
 refine⟨⟨S.nS,?_,S.sep,fun a ha => ?_⟩,g⟩
 ·have key:∀ {cs:List Cell} {as:List Addr} {n:Nat},as.Nodup->aK (fun c a=>gS κ (au α Z H) H a c) cs as->as[n]?=some p->aK (fun c a=>gS κ (au α Z (upd H p o)) (upd H p o) a c) (cs.set n c) as:=by
   intro cs as n hnd hA
   induction hA generalizing n with
   | nil=>intro e;simp at e
   | @cons c' a' cs as r t ih=>
    intro e;have hnd':=List.nodup_cons.mp hnd;cases n with
    | zero=>
     simp at e;subst e;refine .cons (hc _ fun d v r=>S.du g r) (aK.imp (fun _ _ q=>q) ?_)
     have:∀ {cs:List Cell} {as:List Addr},a'∉as->aK (fun c a=>gS κ (au α Z H) H a c) cs as->aK (fun c a=>gS κ (au α Z (upd H a' o)) (upd H a' o) a c) cs as:=by
      intro cs as hna hA
      induction hA with
      | nil=>exact .nil
      | @cons c1 a1 cs as r t ih=>
       refine .cons (r.imp (fun d v q=>S.du g q) (fun u e => ?_) fun b o' u' e => ?_) (ih fun q=>hna (List.mem_cons_of_mem _ q))
       ·rw[aG (fun q=>hna (by rw[q];simp))];exact e
       ·rw[aG (fun q=>hm o' u' (by rw[← q];exact e))];exact e
     exact this hnd'.1 t
    | succ n=>
     have e':as[n]?=some p:=by simpa using e
     refine .cons (r.imp (fun d v q=>S.du g q) (fun u eu => ?_) fun b o' u' eb => ?_) (ih hnd'.2 e')
     ·rw[aG (fun q=>hnd'.1 (by rw[q];exact List.mem_of_getElem? e'))];exact eu
     ·rw[aG (fun q=>hm o' u' (by rw[← q];exact eb))];exact eb
  exact key S.nS S.xY hn
 ·by_cases q:a=p
  ·subst q;rw[bo];simp
  ·rw[aG q];exact S.dom a ha
end
end Mir
namespace Mir
open PySem PySem.Spec PyProof.Rows L2
variable [aA]
abbrev fU:=D->ay->List Addr->(Addr->Prop)->Hp->Prop
def bQ(κ:Str->Addr->Prop)(Φ:fU)(α:List Addr)(Z:Addr->Prop)(H:Hp)(r:av D)(Q:VK):Prop:=match r with
 | .ok d ak=>∀ v H' α' Z',bS α Z H α' Z' H'->bt κ α' Z' ak H'->au α' Z' H' d v->Q v H'
 | .exc x ak=>∀ H' α' Z',bS α Z H α' Z' H'->bt κ α' Z' ak H'->Φ x ak α' Z' H'
 | .bad=>False
structure b_(κ:Str->Addr->Prop)(aE:List Addr)(Z0:Addr->Prop)(H0:Hp)(α:List Addr)(Z:Addr->Prop)(Ω:ay)(ρ:aP)(σ:L2.St)(H:Hp):Prop where
 st:bt κ α Z Ω H
 gr:bS aE Z0 H0 α Z H
 len:σ.length=ρ.length
 val:∀ (i:Nat) (d:D),ρ[i]?=some (some d)->∃ v,σ[i]?=some (some v)/\au α Z H d v
abbrev EM:=aP->ay->av D
noncomputable def tO(κ:Str->Addr->Prop)(Φ:fU)(aE:List Addr)(Z0:Addr->Prop)(H0:Hp)(m:EM)(ρ:aP)(Ω:ay):TE:=fun σ H Q=>
 ∃ α Z,b_ κ aE Z0 H0 α Z Ω ρ σ H/\bQ κ Φ α Z H (m ρ Ω) Q
def bj(X:Cx)(κ:Str->Addr->Prop)(Φ:fU)(e:Expr)(m:EM):Prop:=∀ aE Z0 H0 ρ Ω,PE X e (tO κ Φ aE Z0 H0 m ρ Ω)
section
variable{κ:Str->Addr->Prop}{Φ:fU}{α α' aE α1:List Addr}{Z Z' Z0 Z1:Addr->Prop}{Ω ak:ay}{H H' H0 H1:Hp}{ρ:aP}{σ:L2.St}{Q Q':VK}{r:av D}
theorem bQ.from(g:bS α Z H α1 Z1 H1)(h:bQ κ Φ α Z H r Q):bQ κ Φ α1 Z1 H1 r Q:=by
 cases r with
 | ok d ak=>exact fun v H' α' Z' g'=>h v H' α' Z' (g.trans g')
 | exc x ak=>exact fun H' α' Z' g'=>h H' α' Z' (g.trans g')
 | bad=>exact h
theorem bQ.use{f:D->ay->av D}(h:bQ κ Φ α Z H (r.bind f) Q)(k:∀ d ag,r=.ok d ag->∀ v H1 α1 Z1,bS α Z H α1 Z1 H1->bt κ α1 Z1 ag H1->au α1 Z1 H1 d v->bQ κ Φ α1 Z1 H1 (f d ag) Q->Q' v H1):bQ κ Φ α Z H r Q':=by
 cases r with
 | ok d ag=>exact fun v H1 α1 Z1 g s q=>k d ag rfl v H1 α1 Z1 g s q (bQ.from g h)
 | exc x ag=>exact h
 | bad=>exact h
theorem bQ.ret{d:D}{v:V}(S:bt κ α Z Ω H)(q:au α Z H d v)(h:bQ κ Φ α Z H (.ok d Ω) Q):Q v H:=h v H α Z (bS.refl S.has) S q
theorem b_.grow(S:b_ κ aE Z0 H0 α Z Ω ρ σ H)(g:bS α Z H α' Z' H')(s:bt κ α' Z' ak H'):b_ κ aE Z0 H0 α' Z' ak ρ σ H':=
 ⟨s,S.gr.trans g,S.len,fun i d e=>let ⟨v,h1,h2⟩:=S.val i d e;⟨v,h1,S.st.du g h2⟩⟩
theorem aT{d:D}{v:V}(h:fb d=some v):au α Z H d v:=by
 cases d<;>simp only[fb]at h<;>first | cases h;simp only[au] | cases h
theorem sg{d:D}(h:eM d=true):∃ v,fb d=some v:=by
 cases d<;>first | exact⟨_,rfl⟩ | cases h
theorem cZ{d:D}{v w:V}(h:fb d=some w)(r:Rep Z H d v):v=w:=by
 cases d<;>simp only[fb]at h<;>first | (cases h;simpa only [Rep] using r) | cases h
noncomputable def bD{α β:Type}(f:α->Option β):List α->Option (List β)
 | []=>some []
 | x::xs=>match f x,bD f xs with
  | some y,some ys=>some (y::ys)
  | _,_=>none
def d0(Ω:ay):Nat->D->Option D
 | _,.non=>some .non
 | _,.bl b=>some (.bl b)
 | _,.int i=>some (.int i)
 | _,.str x=>some (.str x)
 | 0,_=>none
 | n + 1,.lst ds=>(bD (d0 Ω n) ds).map .lst
 | n + 1,.tup ds=>(bD (d0 Ω n) ds).map .tup
 | n + 1,.ref k=>match Ω[k]? with
  | some (.lst ds)=>(bD (d0 Ω n) ds).map .lst
  | _=>none
 | _ + 1,.dct _ _=>none
def sh(α:List Addr)(Z:Addr->Prop):Addr->Prop:=fun a=>Z a\/a∈α
theorem d_{f:D->Option D}{R:D->V->Prop}{S:D->V->Prop}(hf:∀ d d' v,f d=some d'->R d v->S d' v):∀ {ds es:List D} {vs:List V},bD f ds=some es->aK R ds vs->aK S es vs
 | [],es,vs,h,r=>by cases h;rw[r.nil_inv];exact .nil
 | d::ds,es,vs,h,r=>by
  simp only[bD]at h;split at h
  ·rename_i y ys h1 h2
   cases h;obtain⟨v,vs',rfl,r1,r2⟩:=r.cons_inv;exact .cons (hf d y v h1 r1) (d_ hf h2 r2)
  ·cases h
theorem gj:∀ {ds:List D} {vs:List V},aK (Rep Z H) ds vs->aQ Z H ds vs
 | _,_,.nil=>.nil
 | _,_,.cons r t=>.cons r (gj t)
theorem jD(S:bt κ α Z Ω H):∀ (n:Nat) {d d':D} {v:V},d0 Ω n d=some d'->au α Z H d v->Rep (sh α Z) H d' v:=by
 intro n
 induction n with
 | zero=>
  intro d d' v h r;cases d<;>simp only[d0]at h<;>first | (cases h;simpa only [Rep,au] using r) | cases h
 | succ n ih=>
  intro d d' v h r;cases d with
  | lst ds=>
   simp only[d0]at h;obtain⟨es,h1,rfl⟩:=Option.map_eq_some_iff.mp h;simp only[au]at r;obtain⟨a,vs,rfl,hz,hr,hs⟩:=r;simp only[Rep];exact⟨a,vs,rfl,.inl hz,hr,gj (d_ (S:=Rep (sh α Z) H) (fun d d' v q r=>ih q r) h1 (a_.mp hs))⟩
  | tup ds=>
   simp only[d0]at h;obtain⟨es,h1,rfl⟩:=Option.map_eq_some_iff.mp h;simp only[au]at r;obtain⟨a,vs,rfl,hz,hr,hs⟩:=r;simp only[Rep];exact⟨a,vs,rfl,.inl hz,.inl hr,gj (d_ (S:=Rep (sh α Z) H) (fun d d' v q r=>ih q r) h1 (a_.mp hs))⟩
  | ref k=>
   simp only[d0]at h;split at h
   ·rename_i ds hk
    obtain⟨es,h1,rfl⟩:=Option.map_eq_some_iff.mp h;obtain⟨a,ha,vs,hv,hs⟩:=S.cell hk;simp only[au]at r;obtain⟨a',ha',rfl⟩:=r;rw[ha]at ha';cases ha';simp only[Rep];exact⟨a,vs,rfl,.inr (List.mem_of_getElem? ha),.inl hv,gj (d_ (S:=Rep (sh α Z) H) (fun d d' v q r=>ih q r) h1 hs)⟩
   ·cases h
  | dct _ _=>cases h
  | _=>simp only[d0]at h;cases h;simpa only [Rep,au] using r
theorem cE(S:bt κ α Z Ω H):∀ a,sh α Z a->H a≠none:=fun a h=>h.elim (S.dom a) (S.has a)
theorem bt.same(S:bt κ α Z Ω H)(h:lq H H'):bt κ α Z Ω H'/\bS α Z H α Z H':=by
 have g:bS α Z H α Z H':=⟨fun _ _ e=>e,fun _ z=>z,fun _ z=>.inl z,fun _ z=>.inl z,fun a o e _=>h a o e,fun a ha=>by
  cases q:H a with
  | none=>exact absurd q (S.has a ha)
  | some o=>rw[h a o q];simp⟩
 refine⟨⟨S.nS,S.xY.imp fun c a hc=>hc.imp (fun d v r=>S.du g r) (fun o e=>h a o e) fun b o u e=>h b _ e,S.sep,fun a z => ?_⟩,g⟩
 cases q:H a with
 | none=>exact absurd q (S.dom a z)
 | some o=>rw[h a o q];simp
theorem bt.adopt(S:bt κ α Z Ω H)(h:lq H H'){p:Addr}(hp:H p=none){c:Cell}(hc:∀ R:D->V->Prop,(∀ d v,au α Z H' d v->R d v)->gS κ R H' p c):bt κ (α++[p]) Z (Ω++[c]) H'/\bS α Z H (α++[p]) Z H':=by
 obtain⟨S1,g1⟩:=S.same h;have hne:∀ a∈α,a≠p:=fun a ha e=>S.has a ha (e▸hp)
 have Cj:∀ a,Z a->a≠p:=fun a hz e=>S.dom a hz (e▸hp)
 have pre:∀ (n:Nat) (a:Addr),α[n]?=some a->(α++[p])[n]?=some a:=fun n a e=>by rw[List.getElem?_append_left (List.getElem?_eq_some_iff.mp e).1];exact e
 have mono:∀ d v,au α Z H' d v->au (α++[p]) Z H' d v:=fun d v r=>r.mono pre (fun _ _ _ e=>e) fun _ z=>z
 refine⟨⟨?_,?_,fun a ha hz => ?_,S1.dom⟩,⟨pre,fun _ z=>z,fun _ z=>.inl z,fun a ha => ?_,g1.frm,g1.has⟩⟩
 ·refine List.nodup_append.mpr ⟨S.nS,by simp,fun a ha b hb => ?_⟩
  rw[List.mem_singleton.mp hb];exact hne a ha
 ·exact aK.append (S1.xY.imp fun c a hc=>hc.imp mono (fun _ e=>e) fun _ _ _ e=>e) (.one (hc _ mono))
 ·rcases List.mem_append.mp ha with ha | ha
  ·exact S.sep a ha hz
  ·rw[List.mem_singleton.mp ha]at hz;exact Cj _ hz rfl
 ·rcases List.mem_append.mp ha with ha | ha
  ·exact .inl ha
  ·rw[List.mem_singleton.mp ha];exact .inr hp
noncomputable def lE(Ω:ay)(c:Cell):av D:=.ok (.ref Ω.length) (Ω++[c])
def fh(Ω:ay):Out Rs->av D
 | .ok (own,d)=>if eM d then .ok d Ω else match own,d with
  | true,.lst ds=>if ds.all eM then lE Ω (.lst ds) else .bad
  | _,_=>.bad
 | _=>.bad
theorem kr(S:bt κ α Z Ω H)(p:Addr):au (α++[p]) Z H' (.ref Ω.length) (.ref p):=by
 simp only[au];exact⟨p,by rw[← S.len];simp,rfl⟩
theorem l0:∀ {ds:List D} {vs:List V},ds.all eM=true->aQ Z1 H1 ds vs->aK (au α Z H) ds vs
 | [],vs,_,r=>by rw[r.nil_inv];exact .nil
 | d::ds,vs,h,r=>by
  obtain⟨v,vs',rfl,r1,r2⟩:=r.cons_inv;simp only[List.all_cons,Bool.and_eq_true]at h;obtain⟨w,hw⟩:=sg h.1;obtain rfl:=cZ hw r1;exact .cons (aT hw) (l0 h.2 r2)
theorem iz{bw:Bool}{r:Out Rs}(S:bt κ α Z Ω H)(h:bQ κ Φ α Z H (fh Ω r) Q):∃ own d,r=.ok (own,d)/\∀ v H' Z1 Z',dU Z1 H Z' H'->dn bw own Z' H H' d v->Q v H':=by
 cases r with
 | ok q=>
  obtain⟨own,d⟩:=q;refine⟨own,d,rfl,fun v H' Z1 Z' g q => ?_⟩
  simp only[fh]at h;split at h
  ·rename_i hf
   obtain⟨w,hw⟩:=sg hf
   have hv:v=w:=by
    have n:=q.nw;cases d with
    | non=>exact cZ (Z:=Z') (H:=H') hw n
    | bl _=>exact cZ (Z:=Z') (H:=H') hw n
    | int _=>exact cZ (Z:=Z') (H:=H') hw n
    | str _=>exact cZ (Z:=Z') (H:=H') hw n
    | _=>cases hf
   subst hv;obtain⟨S1,g1⟩:=S.same g.same;exact h v H' α Z g1 S1 (aT hw)
  ·split at h
   ·rename_i ds hnf
    split at h
    ·rename_i hf2
     unfold dn at q;rw[if_pos rfl]at q;obtain⟨a,vs,ds',e1,rfl,h1,h2,h3,h4⟩:=q;cases e1;obtain⟨S1,g1⟩:=S.adopt (c:=.lst ds) g.same h1 (fun R hR=>⟨vs,h3,(l0 hf2 h4).imp hR⟩)
     exact h _ H' _ Z g1 S1 (kr S a)
    ·exact h.elim
   ·exact h.elim
 | exc c fs=>exact h.elim
 | bad=>exact h.elim
end
def m1(f:D->ay->av D)(ma:EM):EM:=fun ρ Ω=>(ma ρ Ω).bind f
def m2(f:D->D->ay->av D)(ma mb:EM):EM:=fun ρ Ω=>(ma ρ Ω).bind fun x ag=>(mb ρ ag).bind fun y aw=>f x y aw
noncomputable def k7(a b:av D):av D:=match a with
 | .bad=>b
 | r=>r
def Ck(f g:D->ay->av D):D->ay->av D:=fun x Ω=>k7 (f x Ω) (g x Ω)
def fi(f g:D->D->ay->av D):D->D->ay->av D:=fun x y Ω=>k7 (f x y Ω) (g x y Ω)
def mX(f g:EM):EM:=fun ρ Ω=>k7 (f ρ Ω) (g ρ Ω)
def tX(f:D->Out Rs):D->ay->av D:=fun x Ω=>match d0 Ω 8 x with
 | some dx=>fh Ω (f dx)
 | none=>.bad
def fK(f:D->D->Out Rs):D->D->ay->av D:=fun x y Ω=>match d0 Ω 8 x,d0 Ω 8 y with
 | some dx,some dy=>fh Ω (f dx dy)
 | _,_=>.bad
def eV(Ω:ay):D->Option Bool
 | .ref k=>match Ω[k]? with
  | some (.lst ds)=>some (!ds.isEmpty)
  | some (.dK kvs)=>some (!kvs.isEmpty)
  | _=>none
 | d=>jt d
def dB:av D->av Bool
 | .ok d Ω=>match eV Ω d with
  | some b=>.ok b Ω
  | none=>.bad
 | .exc x Ω=>.exc x Ω
 | .bad=>.bad
def nT(κ:Str->Addr->Prop)(Φ:fU)(α:List Addr)(Z:Addr->Prop)(H:Hp)(r:av Bool)(Q:Bool->Hp->Prop):Prop:=match r with
 | .ok b ak=>∀ H' α' Z',bS α Z H α' Z' H'->bt κ α' Z' ak H'->Q b H'
 | .exc x ak=>∀ H' α' Z',bS α Z H α' Z' H'->bt κ α' Z' ak H'->Φ x ak α' Z' H'
 | .bad=>False
def Lp(κ:Str->Addr->Prop)(Φ:fU)(aE:List Addr)(Z0:Addr->Prop)(H0:Hp)(m:EM)(ρ:aP)(Ω:ay):TT:=fun σ H Q=>∃ α Z,b_ κ aE Z0 H0 α Z Ω ρ σ H/\nT κ Φ α Z H (dB (m ρ Ω)) Q
def gm(X:Cx)(κ:Str->Addr->Prop)(Φ:fU)(e:Expr)(m:EM):Prop:=∀ aE Z0 H0 ρ Ω,PT X e (Lp κ Φ aE Z0 H0 m ρ Ω)
abbrev AM:=aP->ay->av (List D)
def oP(κ:Str->Addr->Prop)(Φ:fU)(α:List Addr)(Z:Addr->Prop)(H:Hp)(r:av (List D))(Q:List V->Hp->Prop):Prop:=match r with
 | .ok ds ak=>∀ vs H' α' Z',bS α Z H α' Z' H'->bt κ α' Z' ak H'->aK (au α' Z' H') ds vs->Q vs H'
 | .exc x ak=>∀ H' α' Z',bS α Z H α' Z' H'->bt κ α' Z' ak H'->Φ x ak α' Z' H'
 | .bad=>False
noncomputable def P5(κ:Str->Addr->Prop)(Φ:fU)(aE:List Addr)(Z0:Addr->Prop)(H0:Hp)(m:AM)(ρ:aP)(Ω:ay):TA:=fun σ H Q=>∃ α Z,b_ κ aE Z0 H0 α Z Ω ρ σ H/\oP κ Φ α Z H (m ρ Ω) Q
def pN(X:Cx)(κ:Str->Addr->Prop)(Φ:fU)(es:List Expr)(m:AM):Prop:=∀ aE Z0 H0 ρ Ω,PA X es (P5 κ Φ aE Z0 H0 m ρ Ω)
noncomputable def ah:AM:=fun _ Ω=>.ok [] Ω
def U(a:EM)(as:AM):AM:=fun ρ Ω=>(a ρ Ω).bind fun x ag=>(as ρ ag).bind fun xs aw=>.ok (x::xs) aw
def mN(f:List D->ay->av D)(as:AM):EM:=fun ρ Ω=>(as ρ Ω).bind f
section
variable{X:Cx}{κ:Str->Addr->Prop}{Φ:fU}{α α' aE α1:List Addr}{Z Z' Z0 Z1:Addr->Prop}{Ω ak:ay}{H H' H0 H1:Hp}{ρ:aP}{σ:L2.St}{Q Q':VK}{r:av D}{a b e:Expr}{es:List Expr}{ma mb mc m:EM}{as:AM}{pos:Pos}
theorem oP.from{r:av (List D)}{Q:List V->Hp->Prop}(g:bS α Z H α1 Z1 H1)(h:oP κ Φ α Z H r Q):oP κ Φ α1 Z1 H1 r Q:=by
 cases r with
 | ok d ak=>exact fun v H' α' Z' g'=>h v H' α' Z' (g.trans g')
 | exc x ak=>exact fun H' α' Z' g'=>h H' α' Z' (g.trans g')
 | bad=>exact h
theorem nT.from{r:av Bool}{Q:Bool->Hp->Prop}(g:bS α Z H α1 Z1 H1)(h:nT κ Φ α Z H r Q):nT κ Φ α1 Z1 H1 r Q:=by
 cases r with
 | ok d ak=>exact fun H' α' Z' g'=>h H' α' Z' (g.trans g')
 | exc x ak=>exact fun H' α' Z' g'=>h H' α' Z' (g.trans g')
 | bad=>exact h
theorem oP.use{r:av (List D)}{f:List D->ay->av D}{Q':List V->Hp->Prop}(h:bQ κ Φ α Z H (r.bind f) Q)(k:∀ ds ag,r=.ok ds ag->∀ vs H1 α1 Z1,bS α Z H α1 Z1 H1->bt κ α1 Z1 ag H1->aK (au α1 Z1 H1) ds vs->bQ κ Φ α1 Z1 H1 (f ds ag) Q->Q' vs H1):oP κ Φ α Z H r Q':=by
 cases r with
 | ok d ag=>exact fun v H1 α1 Z1 g s q=>k d ag rfl v H1 α1 Z1 g s q (bQ.from g h)
 | exc x ag=>exact h
 | bad=>exact h
theorem PE.or{t u:TE}(h:PE X e t)(h':PE X e u):PE X e (fun σ H Q=>t σ H Q\/u σ H Q):=fun pins s σ H Q I q=>q.elim (h pins s σ H Q I) (h' pins s σ H Q I)
theorem PT.or{t u:TT}(h:PT X e t)(h':PT X e u):PT X e (fun σ H Q=>t σ H Q\/u σ H Q):=fun pins s σ H Q I q=>q.elim (h pins s σ H Q I) (h' pins s σ H Q I)
theorem l4{a b:av D}:k7 a b=a\/(a=.bad/\k7 a b=b):=by cases a<;>simp[k7]
theorem bj.alt(h:bj X κ Φ e ma)(h':bj X κ Φ e mb):bj X κ Φ e (mX ma mb):=by
 intro aE Z0 H0 ρ Ω;refine PE.imp (PE.or (h aE Z0 H0 ρ Ω) (h' aE Z0 H0 ρ Ω)) ?_;rintro σ H Q ⟨α,Z,S,g⟩;rcases l4 (a:=ma ρ Ω) (b:=mb ρ Ω) with q | ⟨_,q⟩
 ·exact .inl ⟨α,Z,S,by rw[← q];exact g⟩
 ·exact .inr ⟨α,Z,S,by rw[← q];exact g⟩
theorem gm.alt(h:gm X κ Φ e ma)(h':gm X κ Φ e mb):gm X κ Φ e (mX ma mb):=by
 intro aE Z0 H0 ρ Ω;refine PT.imp (PT.or (h aE Z0 H0 ρ Ω) (h' aE Z0 H0 ρ Ω)) ?_;rintro σ H Q ⟨α,Z,S,g⟩;rcases l4 (a:=ma ρ Ω) (b:=mb ρ Ω) with q | ⟨_,q⟩
 ·exact .inl ⟨α,Z,S,by rw[← q];exact g⟩
 ·exact .inr ⟨α,Z,S,by rw[← q];exact g⟩
theorem gp{f g:D->D->ay->av D}:m2 (fi f g) ma mb=mX (m2 f ma mb) (m2 g ma mb):=by
 funext ρ Ω
 simp only[m2,mX];cases ma ρ Ω with
 | ok x ag=>
  simp only[av.bind];cases mb ρ ag with
  | ok y aw=>rfl
  | exc x Ω=>rfl
  | bad=>rfl
 | exc x Ω=>rfl
 | bad=>rfl
theorem Cm{f g:D->ay->av D}:m1 (Ck f g) ma=mX (m1 f ma) (m1 g ma):=by
 funext ρ Ω
 simp only[m1,mX];cases ma ρ Ω with
 | ok x ag=>rfl
 | exc x Ω=>rfl
 | bad=>rfl
theorem jE{f:D->ay->av D}{r:V->Hp->VK->Prop}(h:∀ ta,PE X a ta->PE X e fun σ H Q=>ta σ H fun x H1=>r x H1 Q)(ha:bj X κ Φ a ma)
  (hr:∀ dx x α Z Ω H Q,bt κ α Z Ω H->au α Z H dx x->bQ κ Φ α Z H (f dx Ω) Q->r x H Q):bj X κ Φ e (m1 f ma):=by
 intro aE Z0 H0 ρ Ω;refine PE.imp (h _ (ha aE Z0 H0 ρ Ω)) ?_;rintro σ H Q ⟨α,Z,S,g⟩;refine⟨α,Z,S,g.use fun d ag _ v H1 α1 Z1 g1 s1 r1 k1 => ?_⟩
 exact hr d v α1 Z1 ag H1 Q s1 r1 k1
theorem c4{f:D->D->ay->av D}{r:R2}(h:∀ ta tb,PE X a ta->PE X b tb->PE X e (D9 r ta tb))(ha:bj X κ Φ a ma)(hb:bj X κ Φ b mb)
  (hr:∀ dx dy x y α Z Ω H Q,bt κ α Z Ω H->au α Z H dx x->au α Z H dy y->bQ κ Φ α Z H (f dx dy Ω) Q->r x y H Q):bj X κ Φ e (m2 f ma mb):=by
 intro aE Z0 H0 ρ Ω;rcases q:ma ρ Ω with ⟨d,ag⟩ | ⟨x,ag⟩ | _
 ·refine PE.imp (h _ _ (ha aE Z0 H0 ρ Ω) (hb aE Z0 H0 ρ ag)) ?_
  rintro σ H Q ⟨α,Z,S,g⟩;refine⟨α,Z,S,bQ.use g fun d' P6 e1 v H1 α1 Z1 g1 s1 r1 k1 => ?_⟩
  rw[q]at e1;cases e1;refine⟨α1,Z1,S.grow g1 s1,k1.use fun d2 aw _ w H2 α2 Z2 g2 s2 r2 k2 => ?_⟩
  exact hr d d2 v w α2 Z2 aw H2 Q s2 (s1.du g2 r1) r2 k2
 ·refine PE.imp (h _ _ (ha aE Z0 H0 ρ Ω) (hb aE Z0 H0 ρ Ω)) ?_
  rintro σ H Q ⟨α,Z,S,g⟩;refine⟨α,Z,S,?_⟩;simp only[m2,q,av.bind]at g ⊢;exact g
 ·refine PE.imp (h _ _ (ha aE Z0 H0 ρ Ω) (hb aE Z0 H0 ρ Ω)) ?_
  rintro σ H Q ⟨α,Z,S,g⟩;simp only[m2,q,av.bind]at g;exact g.elim
theorem oQ{bw:Bool}{f:D->Out Rs}{dx:D}{x:V}(S:bt κ α Z Ω H)(hx:au α Z H dx x)(h:bQ κ Φ α Z H (tX f dx Ω) Q) :
  ∃ d own d',Now (sh α Z) H d x/\f d=.ok (own,d')/\∀ v H' Z',dU (sh α Z) H Z' H'->dn bw own Z' H H' d' v->Q v H':=by
 unfold tX at h;split at h
 ·rename_i d hd
  obtain⟨own,d',e,k⟩:=iz (bw:=bw) S h;exact⟨d,own,d',(jD S 8 hd hx).now,e,fun v H' Z' g q=>k v H' _ Z' g q⟩
 ·exact h.elim
theorem gq{bw:Bool}{f:D->D->Out Rs}{dx dy:D}{x y:V}(S:bt κ α Z Ω H)(hx:au α Z H dx x)(hy:au α Z H dy y)(h:bQ κ Φ α Z H (fK f dx dy Ω) Q) :
  ∃ d e own d',Now (sh α Z) H d x/\Now (sh α Z) H e y/\f d e=.ok (own,d')/\∀ v H' Z',dU (sh α Z) H Z' H'->dn bw own Z' H H' d' v->Q v H':=by
 unfold fK at h;split at h
 ·rename_i d e hd he
  obtain⟨own,d',e1,k⟩:=iz (bw:=bw) S h;exact⟨d,e,own,d',(jD S 8 hd hx).now,(jD S 8 he hy).now,e1,fun v H' Z' g q=>k v H' _ Z' g q⟩
 ·exact h.elim
theorem zc{i:Nat}{x:Str}(hN:X.N[i]?=some x)(hv:xV X.env.scope x)(hd:(x == ("__debug__":Str))=false)(hcd:(x == ("__classdict__":Str))=false):bj X κ Φ (.Name x pos) (fun ρ Ω=>match ρ[i]? with | some (some d)=>.ok d Ω | _=>.bad):=by
 intro aE Z0 H0 ρ Ω;refine PE.imp (jW hN hv hd hcd) ?_;rintro σ H Q ⟨α,Z,S,g⟩;dsimp only at g;split at g
 ·rename_i d hd
  obtain⟨v,h1,h2⟩:=S.val i d hd;exact⟨v,h1,bQ.ret S.st h2 g⟩
 ·exact g.elim
theorem iA{d:D}{v:V}(h:PE X e (tC v))(hf:fb d=some v):bj X κ Φ e (fun _ Ω=>.ok d Ω):=by
 intro aE Z0 H0 ρ Ω;refine PE.imp h ?_;rintro σ H Q ⟨α,Z,S,g⟩;exact bQ.ret S.st (aT hf) g
noncomputable def c5(Ω:ay):D->Option (List D)
 | .ref k=>match Ω[k]? with
  | some (.lst ds)=>some ds
  | _=>none
 | .lst ds=>some ds
 | _=>none
theorem bp{x:D}{v:V}{ds:List D}(S:bt κ α Z Ω H)(r:au α Z H x v)(h:c5 Ω x=some ds):∃ a vs,v=.ref a/\Rd H a (.lst vs)/\aK (au α Z H) ds vs:=by
 cases x with
 | ref k=>
  simp only[c5]at h;split at h
  ·rename_i ds' hk
   cases h;simp only[au]at r;obtain⟨a,ha,rfl⟩:=r;obtain⟨a',ha',vs,h1,h2⟩:=S.cell hk;rw[ha]at ha';cases ha';exact⟨a,vs,rfl,.inl h1,h2⟩
  ·cases h
 | lst es=>
  cases h;simp only[au]at r;obtain⟨a,vs,rfl,_,h1,h2⟩:=r;exact⟨a,vs,rfl,h1,a_.mp h2⟩
 | _=>cases h
theorem fL{x:V}{ds:List D}(r:au α Z H (.tup ds) x):∃ a vs,x=.ref a/\Z a/\H a=some (.tup vs)/\aK (au α Z H) ds vs:=by
 simp only[au]at r;obtain⟨a,vs,e,h0,h1,h2⟩:=r;exact⟨a,vs,e,h0,h1,a_.mp h2⟩
theorem eg{ds:List D}{vs:List V}(S:bt κ α Z Ω H)(r:aK (au α Z H) ds vs)(k:bQ κ Φ α Z H (lE Ω (.lst ds)) Q):∀ p,H p=none->Q (.ref p) (upd H p (.lst vs)):=fun p hp=>by
 obtain⟨S1,g1⟩:=S.laid (p:=p) (o:=.lst vs) (c:=.lst ds) hp fun R hR=>⟨vs,bo,r.imp hR⟩
 exact k _ _ _ Z g1 S1 (kr S p)
theorem gu{ds:List D}{vs:List V}(S:bt κ α Z Ω H)(r:aK (au α Z H) ds vs)(k:bQ κ Φ α Z H (.ok (.tup ds) Ω) Q):∀ p,H p=none->Q (.ref p) (upd H p (.tup vs)):=fun p hp=>by
 obtain⟨S1,g1⟩:=S.wc (p:=p) (o:=.tup vs) hp True;simp only[if_true]at S1 g1;refine k _ _ _ _ g1 S1 ?_;simp only[au];exact⟨p,vs,rfl,.inr rfl,bo,a_.mpr (S.kq g1 r)⟩
theorem mY:pN X κ Φ [] ah:=by
 intro aE Z0 H0 ρ Ω;refine PA.imp iR ?_;rintro σ H Q ⟨α,Z,S,g⟩;exact g [] H α Z (bS.refl S.st.has) S.st .nil
theorem ku(ha:bj X κ Φ e ma)(hr:pN X κ Φ es as)(hs:starEach (e::es) X.env=(false,eval e X.env)::starEach es X.env):pN X κ Φ (e::es) (U ma as):=by
 intro aE Z0 H0 ρ Ω;rcases q:ma ρ Ω with ⟨d,ag⟩ | ⟨x,ag⟩ | _
 ·refine PA.imp (cV (ha aE Z0 H0 ρ Ω) (hr aE Z0 H0 ρ ag) hs) ?_
  rintro σ H Q ⟨α,Z,S,g⟩;refine⟨α,Z,S,?_⟩;simp only[U,q,av.bind]at g ⊢;intro v H1 α1 Z1 g1 s1 r1;refine⟨α1,Z1,S.grow g1 s1,?_⟩;have g:=oP.from g1 g
  rcases q2:as ρ ag with ⟨ds,aw⟩ | ⟨x,aw⟩ | _
  ·rw[q2]at g
   intro vs H2 α2 Z2 g2 s2 r2;exact g _ _ _ _ g2 s2 (.cons (s1.du g2 r1) r2)
  ·rw[q2]at g;exact g
  ·rw[q2]at g;exact g
 ·refine PA.imp (cV (ha aE Z0 H0 ρ Ω) (hr aE Z0 H0 ρ Ω) hs) ?_
  rintro σ H Q ⟨α,Z,S,g⟩;refine⟨α,Z,S,?_⟩;simp only[U,q,av.bind]at g ⊢;exact g
 ·refine PA.imp (cV (ha aE Z0 H0 ρ Ω) (hr aE Z0 H0 ρ Ω) hs) ?_
  rintro σ H Q ⟨α,Z,S,g⟩;simp only[U,q,av.bind]at g;exact g.elim
def cQ(ds:List D)(Ω:ay):av D:=if small ds.length then lE Ω (.lst ds) else .bad
def ky(ds:List D)(Ω:ay):av D:=if small ds.length then .ok (.tup ds) Ω else .bad
theorem zd(h:pN X κ Φ es as):bj X κ Φ (.List es pos) (mN cQ as):=by
 intro aE Z0 H0 ρ Ω;refine PE.imp (BQ (h aE Z0 H0 ρ Ω)) ?_;rintro σ H Q ⟨α,Z,S,g⟩;refine⟨α,Z,S,oP.use g fun ds ag _ vs H1 α1 Z1 g1 s1 r1 k1 => ?_⟩
 unfold cQ at k1;split at k1
 ·rename_i hs
  exact⟨by rw[r1.length];exact bC hs,eg s1 r1 k1⟩
 ·exact k1.elim
theorem ze{x1}(h:pN X κ Φ es as):bj X κ Φ (.Tuple es x1 pos) (mN ky as):=by
 intro aE Z0 H0 ρ Ω;refine PE.imp (uY (h aE Z0 H0 ρ Ω)) ?_;rintro σ H Q ⟨α,Z,S,g⟩;refine⟨α,Z,S,oP.use g fun ds ag _ vs H1 α1 Z1 g1 s1 r1 k1 => ?_⟩
 unfold ky at k1;split at k1
 ·rename_i hs
  exact⟨by rw[r1.length];exact bC hs,gu s1 r1 k1⟩
 ·exact k1.elim
def qH(x y:D)(Ω:ay):av D:=match c5 Ω x,c5 Ω y with
 | some xs,some ys=>if small (xs.length + ys.length) then lE Ω (.lst (xs++ys)) else .bad
 | _,_=>.bad
def mZ(x y:D)(Ω:ay):av D:=match x,y with
 | .tup xs,.tup ys=>if small (xs.length + ys.length) then .ok (.tup (xs++ys)) Ω else .bad
 | _,_=>.bad
def aI(op:Operator):D->D->ay->av D:=match op with
 | .Add=>fi qH (fi mZ (fK (e9 .Add)))
 | op=>fK (e9 op)
theorem zf{op:Operator}(ha:bj X κ Φ a ma)(hb:bj X κ Φ b mb):bj X κ Φ (.BinOp a op b pos) (m2 (aI op) ma mb):=by
 have E:bj X κ Φ (.BinOp a op b pos) (m2 (fK (e9 op)) ma mb):=c4 (r:=yN op) (fun ta tb pa pb=>uS (vx op) pa pb) ha hb fun dx dy x y α Z Ω H Q S rx ry g=>by
  obtain⟨d,e,own,d',n1,n2,e1,k⟩:=gq (bw:=false) S rx ry g;exact B4 (bw:=false) n1 n2 (cE S) e1 k
 have C:op=.Add->bj X κ Φ (.BinOp a op b pos) (m2 qH ma mb):=fun e=>by
  subst e;refine c4 (r:=yN .Add) (fun ta tb pa pb=>uS (vx .Add) pa pb) ha hb fun dx dy x y α Z Ω H Q S rx ry g => ?_
  unfold qH at g;split at g
  ·rename_i xs ys h1 h2
   obtain⟨l,vs,rfl,p1,p2⟩:=bp S rx h1;obtain⟨n,ws,rfl,p3,p4⟩:=bp S ry h2;split at g
   ·rename_i hs
    exact .inr (.inr ⟨l,n,vs,ws,rfl,rfl,p1,p3,by rw[p2.length,p4.length];exact bC hs,eg S (p2.append p4) g⟩)
   ·exact g.elim
  ·exact g.elim
 have C2:op=.Add->bj X κ Φ (.BinOp a op b pos) (m2 mZ ma mb):=fun e=>by
  subst e;refine c4 (r:=fun x y H Q=>AW X.K x y H Q\/AX X.K x y H Q) (fun ta tb pa pb=>uS (yw.or yA) pa pb) ha hb fun dx dy x y α Z Ω H Q S rx ry g => ?_
  unfold mZ at g;split at g
  ·rename_i xs ys
   simp only[au]at rx ry;obtain⟨a1,vs,rfl,z1,p1,q1⟩:=rx;obtain⟨b1,ws,rfl,z2,p2,q2⟩:=ry;have q1:=a_.mp q1;have q2:=a_.mp q2;split at g
   ·rename_i hs
    by_cases hx:vs=[]
    ·subst hx
     have e1:xs=[]:=by have:=q1.length;simp at this;exact List.length_eq_zero_iff.mp this.symm
     subst e1;refine .inr ⟨a1,b1,ws,rfl,rfl,fS.of p1,fS.of p2,bQ.ret S ?_ g⟩;simp only[au,List.nil_append];exact⟨b1,ws,rfl,z2,p2,a_.mpr q2⟩
    ·refine .inl ⟨a1,b1,vs,ws,rfl,rfl,fS.of p1,fS.of p2,hx,by rw[q1.length,q2.length];exact bC hs,fun hy => ?_,fun _=>gu S (q1.append q2) g⟩
     subst hy;have e1:ys=[]:=by have:=q2.length;simp at this;exact List.length_eq_zero_iff.mp this.symm
     subst e1;refine bQ.ret S ?_ g;simp only[au,List.append_nil];exact⟨a1,vs,rfl,z1,p1,a_.mpr q1⟩
   ·exact g.elim
  ·exact g.elim
 cases op with
 | Add=>show bj X κ Φ _ (m2 (fi qH (fi mZ (fK (e9 .Add)))) ma mb);rw[gp,gp];exact(C rfl).alt ((C2 rfl).alt E)
 | _=>exact E
def FH:D->ay->av D:=tX fun x=>match x with | .int i=>.ok (false,.int (-i)) | _=>.bad
theorem zg(ha:bj X κ Φ a ma):bj X κ Φ (.UnaryOp .USub a pos) (m1 FH ma):=
 jE (r:=rU fun i=>.int (-i)) (fun ta pa=>EF BO pa) ha fun dx x α Z Ω H Q S rx g=>by
  obtain⟨d,own,d',n1,e1,k⟩:=oQ (bw:=false) S rx g;split at e1
  ·cases aY n1
   cases e1;exact⟨_,rfl,k _ H _ (dU.refl (cE S)) (.rep (fc rfl))⟩
  ·cases e1
end
section
variable{κ:Type}[DecidableEq κ]{R:D->V->Prop}
theorem A3.length{kvs:List (κ×D)}{kvs':List (κ×V)}(h:A3 R kvs kvs'):kvs'.length=kvs.length:=aK.length h
end
section
variable{X:Cx}{κ:Str->Addr->Prop}{Φ:fU}{α α' aE α1:List Addr}{Z Z' Z0 Z1:Addr->Prop}{Ω ak:ay}{H H' H0 H1:Hp}{ρ:aP}{σ:L2.St}{Q Q':VK}{r:av D}{a b e:Expr}{es:List Expr}{ma mb mc m:EM}{as:AM}{pos:Pos}
noncomputable def Cn(Ω:ay)(x y:D):Option (Option D):=none
def cy(op:CmpOp):D->D->ay->av D:=fK fun x y=>do let r ← dF op x y;Out.ok (false,D.bl r)
def h_(neg:Bool)(y x:D)(Ω:ay):av D:=match Cn Ω x y with
 | some o=>.ok (.bl (if neg then !o.isSome else o.isSome)) Ω
 | none=>.bad
noncomputable def eW(neg:Bool)(x y:D)(Ω:ay):av D:=match x,y with
 | .ref _,.non=>.ok (.bl neg) Ω
 | _,_=>.bad
def aD(op:CmpOp):D->D->ay->av D:=match op with
 | .In=>fi (cy .In) (h_ false)
 | .NotIn=>fi (cy .NotIn) (h_ true)
 | .Is=>fi (eW false) (cy .Is)
 | .IsNot=>fi (eW true) (cy .IsNot)
 | op=>cy op
theorem iC{f:D->D->ay->av D}{r:R2}(h:∀ ta tb,PE X a ta->PE X b tb->PT X e (uU (D9 r ta tb)))(ha:bj X κ Φ a ma)(hb:bj X κ Φ b mb)(NX:∀ x y Ω d ak,f x y Ω=.ok d ak->∃ t,d=.bl t)
  (hr:∀ dx dy x y α Z Ω H Q,bt κ α Z Ω H->au α Z H dx x->au α Z H dy y->bQ κ Φ α Z H (f dx dy Ω) Q->r x y H Q):gm X κ Φ e (m2 f ma mb):=by
 intro aE Z0 H0 ρ Ω;rcases q:ma ρ Ω with ⟨d,ag⟩ | ⟨x,ag⟩ | _
 ·refine PT.imp (h _ _ (ha aE Z0 H0 ρ Ω) (hb aE Z0 H0 ρ ag)) ?_
  rintro σ H Q ⟨α,Z,S,g⟩;refine⟨α,Z,S,?_⟩;simp only[m2,q,av.bind]at g ⊢;intro v H1 α1 Z1 g1 s1 r1;refine⟨α1,Z1,S.grow g1 s1,?_⟩;have g:=nT.from g1 g
  rcases q2:mb ρ ag with ⟨d2,aw⟩ | ⟨x,aw⟩ | _
  ·rw[q2]at g
   intro w H2 α2 Z2 g2 s2 r2;refine hr d d2 v w α2 Z2 aw H2 _ s2 (s1.du g2 r1) r2 ?_;have g:=nT.from g2 g
   dsimp only[av.bind]at g;rcases q3:f d d2 aw with ⟨d3,aV⟩ | ⟨x,aV⟩ | _
   ·rw[q3]at g
    obtain⟨t,rfl⟩:=NX _ _ _ _ _ q3;intro u H3 α3 Z3 g3 s3 r3;simp only[au]at r3;exact⟨t,r3,g H3 α3 Z3 g3 s3⟩
   ·rw[q3]at g;exact g
   ·rw[q3]at g;exact g
  ·rw[q2]at g;exact g
  ·rw[q2]at g;exact g
 ·refine PT.imp (h _ _ (ha aE Z0 H0 ρ Ω) (hb aE Z0 H0 ρ Ω)) ?_
  rintro σ H Q ⟨α,Z,S,g⟩;refine⟨α,Z,S,?_⟩;simp only[m2,q,av.bind,dB]at g ⊢;exact g
 ·refine PT.imp (h _ _ (ha aE Z0 H0 ρ Ω) (hb aE Z0 H0 ρ Ω)) ?_
  rintro σ H Q ⟨α,Z,S,g⟩;simp only[m2,q,av.bind,dB]at g;exact g.elim
noncomputable def Co(neg:Bool):R2:=fun _ _ _ _=>False
theorem wd(hu:X.A.units + 1 < cLine):fT X (compareOp .In) (Co false):=by
 intro pins s σ H x y u v Q I rx ry h;exact(show False from h).elim
theorem l5(hu:X.A.units + 1 < cLine):fT X (compareOp .NotIn) (Co true):=by
 intro pins s σ H x y u v Q I rx ry h;exact(show False from h).elim
theorem m4{op:CmpOp}{dx dy:D}{x y:V}(S:bt κ α Z Ω H)(rx:au α Z H dx x)(ry:au α Z H dy y)(g:bQ κ Φ α Z H (cy op dx dy Ω) Q):vz op x y H Q:=by
 obtain⟨d,e,own,d',n1,n2,e1,k⟩:=gq (bw:=false) S rx ry g;exact B5 (bw:=false) n1 n2 (cE S) e1 k
theorem m5{neg:Bool}{dx dy:D}{x y:V}(S:bt κ α Z Ω H)(rx:au α Z H dx x)(ry:au α Z H dy y)(g:bQ κ Φ α Z H (h_ neg dx dy Ω) Q):Co neg x y H Q:=(show False from g).elim
theorem m8{neg:Bool}{op:CmpOp}(hop:op=if neg then .IsNot else .Is){dx dy:D}{x y:V}(S:bt κ α Z Ω H)(rx:au α Z H dx x)(ry:au α Z H dy y)(g:bQ κ Φ α Z H (eW neg dx dy Ω) Q) :
  (if neg then (y=.non/\Q (.bl (!decide (x=.non))) H) else (y=.non/\Q (.bl (decide (x=.non))) H)):=by
 unfold eW at g;split at g
 ·simp only[au]at rx ry
  obtain⟨a,_,rfl⟩:=rx;have:=bQ.ret S (aT (d:=.bl neg) rfl) g;cases neg
  ·exact⟨ry,this⟩
  ·exact⟨ry,this⟩
 ·exact g.elim
theorem m9{op:CmpOp}:∀ x y Ω d ak,cy op x y Ω=.ok d ak->∃ t,d=.bl t:=fun x y Ω d ak h=>by
 unfold cy fK at h;split at h
 ·rename_i dx dy _ _
  dsimp only at h;cases q:dF op dx dy with
  | ok t=>
   have e:(do let r ← dF op dx dy;Out.ok (false,D.bl r))=Out.ok (false,D.bl t):=by rw[q];rfl
   rw[e]at h;simp only[fh,eM,if_true]at h;cases h;exact⟨_,rfl⟩
  | exc c fs=>
   have e:(do let r ← dF op dx dy;Out.ok (false,D.bl r))=Out.exc c fs:=by rw[q];rfl
   rw[e]at h;cases h
  | bad=>
   have e:(do let r ← dF op dx dy;Out.ok (false,D.bl r))=Out.bad:=by rw[q];rfl
   rw[e]at h;cases h
 ·cases h
theorem sj{neg:Bool}:∀ x y Ω d ak,h_ neg x y Ω=.ok d ak->∃ t,d=.bl t:=fun x y Ω d ak h=>by
 unfold h_ at h;split at h
 ·cases h;exact⟨_,rfl⟩
 ·cases h
theorem sk{neg:Bool}:∀ x y Ω d ak,eW neg x y Ω=.ok d ak->∃ t,d=.bl t:=fun x y Ω d ak h=>by
 unfold eW at h;split at h
 ·cases h;exact⟨_,rfl⟩
 ·cases h
theorem sm{op:CmpOp}(hu:X.A.units + 64 < cLine)(hm:behindInMarks op b=false)(ha:bj X κ Φ a ma)(hb:bj X κ Φ b mb):bj X κ Φ (.Compare a [op] [b] pos) (m2 (aD op) ma mb)/\gm X κ Φ (.Compare a [op] [b] pos) (m2 (aD op) ma mb):=by
 have E:bj X κ Φ (.Compare a [op] [b] pos) (m2 (cy op) ma mb):=c4 (fun ta tb pa pb=>il (iU hu op) pa pb hm) ha hb fun dx dy x y α Z Ω H Q S rx ry g=>m4 S rx ry g
 have T:gm X κ Φ (.Compare a [op] [b] pos) (m2 (cy op) ma mb):=iC (fun ta tb pa pb=>ip (iU hu op) pa pb hm) ha hb m9 fun dx dy x y α Z Ω H Q S rx ry g=>m4 S rx ry g
 have hu1:X.A.units + 1 < cLine:=by omega
 cases op with
 | In=>
  have E2:bj X κ Φ (.Compare a [.In] [b] pos) (m2 (h_ false) ma mb):=c4 (fun ta tb pa pb=>il (wd hu1) pa pb hm) ha hb fun dx dy x y α Z Ω H Q S rx ry g=>m5 S rx ry g
  have T2:gm X κ Φ (.Compare a [.In] [b] pos) (m2 (h_ false) ma mb):=iC (fun ta tb pa pb=>ip (wd hu1) pa pb hm) ha hb sj fun dx dy x y α Z Ω H Q S rx ry g=>m5 S rx ry g
  show bj X κ Φ _ (m2 (fi (cy .In) (h_ false)) ma mb)/\gm X κ Φ _ (m2 (fi (cy .In) (h_ false)) ma mb)
  rw[gp];exact⟨E.alt E2,T.alt T2⟩
 | NotIn=>
  have E2:bj X κ Φ (.Compare a [.NotIn] [b] pos) (m2 (h_ true) ma mb):=c4 (fun ta tb pa pb=>il (l5 hu1) pa pb hm) ha hb fun dx dy x y α Z Ω H Q S rx ry g=>m5 S rx ry g
  have T2:gm X κ Φ (.Compare a [.NotIn] [b] pos) (m2 (h_ true) ma mb):=iC (fun ta tb pa pb=>ip (l5 hu1) pa pb hm) ha hb sj fun dx dy x y α Z Ω H Q S rx ry g=>m5 S rx ry g
  show bj X κ Φ _ (m2 (fi (cy .NotIn) (h_ true)) ma mb)/\gm X κ Φ _ (m2 (fi (cy .NotIn) (h_ true)) ma mb)
  rw[gp];exact⟨E.alt E2,T.alt T2⟩
 | Is=>
  have E2:bj X κ Φ (.Compare a [.Is] [b] pos) (m2 (eW false) ma mb):=c4 (fun ta tb pa pb=>il uT pa pb hm) ha hb fun dx dy x y α Z Ω H Q S rx ry g=>m8 (neg:=false) (op:=.Is) rfl S rx ry g
  have T2:gm X κ Φ (.Compare a [.Is] [b] pos) (m2 (eW false) ma mb):=iC (fun ta tb pa pb=>ip uT pa pb hm) ha hb sk fun dx dy x y α Z Ω H Q S rx ry g=>m8 (neg:=false) (op:=.Is) rfl S rx ry g
  show bj X κ Φ _ (m2 (fi (eW false) (cy .Is)) ma mb)/\gm X κ Φ _ (m2 (fi (eW false) (cy .Is)) ma mb)
  rw[gp];exact⟨E2.alt E,T2.alt T⟩
 | IsNot=>
  have E2:bj X κ Φ (.Compare a [.IsNot] [b] pos) (m2 (eW true) ma mb):=c4 (fun ta tb pa pb=>il rf pa pb hm) ha hb fun dx dy x y α Z Ω H Q S rx ry g=>m8 (neg:=true) (op:=.IsNot) rfl S rx ry g
  have T2:gm X κ Φ (.Compare a [.IsNot] [b] pos) (m2 (eW true) ma mb):=iC (fun ta tb pa pb=>ip rf pa pb hm) ha hb sk fun dx dy x y α Z Ω H Q S rx ry g=>m8 (neg:=true) (op:=.IsNot) rfl S rx ry g
  show bj X κ Φ _ (m2 (fi (eW true) (cy .IsNot)) ma mb)/\gm X κ Φ _ (m2 (fi (eW true) (cy .IsNot)) ma mb)
  rw[gp];exact⟨E2.alt E,T2.alt T⟩
 | Eq=>exact⟨E,T⟩
 | NotEq=>exact⟨E,T⟩
 | Lt=>exact⟨E,T⟩
 | LtE=>exact⟨E,T⟩
 | Gt=>exact⟨E,T⟩
 | GtE=>exact⟨E,T⟩
def eH(Ω:ay)(x:D):Option (List D):=match x with
 | .tup ds=>some ds
 | x=>c5 Ω x
def zh(x y:D)(Ω:ay):av D:=match eH Ω x,y with
 | some ds,.int i=>match L2.i_ ds i with
  | some d=>.ok d Ω
  | none=>.bad
 | _,_=>.bad
def FI(x y:D)(Ω:ay):av D:=match Cn Ω x y with
 | some (some d)=>.ok d Ω
 | _=>.bad
def aM:D->D->ay->av D:=fi zh (fi FI (fK p9))
theorem kz{x:D}{v:V}{ds:List D}{K:PySem.W.Frag}(S:bt κ α Z Ω H)(r:au α Z H x v)(h:eH Ω x=some ds):∃ a vs,v=.ref a/\(i7 K H a vs\/fS K H a vs)/\aK (au α Z H) ds vs:=by
 unfold eH at h;split at h
 ·cases h
  obtain⟨a,vs,rfl,_,h1,h2⟩:=fL r;exact⟨a,vs,rfl,.inr (tL (.inl h1)),h2⟩
 ·obtain⟨a,vs,rfl,h1,h2⟩:=bp S r h
  exact⟨a,vs,rfl,.inl (jb h1),h2⟩
theorem zi{ds:List D}{vs:List V}{R:D->V->Prop}{i:Int}{d:D}(r:aK R ds vs)(h:L2.i_ ds i=some d):∃ v,L2.i_ vs i=some v/\R d v:=by
 unfold L2.i_ at h ⊢;rw[r.length];cases q:L2.uF ds.length i with
 | none=>rw[q]at h;cases h
 | some n=>rw[q]at h;exact r.get h
theorem zj(hu:X.A.units + 1 < cLine)(hs:rz b)(ha:bj X κ Φ a ma)(hb:bj X κ Φ b mb):bj X κ Φ (.Subscript a b pos) (m2 aM ma mb):=by
 unfold aM;rw[gp,gp];refine bj.alt ?_ (bj.alt ?_ ?_)
 ·refine c4 (r:=E3 X.K) (fun ta tb pa pb=>u5 pY pa pb hs) ha hb fun dx dy x y α Z Ω H Q S rx ry g => ?_
  unfold zh at g;split at g
  ·rename_i ds i h1
   obtain⟨p,vs,rfl,h2,h3⟩:=kz (K:=X.K) S rx h1;simp only[au]at ry;subst ry;split at g
   ·rename_i d hd
    obtain⟨v,h4,h5⟩:=zi h3 hd;rcases h2 with h2 | h2
    ·exact .inl ⟨p,vs,i,v,rfl,rfl,h2,h4,bQ.ret S h5 g⟩
    ·exact .inr (.inl ⟨p,vs,i,v,rfl,rfl,h2,h4,bQ.ret S h5 g⟩)
   ·exact g.elim
  ·exact g.elim
 ·exact c4 (r:=E3 X.K) (fun ta tb pa pb=>u5 pY pa pb hs) ha hb fun dx dy x y α Z Ω H Q S rx ry g=>(show False from g).elim
 ·refine c4 (r:=E3 X.K) (fun ta tb pa pb=>u5 pY pa pb hs) ha hb fun dx dy x y α Z Ω H Q S rx ry g => ?_
  obtain⟨d,e,own,d',n1,n2,e1,k⟩:=gq (bw:=false) S rx ry g;exact B7 (bw:=false) n1 n2 (cE S) e1 k
def gv(n:Bool)(m:EM):aP->ay->av (Option Int):=fun ρ Ω=>if n=true then .ok none Ω else (m ρ Ω).bind fun d ag=>match d with
 | .int i=>.ok (some i) ag
 | _=>.bad
def ia(x:D)(lo hi:Option Int)(Ω:ay):av D:=match x,c5 Ω x with
 | _,some ds=>lE Ω (.lst (cW ds lo hi))
 | .str z,none=>fh Ω (vt (.str z) lo hi)
 | .tup ds,none=>.ok (.tup (cW ds lo hi)) Ω
 | _,_=>.bad
def cf(ma:EM)(nl:Bool)(ml:EM)(nh:Bool)(mh:EM):EM:=fun ρ Ω=>(ma ρ Ω).bind fun x ag=>(gv nl ml ρ ag).bind fun l aw=>(gv nh mh ρ aw).bind fun h aV=>ia x l h aV
def IP(X:Cx)(κ:Str->Addr->Prop)(Φ:fU)(o:Option Expr)(n:Bool)(m:EM):Prop:=(o=none/\n=true)\/∃ e,o=some e/\n=false/\bj X κ Φ e m
theorem dv{o:Option Expr}{n:Bool}(h:IP X κ Φ o n m)(aE:List Addr)(Z0:Addr->Prop)(H0:Hp)(ρ:aP)(Ω:ay):∃ t,PO X o t/\∀ σ H α Z Q,b_ κ aE Z0 H0 α Z Ω ρ σ H ->
  (match gv n m ρ Ω with
   | .ok l ag=>∀ H' α' Z',bS α Z H α' Z' H'->bt κ α' Z' ag H'->Q l H'
   | .exc x ag=>∀ H' α' Z',bS α Z H α' Z' H'->bt κ α' Z' ag H'->Φ x ag α' Z' H'
   | .bad=>False)->t σ H Q:=by
 rcases h with ⟨rfl,rfl⟩ | ⟨e,rfl,rfl,he⟩
 ·refine⟨rp,yt,fun σ H α Z Q S k => ?_⟩
  exact k H α Z (bS.refl S.st.has) S.st
 ·refine⟨_,yu (he aE Z0 H0 ρ Ω),fun σ H α Z Q S k=>⟨α,Z,S,?_⟩⟩
  simp only[gv,Bool.false_eq_true,if_false]at k;rcases q:m ρ Ω with ⟨d,ag⟩ | ⟨x,ag⟩ | _
  ·rw[q]at k
   intro v H1 α1 Z1 g1 s1 r1;cases d with
   | int i=>simp only[au]at r1;exact⟨i,r1,k H1 α1 Z1 g1 s1⟩
   | _=>exact k.elim
  ·rw[q]at k;exact k
  ·rw[q]at k;exact k
theorem sr{ds:List D}{vs:List V}{R:D->V->Prop}(h:aK R ds vs)(lo hi:Option Int):aK R (cW ds lo hi) (n_ vs lo hi):=by
 unfold cW n_;rw[h.length];exact(h.drop _).take _
theorem tY{ds:List D}{n:Nat}{l h:Option Int}(hn:n=ds.length)(h1:HT.cj n 0 l=0)(h2:HT.cj n n h=n):cW ds l h=ds:=by
 subst hn;unfold cW;rw[h1,h2,List.drop_zero,Nat.sub_zero,List.take_length]
def we(K:PySem.W.Frag):V->Option Int->Option Int->Hp->VK->Prop:=fun x lo hi H Q=>PH K x lo hi H Q\/(EV K x lo hi H Q\/E9 K x lo hi H Q)
theorem zk{lo hi:Option Expr}{nl nh:Bool}{ml mh:EM}{p2:Pos}(ha:bj X κ Φ a ma)(hl:IP X κ Φ lo nl ml)(hh:IP X κ Φ hi nh mh):bj X κ Φ (.Subscript a (.Slice lo hi none p2) pos) (cf ma nl ml nh mh):=by
 intro aE Z0 H0 ρ Ω;rcases q:ma ρ Ω with ⟨d,ag⟩ | ⟨x,ag⟩ | _
 ·obtain⟨tl,pl,kl⟩:=dv hl aE Z0 H0 ρ ag
  rcases q2:gv nl ml ρ ag with ⟨l,aw⟩ | ⟨x,aw⟩ | _
  ·obtain⟨th,ph,kh⟩:=dv hh aE Z0 H0 ρ aw
   refine PE.imp (fY (r:=we X.K) ((ir.or j_).or (j3.or iv)) (ha aE Z0 H0 ρ Ω) pl ph) ?_;rintro σ H Q ⟨α,Z,S,g⟩;refine⟨α,Z,S,?_⟩;simp only[cf,q,q2,av.bind]at g ⊢;intro v H1 α1 Z1 g1 s1 r1;have g:=bQ.from g1 g
   have S1:=S.grow g1 s1;refine kl σ H1 α1 Z1 _ S1 ?_;rw[q2];intro H2 α2 Z2 g2 s2;have g:=bQ.from g2 g
   have S2:=S1.grow g2 s2;refine kh σ H2 α2 Z2 _ S2 ?_;rcases q3:gv nh mh ρ aw with ⟨h,aV⟩ | ⟨x,aV⟩ | _
   ·rw[q3]at g
    intro H3 α3 Z3 g3 s3;have g:=bQ.from g3 g
    have r3:=s2.du g3 (s1.du g2 r1);dsimp only[av.bind]at g;unfold ia at g;split at g
    ·rename_i ds hd
     obtain⟨p,vs,rfl,h1,h2⟩:=bp s3 r3 hd;exact .inl (.inl ⟨p,vs,rfl,jb h1,eg s3 (sr h2 l h) g⟩)
    ·
     simp only[au]at r3;subst r3;obtain⟨own,d,e1,k⟩:=iz (bw:=false) s3 g;simp only[vt]at e1;split at e1
     ·rename_i hs
      cases e1;exact .inl (.inr ⟨_,rfl,bC hs,k _ H3 _ _ (dU.refl s3.dom) (.rep (fc rfl))⟩)
     ·cases e1
    ·simp only[au]at r3
     obtain⟨p,vs,rfl,z1,h1,h2⟩:=r3;have h2:=a_.mp h2
     by_cases hw:HT.cj vs.length 0 l=0/\HT.cj vs.length vs.length h=vs.length
     ·refine .inr (.inr ⟨p,vs,rfl,fS.of h1,hw.1,hw.2,bQ.ret s3 ?_ g⟩)
      rw[tY h2.length hw.1 hw.2];simp only[au];exact⟨p,vs,rfl,z1,h1,a_.mpr h2⟩
     ·exact .inr (.inl ⟨p,vs,rfl,fS.of h1,hw,gu s3 (sr h2 l h) g⟩)
    ·exact g.elim
   ·rw[q3]at g;exact g
   ·rw[q3]at g;exact g
  ·obtain⟨th,ph,kh⟩:=dv hh aE Z0 H0 ρ ag
   refine PE.imp (fY (r:=we X.K) ((ir.or j_).or (j3.or iv)) (ha aE Z0 H0 ρ Ω) pl ph) ?_;rintro σ H Q ⟨α,Z,S,g⟩;refine⟨α,Z,S,?_⟩;simp only[cf,q,q2,av.bind]at g ⊢;intro v H1 α1 Z1 g1 s1 r1;refine kl σ H1 α1 Z1 _ (S.grow g1 s1) ?_;rw[q2];intro H2 α2 Z2 g2 s2;exact g H2 α2 Z2 (g1.trans g2) s2
  ·obtain⟨th,ph,kh⟩:=dv hh aE Z0 H0 ρ ag
   refine PE.imp (fY (r:=we X.K) ((ir.or j_).or (j3.or iv)) (ha aE Z0 H0 ρ Ω) pl ph) ?_;rintro σ H Q ⟨α,Z,S,g⟩;simp only[cf,q,q2,av.bind]at g;exact g.elim
 ·obtain⟨tl,pl,kl⟩:=dv hl aE Z0 H0 ρ Ω
  obtain⟨th,ph,kh⟩:=dv hh aE Z0 H0 ρ Ω;refine PE.imp (fY (r:=we X.K) ((ir.or j_).or (j3.or iv)) (ha aE Z0 H0 ρ Ω) pl ph) ?_;rintro σ H Q ⟨α,Z,S,g⟩;refine⟨α,Z,S,?_⟩;simp only[cf,q,av.bind]at g ⊢;exact g
 ·obtain⟨tl,pl,kl⟩:=dv hl aE Z0 H0 ρ Ω
  obtain⟨th,ph,kh⟩:=dv hh aE Z0 H0 ρ Ω;refine PE.imp (fY (r:=we X.K) ((ir.or j_).or (j3.or iv)) (ha aE Z0 H0 ρ Ω) pl ph) ?_;rintro σ H Q ⟨α,Z,S,g⟩;simp only[cf,q,av.bind]at g;exact g.elim
end
theorem PE.ex{X:Cx}{e:Expr}{ι:Type}{t:ι->TE}(h:∀ i,PE X e (t i)):PE X e (fun σ H Q=>∃ i,t i σ H Q):=fun pins s σ H Q I ⟨i,q⟩=>h i pins s σ H Q I q
theorem PT.ex{X:Cx}{e:Expr}{ι:Type}{t:ι->TT}(h:∀ i,PT X e (t i)):PT X e (fun σ H Q=>∃ i,t i σ H Q):=fun pins s σ H Q I ⟨i,q⟩=>h i pins s σ H Q I q
theorem PW.ex{X:Cx}{e:Expr}{ι:Type}{t:ι->TT}(h:∀ i,PW X e (t i)):PW X e (fun σ H Q=>∃ i,t i σ H Q):=fun wh pins s σ H Q I ⟨i,q⟩=>h i wh pins s σ H Q I q
theorem PA.ex{X:Cx}{es:List Expr}{ι:Type}{t:ι->TA}(h:∀ i,PA X es (t i)):PA X es (fun σ H Q=>∃ i,t i σ H Q):=fun pos pins s σ H Q I ⟨i,q⟩=>h i pos pins s σ H Q I q
def eI(ma mb:EM):EM:=fun ρ Ω=>(ma ρ Ω).bind fun x ag=>match eV ag x with
 | some true=>mb ρ ag
 | some false=>.ok x ag
 | none=>.bad
def wg(ma mb:EM):EM:=fun ρ Ω=>(ma ρ Ω).bind fun x ag=>match eV ag x with
 | some false=>mb ρ ag
 | some true=>.ok x ag
 | none=>.bad
def iD(ma:EM):EM:=fun ρ Ω=>(dB (ma ρ Ω)).bind fun t ag=>.ok (.bl (!t)) ag
def A4(mc ma mb:EM):EM:=fun ρ Ω=>(dB (mc ρ Ω)).bind fun t ag=>if t=true then ma ρ ag else mb ρ ag
section
variable{X:Cx}{κ:Str->Addr->Prop}{Φ:fU}{α α' aE α1:List Addr}{Z Z' Z0 Z1:Addr->Prop}{Ω ak:ay}{H H' H0 H1:Hp}{ρ:aP}{σ:L2.St}{Q Q':VK}{r:av D}{a b e ce:Expr}{rest:List Expr}{es:List Expr}{ma mb mc m:EM}{as:AM}{pos p:Pos}
theorem gx{d:D}{v:V}{t:Bool}{K:PySem.W.Frag}(S:bt κ α Z Ω H)(r:au α Z H d v)(h:eV Ω d=some t):n4 K v H t:=by
 cases d with
 | non=>simp only[au]at r;subst r;cases h;rfl
 | bl b=>simp only[au]at r;subst r;cases h;rfl
 | int b=>simp only[au]at r;subst r;cases h;rfl
 | str b=>
  simp only[au]at r;subst r
  have n:Now Z H (.str b) (.str b):=by simp only[Now,Rep]
  exact B6 n h
 | lst ds=>
  cases h;obtain⟨a,vs,rfl,h1,h2⟩:=bp (ds:=ds) S r rfl;refine .inl ⟨vs,jb h1,?_⟩;have:=h2.length;cases ds<;>cases vs<;>simp at this ⊢
 | tup ds=>
  cases h;obtain⟨a,vs,rfl,_,h1,h2⟩:=fL r;refine .inr (.inl ⟨vs,tL (.inl h1),?_⟩);have:=h2.length;cases ds<;>cases vs<;>simp at this ⊢
 | dct _ _=>cases h
 | ref k=>
  simp only[eV]at h;split at h
  ·rename_i ds hk
   cases h;obtain⟨a,vs,rfl,h1,h2⟩:=bp (ds:=ds) S r (by simp only[c5,hk])
   refine .inl ⟨vs,jb h1,?_⟩;have:=h2.length;cases ds<;>cases vs<;>simp at this ⊢
  ·rename_i kvs hk
   cases h;simp only[au]at r;obtain⟨a,ha,rfl⟩:=r;obtain⟨a',ha',kvs',h1,h2⟩:=S.cell hk;rw[ha]at ha';cases ha'
   refine .inr (.inr ⟨kvs',h1,?_⟩);have:=h2.length;cases kvs<;>cases kvs'<;>simp at this ⊢
  ·cases h
theorem nT.use{r:av Bool}{f:Bool->ay->av D}{Q':Bool->Hp->Prop}(h:bQ κ Φ α Z H (r.bind f) Q)(k:∀ t ag,r=.ok t ag->∀ H1 α1 Z1,bS α Z H α1 Z1 H1->bt κ α1 Z1 ag H1->bQ κ Φ α1 Z1 H1 (f t ag) Q->Q' t H1):nT κ Φ α Z H r Q':=by
 cases r with
 | ok d ag=>exact fun H1 α1 Z1 g s=>k d ag rfl H1 α1 Z1 g s (bQ.from g h)
 | exc x ag=>exact h
 | bad=>exact h
theorem nT.NY{Q:Bool->Hp->Prop}{K:PySem.W.Frag}(h:nT κ Φ α Z H (dB r) Q):bQ κ Φ α Z H r (fun v H1=>∃ t,n4 K v H1 t/\Q t H1):=by
 cases r with
 | ok d ag=>
  intro v H1 α1 Z1 g s q;simp only[dB]at h;split at h
  ·rename_i t ht
   exact⟨t,gx s q ht,h H1 α1 Z1 g s⟩
  ·exact h.elim
 | exc x ag=>exact h
 | bad=>exact h.elim
theorem zm(h:bj X κ Φ e m)(he:∀ whole,isTrue e X.env whole=(do let v ← whole;standAt e.pos;holding [v] (truthy v))):gm X κ Φ e m:=by
 intro aE Z0 H0 ρ Ω;refine PT.imp (uX (h aE Z0 H0 ρ Ω) he) ?_;rintro σ H Q ⟨α,Z,S,g⟩;exact⟨α,Z,S,g.NY⟩
theorem zo(ha:bj X κ Φ a ma)(hb:bj X κ Φ (.BoolOp .And (b::rest) pos) mb):bj X κ Φ (.BoolOp .And (a::b::rest) pos) (eI ma mb):=by
 intro aE Z0 H0 ρ Ω;refine PE.imp (yX (ha aE Z0 H0 ρ Ω) (PE.ex fun ag=>hb aE Z0 H0 ρ ag)) ?_
 rintro σ H Q ⟨α,Z,S,g⟩;refine⟨α,Z,S,bQ.use g fun x ag _ v H1 α1 Z1 g1 s1 r1 k1 => ?_⟩
 split at k1
 ·rename_i ht
  exact⟨true,gx s1 r1 ht,oi ⟨ag,α1,Z1,S.grow g1 s1,k1⟩⟩
 ·rename_i ht
  exact⟨false,gx s1 r1 ht,oh (bQ.ret s1 r1 k1)⟩
 ·exact k1.elim
theorem Cp(ha:bj X κ Φ a ma)(hb:bj X κ Φ (.BoolOp .Or (b::rest) pos) mb):bj X κ Φ (.BoolOp .Or (a::b::rest) pos) (wg ma mb):=by
 intro aE Z0 H0 ρ Ω;refine PE.imp (Cc (ha aE Z0 H0 ρ Ω) (PE.ex fun ag=>hb aE Z0 H0 ρ ag)) ?_
 rintro σ H Q ⟨α,Z,S,g⟩;refine⟨α,Z,S,bQ.use g fun x ag _ v H1 α1 Z1 g1 s1 r1 k1 => ?_⟩
 split at k1
 ·rename_i ht
  exact⟨false,gx s1 r1 ht,oh ⟨ag,α1,Z1,S.grow g1 s1,k1⟩⟩
 ·rename_i ht
  exact⟨true,gx s1 r1 ht,oi (bQ.ret s1 r1 k1)⟩
 ·exact k1.elim
theorem tZ{op:BoolOp}(ha:bj X κ Φ a ma):bj X κ Φ (.BoolOp op [a] pos) ma:=fun aE Z0 H0 ρ Ω=>Bz (ha aE Z0 H0 ρ Ω)
theorem zp(ha:bj X κ Φ a ma):bj X κ Φ (.UnaryOp .Not a pos) (iD ma):=by
 intro aE Z0 H0 ρ Ω;refine PE.imp (yY (ha aE Z0 H0 ρ Ω)) ?_;rintro σ H Q ⟨α,Z,S,g⟩;refine⟨α,Z,S,?_⟩;have:=nT.use (Q':=fun t H1=>Q (.bl (!t)) H1) g fun t ag _ H1 α1 Z1 g1 s1 k1=>bQ.ret s1 (aT rfl) k1
 exact this.NY
theorem zq(ha:gm X κ Φ a ma):gm X κ Φ (.UnaryOp .Not a pos) (iD ma):=by
 intro aE Z0 H0 ρ Ω;refine PT.imp (By (ha aE Z0 H0 ρ Ω)) ?_;rintro σ H Q ⟨α,Z,S,g⟩;refine⟨α,Z,S,?_⟩;simp only[iD]at g;cases q:dB (ma ρ Ω) with
 | ok t ag=>rw[q]at g;exact fun H' α' Z' g' s'=>g H' α' Z' g' s'
 | exc x ag=>rw[q]at g;exact g
 | bad=>rw[q]at g;exact g
def A5(X:Cx)(κ:Str->Addr->Prop)(Φ:fU)(e:Expr)(m:EM):Prop:=∀ aE Z0 H0 ρ Ω,PW X e (Lp κ Φ aE Z0 H0 m ρ Ω)
theorem A5.pt(h:A5 X κ Φ e m):gm X κ Φ e m:=fun aE Z0 H0 ρ Ω=>(h aE Z0 H0 ρ Ω).pt
theorem zr{op:BoolOp}(ha:gm X κ Φ a ma):A5 X κ Φ (.BoolOp op [a] pos) ma:=fun aE Z0 H0 ρ Ω=>by
 cases op with
 | And=>exact pw_and1 (ha aE Z0 H0 ρ Ω)
 | Or=>exact pw_or1 (ha aE Z0 H0 ρ Ω)
theorem zt(ha:gm X κ Φ a ma)(hb:A5 X κ Φ (.BoolOp .And (b::rest) pos) mb):A5 X κ Φ (.BoolOp .And (a::b::rest) pos) (eI ma mb):=by
 intro aE Z0 H0 ρ Ω;refine PW.imp (pw_and (ha aE Z0 H0 ρ Ω) (PW.ex fun ag=>hb aE Z0 H0 ρ ag)) ?_
 rintro σ H Q ⟨α,Z,S,g⟩;refine⟨α,Z,S,?_⟩;simp only[eI]at g;cases q:ma ρ Ω with
 | ok x ag=>
  rw[q]at g;dsimp only[av.bind]at g;simp only[dB];split at g
  ·rename_i ht
   rw[ht];exact fun H1 α1 Z1 g1 s1=>oi ⟨ag,α1,Z1,S.grow g1 s1,nT.from g1 g⟩
  ·rename_i ht
   rw[ht];simp only[dB,ht]at g;exact fun H1 α1 Z1 g1 s1=>oh (g H1 α1 Z1 g1 s1)
  ·exact g.elim
 | exc x ag=>rw[q]at g;exact g
 | bad=>rw[q]at g;exact g.elim
theorem Cq(ha:gm X κ Φ a ma)(hb:A5 X κ Φ (.BoolOp .Or (b::rest) pos) mb):A5 X κ Φ (.BoolOp .Or (a::b::rest) pos) (wg ma mb):=by
 intro aE Z0 H0 ρ Ω;refine PW.imp (pw_or (ha aE Z0 H0 ρ Ω) (PW.ex fun ag=>hb aE Z0 H0 ρ ag)) ?_
 rintro σ H Q ⟨α,Z,S,g⟩;refine⟨α,Z,S,?_⟩;simp only[wg]at g;cases q:ma ρ Ω with
 | ok x ag=>
  rw[q]at g;dsimp only[av.bind]at g;simp only[dB];split at g
  ·rename_i ht
   rw[ht];exact fun H1 α1 Z1 g1 s1=>oh ⟨ag,α1,Z1,S.grow g1 s1,nT.from g1 g⟩
  ·rename_i ht
   rw[ht];simp only[dB,ht]at g;exact fun H1 α1 Z1 g1 s1=>oi (g H1 α1 Z1 g1 s1)
  ·exact g.elim
 | exc x ag=>rw[q]at g;exact g
 | bad=>rw[q]at g;exact g.elim
theorem zu(hc:gm X κ Φ ce mc)(ha:bj X κ Φ a ma)(hb:bj X κ Φ b mb):bj X κ Φ (.IfExp ce a b pos) (A4 mc ma mb):=by
 intro aE Z0 H0 ρ Ω;refine PE.imp (uK (hc aE Z0 H0 ρ Ω) (PE.ex fun ag=>ha aE Z0 H0 ρ ag) (PE.ex fun ag=>hb aE Z0 H0 ρ ag)) ?_
 rintro σ H Q ⟨α,Z,S,g⟩;refine⟨α,Z,S,nT.use g fun t ag _ H1 α1 Z1 g1 s1 k1 => ?_⟩
 cases t with
 | true=>rw[if_pos rfl]at k1;exact oi ⟨ag,α1,Z1,S.grow g1 s1,k1⟩
 | false=>rw[if_neg Bool.false_ne_true]at k1;exact oh ⟨ag,α1,Z1,S.grow g1 s1,k1⟩
theorem zv(hc:gm X κ Φ ce mc)(ha:gm X κ Φ a ma)(hb:gm X κ Φ b mb):gm X κ Φ (.IfExp ce a b pos) (A4 mc ma mb):=by
 intro aE Z0 H0 ρ Ω pins s σ H Q I;rintro⟨α,Z,S,g⟩;simp only[A4]at g
 have key:Lp κ Φ aE Z0 H0 mc ρ Ω σ H (fun t H1=>∃ ag α1 Z1,b_ κ aE Z0 H0 α1 Z1 ag ρ σ H1/\nT κ Φ α1 Z1 H1 (dB (if t=true then ma ρ ag else mb ρ ag)) Q):=by
  refine⟨α,Z,S,?_⟩;cases q:dB (mc ρ Ω) with
  | ok t ag=>
   rw[q]at g;exact fun H1 α1 Z1 g1 s1=>⟨ag,α1,Z1,S.grow g1 s1,nT.from g1 g⟩
  | exc x ag=>rw[q]at g;exact g
  | bad=>rw[q]at g;exact g.elim
 refine isTrue_IfExp (b7 (hc aE Z0 H0 ρ Ω pins s σ H _ I key) fun v s1 ⟨H1,I1,ag,α1,Z1,S1,k1⟩ => ?_)
 cases v with
 | true=>rw[if_pos rfl]at k1;exact ha aE Z0 H0 ρ ag pins s1 σ H1 Q I1 ⟨α1,Z1,S1,k1⟩
 | false=>rw[if_neg Bool.false_ne_true]at k1;exact hb aE Z0 H0 ρ ag pins s1 σ H1 Q I1 ⟨α1,Z1,S1,k1⟩
def oR(op op':CmpOp)(ma mb mc:EM):EM:=fun ρ Ω=>(ma ρ Ω).bind fun x ag=>(mb ρ ag).bind fun y aw=>(dB (cy op x y aw)).bind fun t aV=>if t=true then (mc ρ aV).bind fun z eX=>cy op' y z eX else .ok (.bl false) aV
theorem wj{op op':CmpOp}(S:b_ κ aE Z0 H0 α Z Ω ρ σ H)(g:bQ κ Φ α Z H (oR op op' ma mb mc ρ Ω) Q) :
  pR (vz op) (vz op') (tO κ Φ aE Z0 H0 ma ρ Ω) (fun σ H Q=>∃ ag,tO κ Φ aE Z0 H0 mb ρ ag σ H Q) (fun σ H Q=>∃ ag,tO κ Φ aE Z0 H0 mc ρ ag σ H Q) σ H Q:=by
 refine⟨α,Z,S,bQ.use g fun x ag _ v H1 α1 Z1 g1 s1 r1 k1 => ?_⟩
 refine⟨ag,α1,Z1,S.grow g1 s1,bQ.use k1 fun y aw _ w H2 α2 Z2 g2 s2 r2 k2 => ?_⟩
 have S2:=(S.grow g1 s1).grow g2 s2;refine m4 (op:=op) (κ:=κ) (Φ:=Φ) s2 (s1.du g2 r1) r2 ?_;cases q:cy op x y aw with
 | ok d aV=>
  obtain⟨t,rfl⟩:=m9 _ _ _ _ _ q;intro u H3 α3 Z3 g3 s3 r3;simp only[au]at r3;refine⟨t,r3,?_⟩;rw[q]at k2;have k3:bQ κ Φ α2 Z2 H2 (if t=true then (mc ρ aV).bind fun z eX=>cy op' y z eX else .ok (.bl false) aV) Q:=k2
  have k3:=bQ.from g3 k3
  cases t with
  | true=>
   rw[if_pos rfl]at k3 ⊢;refine⟨aV,α3,Z3,S2.grow g3 s3,bQ.use k3 fun z eX _ w' H4 Si Z4 g4 s4 r4 k4 => ?_⟩
   exact m4 s4 (s3.du g4 (s2.du g3 r2)) r4 k4
  | false=>
   rw[if_neg Bool.false_ne_true]at k3 ⊢;exact bQ.ret s3 (aT rfl) k3
 | exc x aV=>rw[q]at k2;exact k2
 | bad=>rw[q]at k2;exact k2
theorem zw{op op':CmpOp}(hu:X.A.units + 64 < cLine)(hm:lastMarks [op,op'] [b,ce]=false)(ha:bj X κ Φ a ma)(hb:bj X κ Φ b mb)(hc:bj X κ Φ ce mc):bj X κ Φ (.Compare a [op,op'] [b,ce] pos) (oR op op' ma mb mc):=by
 intro aE Z0 H0 ρ Ω;refine PE.imp (uV (iU hu op) (iU hu op') (ha aE Z0 H0 ρ Ω) (PE.ex fun ag=>hb aE Z0 H0 ρ ag) (PE.ex fun ag=>hc aE Z0 H0 ρ ag) hm) ?_
 rintro σ H Q ⟨α,Z,S,g⟩;exact wj S g
theorem Cr{op op':CmpOp}{d:D}{ak:ay}(h:oR op op' ma mb mc ρ Ω=.ok d ak):∃ t,d=.bl t:=by
 simp only[oR]at h;cases q1:ma ρ Ω with
 | ok x ag=>
  rw[q1]at h;dsimp only[av.bind]at h
  cases q2:mb ρ ag with
  | ok y aw=>
   rw[q2]at h;dsimp only[av.bind]at h
   cases q3:dB (cy op x y aw) with
   | ok t aV=>
    rw[q3]at h;dsimp only[av.bind]at h
    split at h
    ·cases q4:mc ρ aV with
     | ok z eX=>rw[q4]at h;exact m9 _ _ _ _ _ h
     | exc _ _=>rw[q4]at h;cases h
     | bad=>rw[q4]at h;cases h
    ·cases h;exact⟨_,rfl⟩
   | exc _ _=>rw[q3]at h;cases h
   | bad=>rw[q3]at h;cases h
  | exc _ _=>rw[q2]at h;cases h
  | bad=>rw[q2]at h;cases h
 | exc _ _=>rw[q1]at h;cases h
 | bad=>rw[q1]at h;cases h
theorem zx{op op':CmpOp}(hu:X.A.units + 64 < cLine)(hm:lastMarks [op,op'] [b,ce]=false)(ha:bj X κ Φ a ma)(hb:bj X κ Φ b mb)(hc:bj X κ Φ ce mc):gm X κ Φ (.Compare a [op,op'] [b,ce] pos) (oR op op' ma mb mc):=by
 intro aE Z0 H0 ρ Ω;refine PT.imp (uW (iU hu op) (iU hu op') (ha aE Z0 H0 ρ Ω) (PE.ex fun ag=>hb aE Z0 H0 ρ ag) (PE.ex fun ag=>hc aE Z0 H0 ρ ag) hm) ?_
 rintro σ H Q ⟨α,Z,S,g⟩;refine wj S ?_;cases q:oR op op' ma mb mc ρ Ω with
 | ok d ag=>
  obtain⟨t,rfl⟩:=Cr q;rw[q]at g;intro v H1 α1 Z1 g1 s1 r1;simp only[au]at r1;exact⟨t,r1,g H1 α1 Z1 g1 s1⟩
 | exc x ag=>rw[q]at g;exact g
 | bad=>rw[q]at g;exact g.elim
def aU(f:List D->Out Rs):List D->ay->av D:=fun xs Ω=>match bD (d0 Ω 8) xs with
 | some ds=>fh Ω (f ds)
 | none=>.bad
theorem fj{bw:Bool}{f:List D->Out Rs}{xs:List D}{vs:List V}(S:bt κ α Z Ω H)(hx:aK (au α Z H) xs vs)(h:bQ κ Φ α Z H (aU f xs Ω) Q) :
  ∃ ds own d',aQ (sh α Z) H ds vs/\f ds=.ok (own,d')/\∀ v H' Z',dU (sh α Z) H Z' H'->dn bw own Z' H H' d' v->Q v H':=by
 unfold aU at h;split at h
 ·rename_i ds hd
  obtain⟨own,d',e,k⟩:=iz (bw:=bw) S h;exact⟨ds,own,d',gj (d_ (S:=Rep (sh α Z) H) (fun d d' v q r=>jD S 8 q r) hd hx),e,fun v H' Z' g q=>k v H' _ Z' g q⟩
 ·exact h.elim
theorem t8{k:Nat}{x:Str}{F:List D->Out Rs}(F0:Fj X k x F)(hr:bP k X.A)(hg:Gl X x)(hdb:(x == ("__debug__":Str))=false)
  (he:starEach (e::es) X.env=(false,eval e X.env)::starEach es X.env) (hpl:(backTo pos (starEach es X.env)).any (·.1)=false) (ha:pN X κ Φ (e::es) as) :
  bj X κ Φ (.Call (.Name x p) (e::es) [] pos) (mN (aU F) as):=by
 obtain⟨f,fd,ps,hm,hk,hb,F1⟩:=F0.ex;intro aE Z0 H0 ρ Ω;refine PE.imp (jy F1 hr hg hm hk hb .nil rE (ha aE Z0 H0 ρ Ω) hdb he hpl) ?_;rintro σ H Q ⟨α,Z,S,g⟩;refine⟨α,Z,S,oP.use g fun xs ag _ vs H1 α1 Z1 g1 s1 r1 k1 => ?_⟩
 show ka F (vs++[]) H1 Q E0
 rw[List.append_nil];obtain⟨ds,own,d',h1,h2,h3⟩:=fj (bw:=false) s1 r1 k1;exact⟨sh α1 Z1,ds,own,d',cE s1,h1,h2,h3⟩
end
def t9(f g:List D->ay->av D):List D->ay->av D:=fun xs Ω=>k7 (f xs Ω) (g xs Ω)
def wk(xs:List D)(Ω:ay):av D:=match xs with
 | [x]=>match eH Ω x with
  | some ds=>.ok (.int ds.length) Ω
  | none=>.bad
 | _=>.bad
noncomputable def FJ(xs:List D)(Ω:ay):av D:=.bad
def oS(xs:List D)(Ω:ay):av D:=match xs with
 | [x]=>match eH Ω x with
  | some ds=>lE Ω (.lst ds)
  | none=>.bad
 | _=>.bad
def kA(xs:List D)(Ω:ay):av D:=match xs with
 | [.tup ds]=>.ok (.tup ds) Ω
 | [x]=>match c5 Ω x with
  | some ds=>.ok (.tup ds) Ω
  | none=>.bad
 | _=>.bad
def Ct:List D->Out Rs
 | [.str z]=>if small z.length then .ok (false,.int z.length) else .bad
 | _=>.bad
def Cu:List D->Out Rs
 | [.lst xs]=>match e_ xs with | some bs=>.ok (false,.bl (bs.all id)) | none=>.bad
 | _=>.bad
def Cv:List D->Out Rs
 | [.lst xs]=>match e_ xs with | some bs=>.ok (false,.bl (bs.any id)) | none=>.bad
 | _=>.bad
noncomputable def Cw:List D->Out Rs
 | [.int i]=>.ok (false,.int i)
 | [.bl k]=>.ok (false,.int (if k then 1 else 0))
 | _=>.bad
noncomputable def Cy:List D->Out Rs
 | [.int i,.int j]=>.ok (false,.int (if j < i then j else i))
 | _=>.bad
def oU:ie->List D->Out Rs
 | .len=>Ct
 | .all=>Cu
 | .any=>Cv
 | .int=>Cw
 | .min=>Cy
 | _=>fun _=>.bad
def kB(f:ie):List D->ay->av D:=aU (oU f)
def aZ(f:ie):List D->ay->av D:=match f with
 | .len=>t9 wk (t9 FJ (kB .len))
 | .list=>oS
 | .tuple=>kA
 | f=>kB f
section
variable{X:Cx}{κ:Str->Addr->Prop}{Φ:fU}{α α' aE α1:List Addr}{Z Z' Z0 Z1:Addr->Prop}{Ω ak:ay}{H H' H0 H1:Hp}{ρ:aP}{σ:L2.St}{Q Q':VK}{r:av D}{a b e ce o:Expr}{rest:List Expr}{es:List Expr}{ma mb mc m mo:EM}{as:AM}{pos p apos cpos:Pos}
theorem wo{f g:List D->ay->av D}:mN (t9 f g) as=mX (mN f as) (mN g as):=by
 funext ρ Ω
 simp only[mN,mX];cases as ρ Ω with
 | ok x ag=>rfl
 | exc x Ω=>rfl
 | bad=>rfl
theorem eh{f:List D->ay->av D}{id:String}{x:Str}{r:List V->Hp->VK->Prop}(hc:dQ X (.builtin id) r)(hg:Gl X x)(hm:X.mg x=none)(hv:bootBuiltins x=some (.builtin id))(hn:x≠"__name__")(hdb:(x == ("__debug__":Str))=false)
  (he:starEach (e::es) X.env=(false,eval e X.env)::starEach es X.env) (hpl:(backTo pos (starEach es X.env)).any (·.1)=false) (ha:pN X κ Φ (e::es) as)
  (hr:∀ xs vs α Z Ω H Q,bt κ α Z Ω H->aK (au α Z H) xs vs->bQ κ Φ α Z H (f xs Ω) Q->r vs H Q):bj X κ Φ (.Call (.Name x p) (e::es) [] pos) (mN f as):=by
 intro aE Z0 H0 ρ Ω;refine PE.imp (jZ hc hg hm hv (ha aE Z0 H0 ρ Ω) hn hdb he hpl) ?_;rintro σ H Q ⟨α,Z,S,g⟩;exact⟨α,Z,S,oP.use g fun xs ag _ vs H1 α1 Z1 g1 s1 r1 k1=>hr xs vs α1 Z1 ag H1 Q s1 r1 k1⟩
theorem kC{f:List D->ay->av D}{id:String}{x:Str}{r:List V->Hp->VK->Prop}(hc:dQ X (.type id) r)(hg:Gl X x)(hm:X.mg x=none)(hv:bootBuiltins x=some (.type id))(hn:x≠"__name__")(hdb:(x == ("__debug__":Str))=false)
  (he:starEach (e::es) X.env=(false,eval e X.env)::starEach es X.env) (hpl:(backTo pos (starEach es X.env)).any (·.1)=false) (ha:pN X κ Φ (e::es) as)
  (hr:∀ xs vs α Z Ω H Q,bt κ α Z Ω H->aK (au α Z H) xs vs->bQ κ Φ α Z H (f xs Ω) Q->r vs H Q):bj X κ Φ (.Call (.Name x p) (e::es) [] pos) (mN f as):=by
 intro aE Z0 H0 ρ Ω;refine PE.imp (tF hc hg hm hv (ha aE Z0 H0 ρ Ω) hn hdb he hpl) ?_;rintro σ H Q ⟨α,Z,S,g⟩;exact⟨α,Z,S,oP.use g fun xs ag _ vs H1 α1 Z1 g1 s1 r1 k1=>hr xs vs α1 Z1 ag H1 Q s1 r1 k1⟩
theorem dP:∀ {ds:List D} {vs:List V},aQ Z H ds vs->qj Z H ds vs
 | [],vs,h=>h.nil_inv
 | d::ds,vs,h=>by
  obtain⟨v,r,rfl,h1,h2⟩:=h.cons_inv;exact⟨v,r,rfl,h1.now,dP h2⟩
theorem zy{f:ie}(hcalm:X.calm=true)(hf:f∈[ie.len,ie.all,ie.any,ie.list,ie.tuple,ie.int,ie.min])(hg:Gl X f.nm)(hm:X.mg f.nm=none)
  (he:starEach (e::es) X.env=(false,eval e X.env)::starEach es X.env) (hpl:(backTo pos (starEach es X.env)).any (·.1)=false) (ha:pN X κ Φ (e::es) as) :
  bj X κ Φ (.Call (.Name f.nm p) (e::es) [] pos) (mN (aZ f) as):=by
 cases f with
 | len=>
  show bj X κ Φ _ (mN (t9 wk (t9 FJ (kB .len))) as)
  rw[wo,wo];refine bj.alt ?_ (bj.alt ?_ ?_)
  ·refine eh iu hg hm boot_len (by decide) (by decide) he hpl ha ?_
   intro xs vs α Z Ω H Q S rx g;unfold wk at g;split at g
   ·split at g
    ·rename_i ds hd
     obtain⟨v,r,rfl,r1,r2⟩:=rx.cons_inv;rw[r2.nil_inv];obtain⟨l,ws,rfl,q1,q2⟩:=kz (K:=X.K) S r1 hd;exact⟨l,ws,rfl,q1,by rw[q2.length];exact bQ.ret S (aT rfl) g⟩
    ·exact g.elim
   ·exact g.elim
  ·exact eh iu hg hm boot_len (by decide) (by decide) he hpl ha fun xs vs α Z Ω H Q S rx g=>(show False from g).elim
  ·refine eh mH hg hm boot_len (by decide) (by decide) he hpl ha ?_
   intro xs0 A6 α Z Ω H Q S rx g;obtain⟨ds,own,d,nw,ee,k⟩:=fj (bw:=false) S rx g;have nw:=dP nw;have dom:=cE S;replace ee:Ct ds=_:=ee;unfold Ct at ee;split at ee
   ·obtain⟨x,rfl,n⟩:=nw.one
    cases cC n;split at ee
    ·rename_i hs
     cases ee;exact⟨_,rfl,bC hs,fH dom k rfl⟩
    ·cases ee
   ·cases ee
 | all=>
  refine eh (vJ hcalm) hg hm boot_all (by decide) (by decide) he hpl ha ?_
  intro xs0 A6 α Z Ω H Q S rx g;obtain⟨ds,own,d,nw,ee,k⟩:=fj (bw:=false) S rx g;have nw:=dP nw;have dom:=cE S;replace ee:Cu ds=_:=ee;unfold Cu at ee;split at ee
  ·obtain⟨x,rfl,n⟩:=nw.one
   split at ee
   ·rename_i bs hb
    cases ee;exact⟨_,_,bs,x,rfl,n,hb,fH dom k rfl⟩
   ·cases ee
  ·cases ee
 | any=>
  refine eh (vK hcalm) hg hm boot_any (by decide) (by decide) he hpl ha ?_
  intro xs0 A6 α Z Ω H Q S rx g;obtain⟨ds,own,d,nw,ee,k⟩:=fj (bw:=false) S rx g;have nw:=dP nw;have dom:=cE S;replace ee:Cv ds=_:=ee;unfold Cv at ee;split at ee
  ·obtain⟨x,rfl,n⟩:=nw.one
   split at ee
   ·rename_i bs hb
    cases ee;exact⟨_,_,bs,x,rfl,n,hb,fH dom k rfl⟩
   ·cases ee
  ·cases ee
 | int=>
  refine kC tD hg hm boot_int (by decide) (by decide) he hpl ha ?_
  intro xs0 A6 α Z Ω H Q S rx g;obtain⟨ds,own,d,nw,ee,k⟩:=fj (bw:=false) S rx g;have nw:=dP nw;have dom:=cE S;replace ee:Cw ds=_:=ee;unfold Cw at ee;split at ee
  ·obtain⟨x,rfl,n⟩:=nw.one
   cases aY n;cases ee;exact .inl ⟨_,rfl,fH dom k rfl⟩
  ·obtain⟨x,rfl,n⟩:=nw.one
   cases gf n;cases ee;exact .inr ⟨_,rfl,fH dom k rfl⟩
  ·cases ee
 | min=>
  refine eh (tB hcalm) hg hm boot_min (by decide) (by decide) he hpl ha ?_
  intro xs0 A6 α Z Ω H Q S rx g;obtain⟨ds,own,d,nw,ee,k⟩:=fj (bw:=false) S rx g;have nw:=dP nw;have dom:=cE S;replace ee:Cy ds=_:=ee;unfold Cy at ee;split at ee
  ·obtain⟨x,y,rfl,n,n'⟩:=nw.two
   cases aY n;cases aY n';cases ee;exact⟨_,_,rfl,fH dom k rfl⟩
  ·cases ee
 | max=>simp at hf
 | list=>
  refine kC mI hg hm boot_list (by decide) (by decide) he hpl ha ?_
  intro xs vs α Z Ω H Q S rx g;have g:bQ κ Φ α Z H (oS xs Ω) Q:=g;unfold oS at g;split at g
  ·split at g
   ·rename_i ds hd
    obtain⟨v,r,rfl,r1,r2⟩:=rx.cons_inv;rw[r2.nil_inv];obtain⟨l,ws,rfl,q1,q2⟩:=kz (K:=X.K) S r1 hd;exact⟨l,ws,rfl,q1,eg S q2 g⟩
   ·exact g.elim
  ·exact g.elim
 | tuple=>
  refine kC lp hg hm boot_tuple (by decide) (by decide) he hpl ha ?_
  intro xs vs α Z Ω H Q S rx g;have g:bQ κ Φ α Z H (kA xs Ω) Q:=g;unfold kA at g;split at g
  ·obtain⟨v,r,rfl,r1,r2⟩:=rx.cons_inv
   rw[r2.nil_inv];have r1':=r1;obtain⟨l,ws,rfl,_,q1,q2⟩:=fL r1;exact⟨l,ws,rfl,.inr ⟨tL (.inl q1),bQ.ret S r1' g⟩⟩
  ·split at g
   ·rename_i ds hd
    obtain⟨v,r,rfl,r1,r2⟩:=rx.cons_inv;rw[r2.nil_inv];obtain⟨l,ws,rfl,q1,q2⟩:=bp S r1 hd;exact⟨l,ws,rfl,.inl ⟨jb q1,gu S q2 g⟩⟩
   ·exact g.elim
  ·exact g.elim
 | sorted=>simp at hf
 | bool=>simp at hf
def fk(xs:List D)(Ω:ay):av D:=match xs with
 | [x]=>match c5 Ω x with
  | some ds=>match fE ds with
   | .ok ys=>lE Ω (.lst ys)
   | _=>.bad
  | none=>.bad
 | _=>.bad
theorem oV:∀ {ds:List D} {is:List Int} {vs:List V},ja ds=some is->aK (au α Z H) ds vs->vs=is.map V.int
 | [],is,vs,h,r=>by cases h;exact r.nil_inv
 | d::ds,is,vs,h,r=>by
  obtain⟨v,r',rfl,r1,r2⟩:=r.cons_inv;cases d with
  | int i=>
   obtain⟨js,h1,rfl⟩:=Option.map_eq_some_iff.mp (show(ja ds).map (i :: ·)=some is from h)
   simp only[au]at r1;rw[r1,oV h1 r2];rfl
  | _=>cases h
theorem oW:∀ {ds:List D} {is:List Str} {vs:List V},fP ds=some is->aK (au α Z H) ds vs->vs=is.map V.str
 | [],is,vs,h,r=>by cases h;exact r.nil_inv
 | d::ds,is,vs,h,r=>by
  obtain⟨v,r',rfl,r1,r2⟩:=r.cons_inv;cases d with
  | str i=>
   obtain⟨js,h1,rfl⟩:=Option.map_eq_some_iff.mp (show(fP ds).map (i :: ·)=some is from h)
   simp only[au]at r1;rw[r1,oW h1 r2];rfl
  | _=>cases h
theorem kD{β:Type}{f:β->D}{g:β->V}(h:∀ x,au α Z H (f x) (g x)):∀ xs:List β,aK (au α Z H) (xs.map f) (xs.map g)
 | []=>.nil
 | x::xs=>.cons (h x) (kD h xs)
theorem wq(hg:Gl X "sorted")(hm:X.mg "sorted"=none)(he:starEach (e::es) X.env=(false,eval e X.env)::starEach es X.env)(hpl:(backTo pos (starEach es X.env)).any (·.1)=false)(ha:pN X κ Φ (e::es) as) :
  bj X κ Φ (.Call (.Name "sorted" p) (e::es) [] pos) (mN fk as):=by
 refine eh tV hg hm (by decide +kernel) (by decide) (by decide) he hpl ha ?_
 intro xs vs α Z Ω H Q S rx g;unfold fk at g;split at g
 ·split at g
  ·rename_i ds hd
   obtain⟨v,r,rfl,r1,r2⟩:=rx.cons_inv;rw[r2.nil_inv];obtain⟨a,ws,rfl,q1,q2⟩:=bp S r1 hd;split at g
   ·rename_i ys hy
    unfold fE at hy;split at hy
    ·cases hy
    ·rename_i h64
     split at hy
     ·rename_i is hi
      cases hy;have e1:=oV hi q2;subst e1;have hl:is.length < 64:=by have:=q2.length;rw[List.length_map]at this;omega
      exact⟨a,rfl,.inr ⟨is,jb q1,hl,eg S (kD (f:=D.int) (g:=V.int) (fun x=>by simp only[au]) _) g⟩⟩
     ·split at hy
      ·rename_i is hi
       cases hy;have e1:=oW hi q2;subst e1;have hl:is.length < 64:=by have:=q2.length;rw[List.length_map]at this;omega
       exact⟨a,rfl,.inl ⟨is,jb q1,hl,eg S (kD (f:=D.str) (g:=V.str) (fun x=>by simp only[au]) _) g⟩⟩
      ·cases hy
   ·exact g.elim
  ·exact g.elim
 ·exact g.elim
def Lq(t:Ty):D->ay->av D:=tX fun d=>match vv d t with | some b=>.ok (false,.bl b) | none=>.bad
noncomputable def Cz(t:Ty)(x:D)(Ω:ay):av D:=match x with
 | .ref k=>match Ω[k]? with
  | some (.lst _)=>.ok (.bl (t == .list)) Ω
  | some (.dK _)=>.ok (.bl (t == .dict)) Ω
  | _=>.bad
 | .lst _=>.ok (.bl (t == .list)) Ω
 | .tup _=>.ok (.bl (t == .tuple)) Ω
 | _=>.bad
def dJ(t:Ty):D->ay->av D:=Ck (Cz t) (Lq t)
def A7(K:PySem.W.Frag):List V->Hp->VK->Prop:=fun xs H Q=>∃ a vs t,xs=[.ref a,.ty (Ty.id t)]/\((Rd H a (.lst vs)/\Q (.bl (t == .list)) H)\/(Rd H a (.tup vs)/\Q (.bl (t == .tuple)) H)\/(∃ kvs,H a=some (.dK kvs)/\Q (.bl (t == .dict)) H))
theorem t_:dQ X (.builtin "isinstance") (A7 X.K):=by
 intro pins s σ H xs us Q I r h;obtain⟨a,vs,t,rfl,h⟩:=h;obtain⟨u,w',rfl,rx,rt⟩:=vals2 r;cases (show w'=Value.type (Ty.id t) from rt)
 obtain⟨t1,t2,t3,t4,t5,t6,t7⟩:=rO X.K t;rcases h with ⟨h1,q⟩ | ⟨h1,q⟩ | ⟨kvs,h1,q⟩
 ·have fin:∀ tk,EP X pins σ Q (.bool (t == .list)) { s with toks:=tk }:=fun tk=>⟨.bl _,H,I.tok tk,rfl,q⟩
  rcases h1 with h1 | ⟨o,h1⟩
  ·exact ck I rx (.lst h1) t5 fin
  ·exact ck I rx (.jn h1) t5 fin
 ·have fin:∀ tk,EP X pins σ Q (.bool (t == .tuple)) { s with toks:=tk }:=fun tk=>⟨.bl _,H,I.tok tk,rfl,q⟩
  cases rx;exact PySem.W.kia_one PySem.W.kitx_tuple I.fX (jd (K:=X.K) I h1) t6 (fun z=>nomatch z) fin
 ·have fin:∀ tk,EP X pins σ Q (.bool (t == .dict)) { s with toks:=tk }:=fun tk=>⟨.bl _,H,I.tok tk,rfl,q⟩
  exact ck I rx (.dK h1) t7 fin
theorem zz{t:Ty}{pt:Pos}(hg:Gl X "isinstance")(hm:X.mg "isinstance"=none)(hgt:Gl X t.nm)(hmt:X.mg t.nm=none)
  (he:starEach [a,Expr.Name t.nm pt] X.env=(false,eval a X.env)::starEach [Expr.Name t.nm pt] X.env) (hpl:(backTo pos (starEach [Expr.Name t.nm pt] X.env)).any (·.1)=false) (ha:bj X κ Φ a ma) :
  bj X κ Φ (.Call (.Name "isinstance" p) [a,.Name t.nm pt] [] pos) (m1 (dJ t) ma):=by
 have NZ:PE X (.Name t.nm pt) (tC (.ty t.id)):=yd hgt hmt (yP t) rfl (by cases t<;>decide) (by cases t<;>decide)
 unfold dJ;rw[Cm];refine bj.alt ?_ ?_
 ·refine jE (r:=fun x H Q=>A7 X.K [x,.ty t.id] H Q) (fun ta pa=>jZ t_ hg hm boot_isinstance (cV pa (cV NZ iR rfl) he) (by decide) (by decide) he hpl) ha ?_
  intro dx x α Z Ω H Q S rx g;unfold Cz at g;split at g
  ·split at g
   ·rename_i k ds hk
    obtain⟨a,vs,rfl,h1,h2⟩:=bp (ds:=ds) S rx (by simp only[c5,hk])
    exact⟨a,vs,t,rfl,.inl ⟨h1,bQ.ret S (aT rfl) g⟩⟩
   ·rename_i k kvs hk
    simp only[au]at rx;obtain⟨a,ha,rfl⟩:=rx;obtain⟨a',ha',kvs',h1,_⟩:=S.cell hk;rw[ha]at ha';cases ha'
    exact⟨a,[],t,rfl,.inr (.inr ⟨kvs',h1,bQ.ret S (aT rfl) g⟩)⟩
   ·exact g.elim
  ·rename_i ds
   obtain⟨a,vs,rfl,h1,h2⟩:=bp (ds:=ds) S rx rfl;exact⟨a,vs,t,rfl,.inl ⟨h1,bQ.ret S (aT rfl) g⟩⟩
  ·obtain⟨a,vs,rfl,_,h1,h2⟩:=fL rx
   exact⟨a,vs,t,rfl,.inr (.inl ⟨.inl h1,bQ.ret S (aT rfl) g⟩)⟩
  ·exact g.elim
 ·refine jE (r:=fun x H Q=>Fl X.K [x,.ty t.id] H Q) (fun ta pa=>jZ vL hg hm boot_isinstance (cV pa (cV NZ iR rfl) he) (by decide) (by decide) he hpl) ha ?_
  intro dx x α Z Ω H Q S rx g;obtain⟨d,own,d',n1,e1,k⟩:=oQ (bw:=false) S rx g;cases q:vv d t with
  | none=>rw[q]at e1;cases e1
  | some b=>
   rw[q]at e1;cases e1;exact⟨_,d,x,t,b,rfl,n1,q,fH (cE S) k rfl⟩
def bE(xZ:ay->D->Bool)(f:D->List D->ay->av D)(mo:EM)(as:AM):EM:=fun ρ Ω=>(mo ρ Ω).bind fun x ag=>if xZ ag x=true then (as ρ ag).bind fun xs aw=>f x xs aw else .bad
def eY(Ω:ay)(x:D):Bool:=(c5 Ω x).isSome
noncomputable def wt(_:ay)(x:D):Bool:=match x with
 | .str _=>true
 | _=>false
theorem m_{x:D}{v:V}{K:PySem.W.Frag}(S:bt κ α Z Ω H)(r:au α Z H x v)(h:eY Ω x=true):BV K "list" v H:=by
 unfold eY at h;cases q:c5 Ω x with
 | none=>rw[q]at h;cases h
 | some ds=>
  obtain⟨a,vs,rfl,h1,h2⟩:=bp S r q;exact .inl ⟨rfl,vs,jb h1⟩
theorem zA{x:D}{v:V}{K:PySem.W.Frag}(S:bt κ α Z Ω H)(r:au α Z H x v)(h:wt Ω x=true):BV K "str" v H:=by
 cases x with
 | str z=>simp only[au]at r;subst r;rfl
 | _=>cases h
section
variable{T id:String}{name:Str}{r:V->List V->Hp->VK->Prop}{xZ:ay->D->Bool}{f:D->List D->ay->av D}
theorem zB(pa:PlainAttrs T)(slot:PySem.Slot T name id)(hty:typeOf (.builtin id)=pure (.type "method_descriptor"))(hm:Eb X id r)
  (hT:∀ x v α Z Ω H,bt κ α Z Ω H->au α Z H x v->xZ Ω x=true->BV X.K T v H)
  (hr:∀ x v xs vs α Z Ω H Q,bt κ α Z Ω H->au α Z H x v->aK (au α Z H) xs vs->bQ κ Φ α Z H (f x xs Ω) Q->r v vs H Q)
  (hbase:attributeBase o name X.env (eval o X.env)=eval o X.env) (hline:(apos.endLine == cpos.line)=true) (ho:bj X κ Φ o mo):bj X κ Φ (.Call (.Attribute o name apos) [] [] cpos) (bE xZ f mo ah):=by
 intro aE Z0 H0 ρ Ω;refine PE.imp (L2.BW pa slot hty hm (ho aE Z0 H0 ρ Ω) hbase hline) ?_;rintro σ H Q ⟨α,Z,S,g⟩;refine⟨α,Z,S,bQ.use g fun x ag _ v H1 α1 Z1 g1 s1 r1 k1 => ?_⟩
 split at k1
 ·rename_i hi
  exact⟨hT x v α1 Z1 ag H1 s1 r1 hi,hr x v [] [] α1 Z1 ag H1 Q s1 r1 .nil k1⟩
 ·exact k1.elim
theorem wu{env:Env}:∀ {es:List Expr},(∀ e∈es,isStar e=false)->((backTo cpos (starEach es env)).all (fun x => !x.1))=true
 | [],_=>rfl
 | e::es,h=>by
  rw[bV (h e (by simp))]
  show(!false && (backTo cpos (starEach es env)).all (fun x => !x.1))=true
  rw[wu fun z hz=>h z (by simp[hz])];rfl
theorem ng(pa:PlainAttrs T)(slot:PySem.Slot T name id)(hty:typeOf (.builtin id)=pure (.type "method_descriptor"))(hm:Eb X id r)
  (hT:∀ x v α Z Ω H,bt κ α Z Ω H->au α Z H x v->xZ Ω x=true->BV X.K T v H)
  (hr:∀ x v xs vs α Z Ω H Q,bt κ α Z Ω H->au α Z H x v->aK (au α Z H) xs vs->bQ κ Φ α Z H (f x xs Ω) Q->r v vs H Q)
  (hbase:attributeBase o name X.env (eval o X.env)=eval o X.env) (hline:(apos.endLine == cpos.line)=true) (ho:bj X κ Φ o mo) (ha:pN X κ Φ (e::es) as) (hst:∀ z∈e::es,isStar z=false) (hlen:(e::es).length < 20):bj X κ Φ (.Call (.Attribute o name apos) (e::es) [] cpos) (bE xZ f mo as):=by
 intro aE Z0 H0 ρ Ω
 have hfew:((backTo cpos (starEach (e::es) X.env)).all (fun x => !x.1) && (backToKw cpos (keywordEach [] X.env)).all (fun x=>x.1.isSome)
   && decide ((e::es).length + ([]:List Keyword).length + (if ([]:List Keyword).isEmpty then 0 else 1) < 30))=true:=by
  rw[wu hst,decide_eq_true (by show(e::es).length + 0 + 0 < 30;omega)];rfl
 refine PE.imp (L2.E5 pa slot hty hm (ho aE Z0 H0 ρ Ω) (PA.ex fun ag=>ha aE Z0 H0 ρ ag) hbase hfew hline (bV (hst e (by simp))) (cO fun z hz=>hst z (by simp[hz]))) ?_
 rintro σ H Q ⟨α,Z,S,g⟩;refine⟨α,Z,S,bQ.use g fun x ag _ v H1 α1 Z1 g1 s1 r1 k1 => ?_⟩
 split at k1
 ·rename_i hi
  exact⟨hT x v α1 Z1 ag H1 s1 r1 hi,ag,α1,Z1,S.grow g1 s1,oP.use k1 fun xs aw _ vs H2 α2 Z2 g2 s2 r2 k2=>hr x v xs vs α2 Z2 aw H2 Q s2 (s1.du g2 r1) r2 k2⟩
 ·exact k1.elim
end
noncomputable def qI(Ω:ay):D->Option (Nat×List D)
 | .ref k=>match Ω[k]? with
  | some (.lst ds)=>some (k,ds)
  | _=>none
 | _=>none
theorem kE{x:D}{v:V}{k:Nat}{ds:List D}(S:bt κ α Z Ω H)(r:au α Z H x v)(h:qI Ω x=some (k,ds)):∃ a vs,v=.ref a/\α[k]?=some a/\H a=some (.lst vs)/\aK (au α Z H) ds vs:=by
 cases x with
 | ref n=>
  simp only[qI]at h;split at h
  ·rename_i ds' hk
   cases h;simp only[au]at r;obtain⟨a,ha,rfl⟩:=r;obtain⟨a',ha',vs,h1,h2⟩:=S.cell hk;rw[ha]at ha';cases ha';exact⟨a,vs,rfl,ha,h1,h2⟩
  ·cases h
 | _=>cases h
theorem kF{k:Nat}{p:Addr}{ds:List D}{vs:List V}{d:D}{u:V}(S:bt κ α Z Ω H)(hk:α[k]?=some p){ws:List V}(hm:H p=some (.lst ws))(r:aK (au α Z H) ds vs)(ru:au α Z H d u)(g:bQ κ Φ α Z H (.ok d (Ω.set k (.lst ds))) Q):Q u (upd H p (.lst vs)):=by
 obtain⟨S1,g1⟩:=S.put (o:=.lst vs) (c:=.lst ds) hk (fun o u z=>by rw[hm]at z;cases z) fun R hR=>⟨vs,bo,r.imp hR⟩
 exact g _ _ _ _ g1 S1 (S.du g1 ru)
def bu(x:D)(xs:List D)(Ω:ay):av D:=match qI Ω x,xs with
 | some (k,ds),[y]=>if small (ds.length + 1) then .ok .non (Ω.set k (.lst (ds++[y]))) else .bad
 | _,_=>.bad
def ej(x:D)(xs:List D)(Ω:ay):av D:=match qI Ω x,xs with
 | some (k,ds),[]=>.ok .non (Ω.set k (.lst ds.reverse))
 | _,_=>.bad
def gC(x:D)(xs:List D)(Ω:ay):av D:=match qI Ω x,xs with
 | some (k,ds),[.int i]=>if hW i=true then (match L2.uF ds.length i with
  | some n=>match ds[n]? with
   | some d=>.ok d (Ω.set k (.lst (ds.eraseIdx n)))
   | none=>.bad
  | none=>.bad) else .bad
 | _,_=>.bad
def bF(x:D)(xs:List D)(Ω:ay):av D:=match xs with
 | [y]=>fK (fun a b=>match a with | .lst ds=>mL .index (.lst ds) (.tup [b]) | _=>.bad) x y Ω
 | _=>.bad
def kG(x:D)(xs:List D)(Ω:ay):av D:=match xs with
 | [y]=>fK (fun a b=>mL .join a (.tup [b])) x y Ω
 | _=>.bad
theorem iE{R:D->V->Prop}{y:D}{vs:List V}(h:aK R [y] vs):∃ v,vs=[v]/\R y v:=by
 obtain⟨v,r,rfl,h1,h2⟩:=h.cons_inv;rw[h2.nil_inv];exact⟨v,rfl,h1⟩
theorem ua{x:D}{v:V}{xs:List D}{vs:List V}(S:bt κ α Z Ω H)(r:au α Z H x v)(rs:aK (au α Z H) xs vs)(g:bQ κ Φ α Z H (bu x xs Ω) Q):rC v vs H Q:=by
 unfold bu at g;split at g
 ·rename_i k ds y hk
  obtain⟨a,ws,rfl,h1,h2,h3⟩:=kE S r hk;obtain⟨u,rfl,h4⟩:=iE rs;split at g
  ·rename_i hs
   have:=bC hs;exact⟨a,ws,u,rfl,rfl,h2,by rw[h3.length];omega,kF S h1 h2 (h3.append (.one h4)) (aT rfl) g⟩
  ·exact g.elim
 ·exact g.elim
theorem qJ{x:D}{v:V}{xs:List D}{vs:List V}(S:bt κ α Z Ω H)(r:au α Z H x v)(rs:aK (au α Z H) xs vs)(g:bQ κ Φ α Z H (ej x xs Ω) Q):oa v vs H Q:=by
 unfold ej at g;split at g
 ·rename_i k ds hk
  obtain⟨a,ws,rfl,h1,h2,h3⟩:=kE S r hk;rw[rs.nil_inv];exact⟨a,ws,rfl,rfl,h2,kF S h1 h2 h3.reverse (aT rfl) g⟩
 ·exact g.elim
theorem wx{x:D}{v:V}{xs:List D}{vs:List V}(S:bt κ α Z Ω H)(r:au α Z H x v)(rs:aK (au α Z H) xs vs)(g:bQ κ Φ α Z H (gC x xs Ω) Q):u7 v vs H Q:=by
 unfold gC at g;split at g
 ·rename_i k ds i hk
  obtain⟨a,ws,rfl,h1,h2,h3⟩:=kE S r hk;obtain⟨u,rfl,ru⟩:=iE rs;simp only[au]at ru;subst ru;split at g
  ·rename_i hin
   have hi:=ou hin;split at g
   ·rename_i n hn
    split at g
    ·rename_i d hd
     obtain⟨u,h4,h5⟩:=h3.get hd;obtain⟨e1,e2,e3,e4⟩:=rq hn;exact⟨a,ws,i,n,u,rfl,rfl,h2,by omega,by omega,by rw[h3.length];exact e1,h4,kF S h1 h2 (h3.eraseIdx n) h5 g⟩
    ·exact g.elim
   ·exact g.elim
  ·exact g.elim
 ·exact g.elim
theorem wy{x:D}{v:V}{xs:List D}{vs:List V}(S:bt κ α Z Ω H)(r:au α Z H x v)(rs:aK (au α Z H) xs vs)(g:bQ κ Φ α Z H (bF x xs Ω) Q):vO v vs H Q:=by
 unfold bF at g;split at g
 ·obtain⟨u,rfl,h4⟩:=iE rs
  obtain⟨d,e,own,d',n1,n2,e1,k⟩:=gq (bw:=false) S r h4 g;cases d with
  | lst ds=>
   (unfold mL at e1;dsimp only at e1)
   split at e1
   ·rename_i hc
    simp only[Bool.and_eq_true]at hc;split at e1
    ·rename_i j hj
     cases e1;exact⟨_,ds,e,u,j,rfl,n1,n2,hc.1,hc.2,hj,fH (cE S) k rfl⟩
    ·cases e1
   ·cases e1
  | _=>cases e1
 ·exact g.elim
theorem zC{x:D}{v:V}{xs:List D}{vs:List V}(S:bt κ α Z Ω H)(r:au α Z H x v)(rs:aK (au α Z H) xs vs)(g:bQ κ Φ α Z H (kG x xs Ω) Q):rJoin v vs H Q:=by
 unfold kG at g;split at g
 ·obtain⟨u,rfl,h4⟩:=iE rs
  obtain⟨d,e,own,d',n1,n2,e1,k⟩:=gq (bw:=false) S r h4 g;cases d with
  | str z=>
   cases cC n1;cases e with
   | lst ds=>
    (unfold mL at e1;dsimp only at e1)
    split at e1
    ·rename_i ys hs
     split at e1
     ·rename_i hc
      cases e1;simp only[Bool.and_eq_true,decide_eq_true_eq]at hc;exact⟨z,_,ds,ys,u,rfl,rfl,n2,hs,hc.1,hc.2,fH (cE S) k rfl⟩
     ·cases e1
    ·cases e1
   | _=>cases e1
  | _=>cases e<;>cases e1
 ·exact g.elim
end
inductive Src where
 | seq (x:D) | ints (lo:Int) (n:Nat) | chars (z:Str) | Lr (x:D)
def gT:Src->ay->Option (List D)
 | .seq x,Ω=>eH Ω x
 | .ints lo n,_=>some (intsFrom lo n)
 | .chars z,_=>some (z.cps.toList.map fun c=>.str (gc c))
 | .Lr x,Ω=>(eH Ω x).map (cX 0)
abbrev IM:=aP->ay->av Src
def zD(κ:Str->Addr->Prop)(s:Src)(J:It)(α:List Addr)(Z:Addr->Prop)(H:Hp):Prop:=∀ α1 Z1 ag H1 ds,bS α Z H α1 Z1 H1->bt κ α1 Z1 ag H1->gT s ag=some ds ->
 (∀ (i:Nat) (d:D),ds[i]?=some d->J.go i H1/\∀ x H2,J.HX i H1 x H2->∃ Z2,bS α1 Z1 H1 α1 Z2 H2/\bt κ α1 Z2 ag H2/\au α1 Z2 H2 d x)/\∀ i,ds.length<=i->J.stop i H1
def qK(κ:Str->Addr->Prop)(Φ:fU)(α:List Addr)(Z:Addr->Prop)(H:Hp)(r:av Src)(R:It->Hp->Prop):Prop:=match r with
 | .ok s ak=>∀ J H' α' Z',bS α Z H α' Z' H'->bt κ α' Z' ak H'->zD κ s J α' Z' H'->R J H'
 | .exc x ak=>∀ H' α' Z',bS α Z H α' Z' H'->bt κ α' Z' ak H'->Φ x ak α' Z' H'
 | .bad=>False
noncomputable def P7(κ:Str->Addr->Prop)(Φ:fU)(aE:List Addr)(Z0:Addr->Prop)(H0:Hp)(m:IM)(ρ:aP)(Ω:ay):TI:=fun σ H R=>∃ α Z,b_ κ aE Z0 H0 α Z Ω ρ σ H/\qK κ Φ α Z H (m ρ Ω) R
def wz(X:Cx)(κ:Str->Addr->Prop)(Φ:fU)(tg e:Expr)(m:IM):Prop:=∀ aE Z0 H0 ρ Ω,PI X tg e (P7 κ Φ aE Z0 H0 m ρ Ω)
def srcOf(Ω:ay)(x:D):av Src:=match eH Ω x,x with
 | some _,x=>.ok (.seq x) Ω
 | none,.str z=>.ok (.chars z) Ω
 | none,_=>.bad
def bf(m:EM):IM:=fun ρ Ω=>(m ρ Ω).bind fun x ag=>srcOf ag x
def ub(m:EM):IM:=fun ρ Ω=>(m ρ Ω).bind fun x ag=>match eH ag x with
 | some _=>.ok (.Lr x) ag
 | none=>.bad
def su(xs:List D)(Ω:ay):av Src:=match xs with
 | [.int j]=>if hW j then .ok (.ints 0 j.toNat) Ω else .bad
 | _=>.bad
def bG(as:AM):IM:=fun ρ Ω=>(as ρ Ω).bind su
section
variable{X:Cx}{κ:Str->Addr->Prop}{Φ:fU}{α α' aE α1:List Addr}{Z Z' Z0 Z1:Addr->Prop}{Ω ak:ay}{H H' H0 H1:Hp}{ρ:aP}{σ:L2.St}{Q Q':VK}{r:av D}{a b e ce o tg:Expr}{rest:List Expr}{es:List Expr}{ma mb mc m mo:EM}{as:AM}{pos p apos cpos tpos:Pos}
theorem qK.from{r:av Src}{R:It->Hp->Prop}(g:bS α Z H α1 Z1 H1)(h:qK κ Φ α Z H r R):qK κ Φ α1 Z1 H1 r R:=by
 cases r with
 | ok d ak=>exact fun v H' α' Z' g'=>h v H' α' Z' (g.trans g')
 | exc x ak=>exact fun H' α' Z' g'=>h H' α' Z' (g.trans g')
 | bad=>exact h
theorem qK.use{r:av D}{f:D->ay->av Src}{R:It->Hp->Prop}(h:qK κ Φ α Z H (r.bind f) R)(k:∀ d ag,r=.ok d ag->∀ v H1 α1 Z1,bS α Z H α1 Z1 H1->bt κ α1 Z1 ag H1->au α1 Z1 H1 d v->qK κ Φ α1 Z1 H1 (f d ag) R->Q' v H1):bQ κ Φ α Z H r Q':=by
 cases r with
 | ok d ag=>exact fun v H1 α1 Z1 g s q=>k d ag rfl v H1 α1 Z1 g s q (qK.from g h)
 | exc x ag=>exact h
 | bad=>exact h
theorem oX{K:PySem.W.Frag}{x:D}{a:Addr}(hx:au α Z H x (.ref a))(S:bt κ α Z Ω H)(hl:(c5 Ω x).isSome=true):zD κ (.seq x) (Kj K a) α Z H:=by
 intro α1 Z1 ag H1 ds g s hs;have hx1:=S.du g hx;have hnt:∀ es,x≠.tup es:=fun es e=>by subst e;cases hl
 have hs':c5 ag x=some ds:=by
  cases x with
  | tup es=>exact absurd rfl (hnt _)
  | _=>exact hs
 obtain⟨a',vs,e,h1,h2⟩:=bp s hx1 hs';cases e;refine⟨fun i d hd => ?_,fun i hi=>⟨vs,jb h1,by rw[h2.length];exact hi⟩⟩
 obtain⟨v,hv,rv⟩:=h2.get hd;refine⟨⟨vs,v,jb h1,hv⟩,fun y H2 hy => ?_⟩
 obtain⟨rfl,hy⟩:=hy;have:=hy vs (jb h1);rw[hv]at this;cases this;exact⟨Z1,bS.refl s.has,s,rv⟩
theorem zE{K:PySem.W.Frag}{es:List D}{a:Addr}(hx:au α Z H (.tup es) (.ref a))(S:bt κ α Z Ω H):zD κ (.seq (.tup es)) (Kk K a) α Z H:=by
 intro α1 Z1 ag H1 ds g s hs;have hx1:=S.du g hx;cases hs;obtain⟨a',vs,e,_,h1,h2⟩:=fL hx1;cases e;refine⟨fun i d hd => ?_,fun i hi=>⟨vs,tL (.inl h1),by rw[h2.length];exact hi⟩⟩
 obtain⟨v,hv,rv⟩:=h2.get hd;refine⟨⟨vs,v,tL (.inl h1),hv⟩,fun y H2 hy => ?_⟩
 obtain⟨rfl,hy⟩:=hy;have:=hy vs (tL (.inl h1));rw[hv]at this;cases this;exact⟨Z1,bS.refl s.has,s,rv⟩
theorem zF(h:bj X κ Φ e m):wz X κ Φ tg e (bf m):=by
 intro aE Z0 H0 ρ Ω;refine PI.imp (B_ (h aE Z0 H0 ρ Ω)) ?_;rintro σ H R ⟨α,Z,S,g⟩;refine⟨α,Z,S,qK.use g fun x ag _ v H1 α1 Z1 g1 s1 r1 k1 => ?_⟩
 cases x with
 | tup es=>
  have r1':=r1;obtain⟨a,vs,rfl,_,h1,h2⟩:=fL r1;exact .inr (.inl ⟨a,vs,rfl,.inl h1,k1 _ H1 α1 Z1 (bS.refl s1.has) s1 (zE r1' s1)⟩)
 | lst es=>
  have r1':=r1;obtain⟨a,vs,rfl,h1,h2⟩:=bp (ds:=es) s1 r1 rfl;exact .inl ⟨a,vs,rfl,h1,k1 _ H1 α1 Z1 (bS.refl s1.has) s1 (oX r1' s1 rfl)⟩
 | ref n=>
  cases hq':c5 ag (.ref n) with
  | none=>
   simp only[srcOf,eH,hq']at k1;exact k1.elim
  | some ds=>
   simp only[srcOf,eH,hq']at k1;have r1':=r1;obtain⟨a,vs,rfl,h1,h2⟩:=bp s1 r1 hq';exact .inl ⟨a,vs,rfl,h1,k1 _ H1 α1 Z1 (bS.refl s1.has) s1 (oX r1' s1 (by rw[hq'];rfl))⟩
 | str z=>
  simp only[au]at r1;subst r1;refine .inr (.inr ⟨z,rfl,k1 _ H1 α1 Z1 (bS.refl s1.has) s1 ?_⟩);intro α2 Z2 aw H2 ds g2 s2 hs;cases hs;refine⟨fun i d hd => ?_,fun i hi=>by show z.cps.size<=i;simpa using hi⟩
  have hi:i < z.cps.size:=by
   have:=(List.getElem?_eq_some_iff.mp hd).1;simpa using this
  refine⟨hi,fun y H3 hy => ?_⟩
  obtain⟨rfl,c,hc,rfl⟩:=hy;rw[List.getElem?_map]at hd;have hc':z.cps.toList[i]?=some c:=by simpa using hc
  rw[hc']at hd;cases hd;exact⟨Z2,bS.refl s2.has,s2,aT rfl⟩
 | non=>exact k1.elim
 | bl _=>exact k1.elim
 | int _=>exact k1.elim
 | dct _ _=>exact k1.elim
theorem wD{lo:Int}{n:Nat}:zD κ (.ints lo n) (ED lo n) α Z H:=by
 intro α1 Z1 ag H1 ds g s hs;cases hs;refine⟨fun i d hd => ?_,fun i hi=>by rw[kb]at hi;exact hi⟩
 have hi:=(List.getElem?_eq_some_iff.mp hd).1;rw[kb]at hi;refine⟨hi,fun y H2 hy => ?_⟩
 obtain⟨rfl,rfl⟩:=hy;rw[ints_get _ _ _ _ hd];exact⟨Z1,bS.refl s.has,s,aT rfl⟩
theorem qK.Ls{r:av (List D)}{f:List D->ay->av Src}{R:It->Hp->Prop}{Q':List V->Hp->Prop}(h:qK κ Φ α Z H (r.bind f) R)(k:∀ ds ag,r=.ok ds ag->∀ vs H1 α1 Z1,bS α Z H α1 Z1 H1->bt κ α1 Z1 ag H1->aK (au α1 Z1 H1) ds vs->qK κ Φ α1 Z1 H1 (f ds ag) R->Q' vs H1):oP κ Φ α Z H r Q':=by
 cases r with
 | ok d ag=>exact fun v H1 α1 Z1 g s q=>k d ag rfl v H1 α1 Z1 g s q (qK.from g h)
 | exc x ag=>exact h
 | bad=>exact h
theorem wF(hg:Gl X "range")(hm:X.mg "range"=none)(ha:pN X κ Φ [a] as)(hs:starEach [a] X.env=[(false,eval a X.env)]):wz X κ Φ tg (.Call (.Name "range" p) [a] [] pos) (bG as):=by
 intro aE Z0 H0 ρ Ω;refine PI.imp (tm hg hm (ha aE Z0 H0 ρ Ω) hs) ?_;rintro σ H R ⟨α,Z,S,g⟩;refine⟨α,Z,S,qK.Ls (Q':=fun vs H1=>∃ j:Int,vs=[.int j] /\ -(2 ^ 62)<=j/\j < 2 ^ 62/\R (ED 0 j.toNat) H1) g fun xs ag _ vs H1 α1 Z1 g1 s1 r1 k1 => ?_⟩
 unfold su at k1;split at k1
 ·obtain⟨v,rfl,r2⟩:=iE r1
  simp only[au]at r2;subst r2;split at k1
  ·rename_i hi
   have hi:=ou hi;exact⟨_,rfl,hi.1,hi.2,k1 _ H1 α1 Z1 (bS.refl s1.has) s1 wD⟩
  ·exact k1.elim
 ·exact k1.elim
noncomputable def ni(n:Nat)(d:D):Option aP:=match n,d with
 | 0,d=>some [some d]
 | n,.tup ds=>if ds.length=n then some (ds.map some) else none
 | _,_=>none
noncomputable def dc(cap:List Nat)(ρ:aP):aP:=cap.map fun i=>(ρ[i]?).join
def ib(nc:Bool)(mc:EM)(ρ:aP)(Ω:ay):av Bool:=if nc=true then .ok true Ω else dB (mc ρ Ω)
def sv(nc:Bool)(mc me:EM)(n:Nat)(τ:aP)(src:Src):Nat->Nat->List D->ay->av (List D)
 | 0,_,_,_=>.bad
 | f + 1,i,acc,Ω=>match gT src Ω with
  | none=>.bad
  | some ds=>match ds[i]? with
   | none=>.ok acc Ω
   | some d=>match ni n d with
    | none=>.bad
    | some ts=>if small (acc.length + 1) then match ib nc mc (ts++τ) Ω with
     | .ok true ag=>match me (ts++τ) ag with
      | .ok y aw=>sv nc mc me n τ src f (i + 1) (acc++[y]) aw
      | _=>.bad
     | .ok false ag=>sv nc mc me n τ src f (i + 1) acc ag
     | _=>.bad else .bad
def bq(me:EM)(nc:Bool)(mc:EM)(mi:IM)(n:Nat)(cap:List Nat):EM:=fun ρ Ω=>match mi ρ Ω with
 | .ok s ag=>match sv nc mc me n (dc cap ρ) s fuel 0 [] ag with
  | .ok ys aw=>lE aw (.lst ys)
  | _=>.bad
 | .exc x ag=>.exc x ag
 | .bad=>.bad
noncomputable def iY:fU:=fun _ _ _ _ _=>False
theorem oY{cap:List Nat}{ds:List D}{vs:List V}(S:b_ κ aE Z0 H0 α Z Ω ρ σ H)(g:bS α Z H α1 Z1 H1)(s:bt κ α1 Z1 ak H1)(r:aK (au α1 Z1 H1) ds vs) :
  b_ κ α1 Z1 H1 α1 Z1 ak (ds.map some++dc cap ρ) (vs.map some++oB cap σ) H1:=by
 have hl:=r.length;refine⟨s,bS.refl s.has,?_,fun i d h => ?_⟩
 ·rw[List.length_append,List.length_append,List.length_map,List.length_map,hl]
  unfold oB dc;rw[List.length_map,List.length_map]
 ·by_cases hi:i < ds.length
  ·rw[List.getElem?_append_left (by simpa using hi),List.getElem?_map]at h
   rw[List.getElem?_append_left (by simpa[hl] using hi),List.getElem?_map]
   cases q:ds[i]? with
   | none=>rw[q]at h;cases h
   | some d'=>
    rw[q]at h;cases h;obtain⟨v,hv,rv⟩:=r.get q;exact⟨v,by rw[hv];rfl,rv⟩
  ·rw[List.getElem?_append_right (by simpa using hi)]at h
   rw[List.getElem?_append_right (by simpa[hl] using hi)]
   unfold dc at h;unfold oB;rw[List.length_map,List.getElem?_map]at h;rw[List.length_map,hl,List.getElem?_map];cases q:cap[i - ds.length]? with
   | none=>rw[q]at h;cases h
   | some j=>
    rw[q]at h;have h:(ρ[j]?).join=some d:=by simpa using h
    have hj:ρ[j]?=some (some d):=by
     cases q2:ρ[j]? with
     | none=>rw[q2]at h;cases h
     | some o=>rw[q2]at h;rw[show o=some d from h]
    obtain⟨v,hv,rv⟩:=S.val j d hj;refine⟨v,?_,S.st.du g rv⟩
    show some ((σ[j]?).join)=_
    rw[hv];rfl
theorem bS.A8(g:bS α Z H α' Z' H'){a:Addr}{o:HO}(hn:a∉α)(h:H a=some o):a∉α':=fun q=>by
 rcases g.Ci a q with q | q
 ·exact hn q
 ·rw[h]at q;cases q
theorem bS.CA(g:bS α Z H α' Z' H'){a:Addr}{o:HO}(hn:¬ Z a)(h:H a=some o):¬ Z' a:=fun q=>by
 rcases g.new a q with q | q
 ·exact hn q
 ·rw[h]at q;cases q
theorem bS.side(g:bS α Z H α' Z' H'){a:Addr}{o:HO}(hn:a∉α)(h:H a=Option.none):bS α Z H α' Z' (upd H' a o):=
 ⟨g.pre,g.sub,g.new,g.Ci,fun b u e hb=>by rw[aG (bb e h)];exact g.frm b u e hb,fun b hb=>by rw[aG (fun (q:b=a)=>hn (by rw[← q];exact hb))];exact g.has b hb⟩
theorem zG{n:Nat}{d:D}{τ:aP}(h:ni n d=some τ):∃ ds:List D,τ=ds.map some:=by
 unfold ni at h;split at h
 ·cases h;exact⟨[d],rfl⟩
 ·split at h
  ·cases h;exact⟨_,rfl⟩
  ·cases h
 ·cases h
theorem bt.part(S:bt κ α Z Ω H){D0:Addr}{vs:List V}{ds:List D}(hD:H D0=some (.lst vs))(hn:D0∉α)(hz:¬ Z D0)(r:aK (au α Z H) ds vs):bt κ (α++[D0]) Z (Ω++[.lst ds]) H:=by
 have pre:∀ (n:Nat) (a:Addr),α[n]?=some a->(α++[D0])[n]?=some a:=fun n a e=>by rw[List.getElem?_append_left (List.getElem?_eq_some_iff.mp e).1];exact e
 have mono:∀ d v,au α Z H d v->au (α++[D0]) Z H d v:=fun d v r=>r.mono pre (fun _ _ _ e=>e) fun _ z=>z
 refine⟨?_,?_,fun a ha hz' => ?_,S.dom⟩
 ·refine List.nodup_append.mpr ⟨S.nS,by simp,fun a ha b hb e => ?_⟩
  rw[List.mem_singleton.mp hb]at e;exact hn (e▸ha)
 ·exact aK.append (S.xY.imp fun c a hc=>hc.imp mono (fun _ e=>e) fun _ _ _ e=>e) (.one ⟨vs,hD,r.imp mono⟩)
 ·rcases List.mem_append.mp ha with ha | ha
  ·exact S.sep a ha hz'
  ·rw[List.mem_singleton.mp ha]at hz';exact hz hz'
theorem bt.side(S:bt κ α Z Ω H){D0:Addr}{o:HO}(hn:D0∉α)(hz:¬ Z D0)(hm:∀ o u,H D0≠some (.jn o u)):bt κ α Z Ω (upd H D0 o)/\∀ d v,au α Z H d v->au α Z (upd H D0 o) d v:=by
 have mono:∀ d v,au α Z H d v->au α Z (upd H D0 o) d v:=fun d v r=>r.mono (fun _ _ e=>e) (fun a u z e=>by rw[aG (fun (q:a=D0)=>hz (by rw[← q];exact z))];exact e) fun _ z=>z
 have key:∀ {cs:List Cell} {as:List Addr},(∀ a∈as,a∈α)->aK (fun c a=>gS κ (au α Z H) H a c) cs as->aK (fun c a=>gS κ (au α Z (upd H D0 o)) (upd H D0 o) a c) cs as:=by
  intro cs as hin hA
  induction hA with
  | nil=>exact .nil
  | @cons c a cs as r t ih=>
   have hne:a≠D0:=fun q=>hn (q▸hin a (by simp))
   exact .cons (r.imp mono (fun u e=>by rw[aG hne];exact e) fun b o' u' e=>by rw[aG (fun q=>hm o' u' (by rw[← q];exact e))];exact e) (ih fun b hb=>hin b (by simp[hb]))
 exact⟨⟨S.nS,key (fun a h=>h) S.xY,S.sep,fun a z=>by rw[aG (fun (q:a=D0)=>hz (by rw[← q];exact z))];exact S.dom a z⟩,mono⟩
end
section
variable{X:Cx}{κ:Str->Addr->Prop}{Φ:fU}{tg iter elt:Expr}{ifs:List Expr}{scope:Scope}{tn cn:List Str}{cap:List Nat}{me mc:EM}{mi:IM}{nc:Bool}{pos:Pos}{n:Nat}
theorem uc{g:TG}(hit:wz X κ Φ tg iter mi)
  (hgt:∀ (d:D) (ds:List D) x α Z Ω H (σ':L2.St) (k:L2.St->Hp->Prop),ni n d=some (ds.map some)->bt κ α Z Ω H->au α Z H d x->(∀ vs,aK (au α Z H) ds vs->k (vs.map some++σ') H)->g x (List.replicate tn.length none++σ') H k)
  (hb:∀ cl C s₀ H₀ fp,PG (blk X scope cl C (tn++cn) s₀ H₀ fp) tg g/\((ifs=[]/\nc=true)\/∃ c,ifs=[c]/\nc=false/\gm (blk X scope cl C (tn++cn) s₀ H₀ fp) κ iY c mc)/\bj (blk X scope cl C (tn++cn) s₀ H₀ fp) κ iY elt me) :
  ∀ aE Z0 H0 ρ Ω,∃ wi tc te,PI X tg iter wi/\(∀ cl C s₀ H₀ fp,PG (blk X scope cl C (tn++cn) s₀ H₀ fp) tg g/\yQ (blk X scope cl C (tn++cn) s₀ H₀ fp) ifs tc/\PE (blk X scope cl C (tn++cn) s₀ H₀ fp) elt te) /\
   ∀ σ H Q,tO κ Φ aE Z0 H0 (bq me nc mc mi n cap) ρ Ω σ H Q->lP wi tn.length cap g tc te σ H Q:=by
 intro aE Z0 H0 ρ Ω
 let tc:TT:=fun σ' H Q=>∃ α Z Ω bL,b_ κ α Z H α Z Ω bL σ' H/\nT κ iY α Z H (ib nc mc bL Ω) Q
 let te:TE:=fun σ' H Q=>∃ α Z Ω bL,b_ κ α Z H α Z Ω bL σ' H/\bQ κ iY α Z H (me bL Ω) Q
 have hb':∀ cl C s₀ H₀ fp,PG (blk X scope cl C (tn++cn) s₀ H₀ fp) tg g/\yQ (blk X scope cl C (tn++cn) s₀ H₀ fp) ifs tc/\PE (blk X scope cl C (tn++cn) s₀ H₀ fp) elt te:=by
  intro cl C s₀ H₀ fp;obtain⟨h1,h2,h3⟩:=hb cl C s₀ H₀ fp;refine⟨h1,?_,?_⟩
  ·rcases h2 with ⟨e,hn⟩ | ⟨c,e,hn,h2⟩
   ·subst e
    intro pins s σ' H Q I q;obtain⟨α,Z,Ω,bL,S,k⟩:=q;rw[ib,if_pos hn]at k;exact yR pins s σ' H Q I (k H α Z (bS.refl S.st.has) S.st)
   ·subst e
    intro pins s σ' H Q I q;obtain⟨α,Z,Ω,bL,S,k⟩:=q;rw[ib,if_neg (by rw[hn];exact Bool.false_ne_true)]at k
    exact yS (h2 α Z H bL Ω) pins s σ' H Q I ⟨α,Z,S,k⟩
  ·intro pins s σ' H Q I q
   obtain⟨α,Z,Ω,bL,S,k⟩:=q;exact h3 α Z H bL Ω pins s σ' H Q I ⟨α,Z,S,k⟩
 refine⟨_,tc,te,hit aE Z0 H0 ρ Ω,hb',?_⟩;rintro σ H Q ⟨α,Z,S,k⟩;refine⟨α,Z,S,?_⟩;simp only[bq]at k;cases qi:mi ρ Ω with
 | exc x ag=>rw[qi]at k;exact k
 | bad=>rw[qi]at k;exact k.elim
 | ok src ag=>
  rw[qi]at k;dsimp only at k;intro J H1 α1 Z1 g1 s1 w1 D0 hD;cases qg:sv nc mc me n (dc cap ρ) src fuel 0 [] ag with
  | exc x aw=>rw[qg]at k;exact k.elim
  | bad=>rw[qg]at k;exact k.elim
  | ok ys aw=>
   rw[qg]at k;dsimp only at k;have FK:¬ Z1 D0:=fun z=>s1.dom D0 z hD
   have zH:D0∉α1:=fun z=>s1.has D0 z hD
   refine⟨fun i f vs H2=>∃ α2 Z2 A9 acc,bS α1 Z1 H1 α2 Z2 H2/\bt κ α2 Z2 A9 H2/\D0∉α2/\¬ Z2 D0/\H2 D0=some (.lst vs)/\aK (au α2 Z2 H2) acc vs/\sv nc mc me n (dc cap ρ) src f i acc A9=.ok ys aw,
    ⟨fuel,α1,Z1,ag,[],?_,?_,zH,FK,bo,.nil,qg⟩,?_⟩
   ·exact⟨fun _ _ e=>e,fun _ z=>z,fun _ z=>.inl z,fun _ z=>.inl z,fun a o e _=>by rw[aG (bb e hD)];exact e,fun a ha=>by rw[aG (fun (q:a=D0)=>zH (by rw[← q];exact ha))];exact s1.has a ha⟩
   ·exact(s1.side zH FK fun o u z=>by rw[hD]at z;cases z).1
   rintro i f vs H2 ⟨α2,Z2,A9,acc,g2,s2,nD,nZ,hD2,r2,e2⟩;refine⟨hD2,?_⟩;cases f with
   | zero=>cases e2
   | succ f=>
    simp only[sv]at e2;cases qs:gT src A9 with
    | none=>rw[qs]at e2;cases e2
    | some ds=>
     rw[qs]at e2;dsimp only at e2;obtain⟨Lu,Lv⟩:=w1 α2 Z2 A9 H2 ds g2 s2 qs;cases qd:ds[i]? with
     | none=>
      rw[qd]at e2;cases e2;have hi:ds.length<=i:=List.getElem?_eq_none_iff.mp qd;refine .inl ⟨Lv i hi,?_⟩;have sf:=s2.part hD2 nD nZ r2
      have gA:bS α1 Z1 H1 (α2++[D0]) Z2 H2:=⟨fun n a e=>by rw[List.getElem?_append_left (List.getElem?_eq_some_iff.mp (g2.pre n a e)).1];exact g2.pre n a e,g2.sub,g2.new,fun a ha=>by
       rcases List.mem_append.mp ha with ha | ha
       ·exact g2.Ci a ha
       ·rw[List.mem_singleton.mp ha];exact .inr hD,g2.frm,g2.has⟩
      exact k _ H2 _ Z2 (g1.trans gA) sf (kr s2 D0)
     | some d=>
      rw[qd]at e2;dsimp only at e2;obtain⟨hgo,hyl⟩:=Lu i d qd;cases qt:ni n d with
      | none=>rw[qt]at e2;cases e2
      | some ts=>
       rw[qt]at e2;dsimp only at e2;obtain⟨es,rfl⟩:=zG qt
       by_cases hsm:small (acc.length + 1)=true
       ·rw[if_pos hsm]at e2
        have hsm:=bC hsm;refine .inr ⟨hgo,by rw[r2.length];omega,fun x H3 yl => ?_⟩
        obtain⟨Z3,g3,s3,rx⟩:=hyl x H3 yl;have P8:=g3.CA nZ hD2;have Lw:=g3.frm D0 _ hD2 nD;refine hgt d es x α2 Z3 A9 H3 (oB cap σ) _ qt s3 rx fun ws xX => ?_
        have gB:=g1.trans (g2.trans g3);have SB:=oY (cap:=cap) S gB s3 xX;refine⟨α2,Z3,A9,_,SB,?_⟩;cases qc:ib nc mc (es.map some++dc cap ρ) A9 with
        | exc x eX=>rw[qc]at e2;cases e2
        | bad=>rw[qc]at e2;cases e2
        | ok b eX=>
         rw[qc]at e2;intro H5 IQ Z5 g5 s5;have Lx:=g5.A8 nD Lw;have N1:=g5.CA P8 Lw;have Fm:=g5.frm D0 _ Lw nD;cases b with
         | false=>
          refine oh ?_;exact⟨f,Nat.lt_succ_self _,IQ,Z5,eX,acc,g2.trans (g3.trans g5),s5,Lx,N1,Fm,s3.kq g5 (s2.kq g3 r2),e2⟩
         | true=>
          refine oi ?_;dsimp only at e2;have SC:=oY (cap:=cap) S (gB.trans g5) s5 (s3.kq g5 xX);refine⟨IQ,Z5,eX,_,SC,?_⟩;cases qe:me (es.map some++dc cap ρ) eX with
          | exc x jF=>rw[qe]at e2;cases e2
          | bad=>rw[qe]at e2;cases e2
          | ok y jF=>
           rw[qe]at e2;intro v H6 P9 Z6 g6 s6 rv;have N2:=g6.A8 Lx Fm;have N3:=g6.CA N1 Fm;have N4:=g6.frm D0 _ Fm Lx;obtain⟨s7,m7⟩:=s6.side (o:=.lst (vs++[v])) N2 N3 (fun o u z=>by rw[N4]at z;cases z)
           refine⟨N4,f,Nat.lt_succ_self _,P9,Z6,jF,acc++[y],((g2.trans (g3.trans g5)).trans g6).side zH hD,s7,N2,N3,bo,?_,e2⟩;exact((s5.kq g6 (s3.kq g5 (s2.kq g3 r2))).append (.one rv)).imp m7
       ·rw[if_neg hsm]at e2;cases e2
theorem kH{x:Str}{px:Pos}(hit:wz X κ Φ (.Name x px) iter mi)(hx:scope.names.lookup x=some .local)(hnd:([x]++cn).Nodup)
  (hb:∀ cl C s₀ H₀ fp,((ifs=[]/\nc=true)\/∃ c,ifs=[c]/\nc=false/\gm (blk X scope cl C ([x]++cn) s₀ H₀ fp) κ iY c mc)/\bj (blk X scope cl C ([x]++cn) s₀ H₀ fp) κ iY elt me) :
  ∀ aE Z0 H0 ρ Ω,∃ wi tc te,PI X (.Name x px) iter wi/\(∀ cl C s₀ H₀ fp,PG (blk X scope cl C ([x]++cn) s₀ H₀ fp) (.Name x px) (gU 0)/\yQ (blk X scope cl C ([x]++cn) s₀ H₀ fp) ifs tc/\PE (blk X scope cl C ([x]++cn) s₀ H₀ fp) elt te) /\
   ∀ σ H Q,tO κ Φ aE Z0 H0 (bq me nc mc mi 0 cap) ρ Ω σ H Q->lP wi [x].length cap (gU 0) tc te σ H Q:=by
 have hl:(relabel scope X.env).names.lookup x=some .local:=lookup_relabel_local hx;refine uc (g:=gU 0) (tn:=[x]) hit (fun d ds y α Z Ω H σ' k ht S rx hk => ?_) fun cl C s₀ H₀ fp => ?_
 ·have ht:some [some d]=some (ds.map some):=ht
  have e:ds=[d]:=by
   injection ht with ht;cases ds with
   | nil=>cases ht
   | cons a r=>
    cases r with
    | nil=>simp only[List.map_cons,List.map_nil,List.cons.injEq,Option.some.injEq,and_true]at ht;rw[ht]
    | cons _ _=>cases ht
  subst e;exact hk [y] (.one rx)
 ·obtain⟨h1,h2⟩:=hb cl C s₀ H₀ fp
  exact⟨jx (X:=blk X scope cl C ([x]++cn) s₀ H₀ fp) hnd rfl (.inl hl) (.inr hl),h1,h2⟩
theorem wG{x:Str}{px:Pos}(hc:X.calm=true)(B:je X scope [x] cn cap)(hs:∀ z,foldedSetIterable iter X.env z=pure z)(hit:wz X κ Φ (.Name x px) iter mi)(hx:scope.names.lookup x=some .local)(hnd:([x]++cn).Nodup)
  (hb:∀ cl C s₀ H₀ fp,((ifs=[]/\nc=true)\/∃ c,ifs=[c]/\nc=false/\gm (blk X scope cl C ([x]++cn) s₀ H₀ fp) κ iY c mc)/\bj (blk X scope cl C ([x]++cn) s₀ H₀ fp) κ iY elt me) :
  bj X κ Φ (.ListComp elt [⟨.Name x px,iter,ifs,0⟩] scope pos) (bq me nc mc mi 0 cap):=by
 intro aE Z0 H0 ρ Ω;obtain⟨wi,tc,te,h1,h2,h3⟩:=kH (cap:=cap) hit hx hnd hb aE Z0 H0 ρ Ω;exact PE.imp (yT hc B h1 hs (jf 1 (by decide)) h2) h3
end
inductive gE where
 | nx (ρ:aP) (Ω:ay) | bk (ρ:aP) (Ω:ay) | ct (ρ:aP) (Ω:ay) | rt (d:D) (Ω:ay) | exc (x:D) (Ω:ay) | bad
abbrev SM:=aP->ay->gE
def fm(κ:Str->Addr->Prop)(Φ:fU)(aE:List Addr)(Z0:Addr->Prop)(H0:Hp)(E:Ends):gE->Prop
 | .nx ρ Ω=>∀ σ H α Z,b_ κ aE Z0 H0 α Z Ω ρ σ H->E.nx σ H
 | .bk ρ Ω=>∀ σ H α Z,b_ κ aE Z0 H0 α Z Ω ρ σ H->E.bk σ H
 | .ct ρ Ω=>∀ σ H α Z,b_ κ aE Z0 H0 α Z Ω ρ σ H->E.ct σ H
 | .rt d Ω=>∀ v H α Z,bS aE Z0 H0 α Z H->bt κ α Z Ω H->au α Z H d v->E.rt v H
 | .exc x Ω=>∀ H α Z,bS aE Z0 H0 α Z H->bt κ α Z Ω H->Φ x Ω α Z H
 | .bad=>False
noncomputable def CB(κ:Str->Addr->Prop)(Φ:fU)(aE:List Addr)(Z0:Addr->Prop)(H0:Hp)(c:SM)(ρ:aP)(Ω:ay):TS:=fun E σ H=>∃ α Z,b_ κ aE Z0 H0 α Z Ω ρ σ H/\fm κ Φ aE Z0 H0 E (c ρ Ω)
def k9(X:Cx)(κ:Str->Addr->Prop)(Φ:fU)(st:Stmt)(c:SM):Prop:=∀ aE Z0 H0 ρ Ω,PS X st (CB κ Φ aE Z0 H0 c ρ Ω)
def iZ(X:Cx)(κ:Str->Addr->Prop)(Φ:fU)(sts:List Stmt)(c:SM):Prop:=∀ aE Z0 H0 ρ Ω,ij X sts (CB κ Φ aE Z0 H0 c ρ Ω)
noncomputable def c6{β:Type}(r:av β)(k:β->ay->gE):gE:=match r with
 | .ok a Ω=>k a Ω
 | .exc x Ω=>.exc x Ω
 | .bad=>.bad
noncomputable def aj:SM:=fun ρ Ω=>.nx ρ Ω
noncomputable def ao(a b:SM):SM:=fun ρ Ω=>match a ρ Ω with
 | .nx bL ak=>b bL ak
 | r=>r
def ax(i:Nat)(m:EM):SM:=fun ρ Ω=>c6 (m ρ Ω) fun d ag=>.nx (ρ.set i (some d)) ag
def ft(m:EM):SM:=fun ρ Ω=>c6 (m ρ Ω) fun _ ag=>.nx ρ ag
def aW(m:EM):SM:=fun ρ Ω=>c6 (m ρ Ω) fun d ag=>.rt d ag
def dh(m:EM)(a b:SM):SM:=fun ρ Ω=>c6 (dB (m ρ Ω)) fun t ag=>if t=true then a ρ ag else b ρ ag
noncomputable def nj:SM:=fun _ _=>.bad
def c7(m:EM)(b:SM):Nat->SM
 | 0,_,_=>.bad
 | f + 1,ρ,Ω=>c6 (dB (m ρ Ω)) fun t ag=>if t=true then (match b ρ ag with
  | .nx bL ak=>c7 m b f bL ak
  | .ct bL ak=>c7 m b f bL ak
  | .bk bL ak=>.nx bL ak
  | r=>r) else .nx ρ ag
def kI(m:EM)(b:SM):SM:=c7 m b fuel
noncomputable def jG:List Nat->List D->aP->aP
 | i::is,d::ds,ρ=>jG is ds (ρ.set i (some d))
 | _,_,ρ=>ρ
noncomputable def bA(i:Nat)(d:D)(ρ:aP):Option aP:=some (ρ.set i (some d))
def ji(is:List Nat)(d:D)(ρ:aP):Option aP:=match d with
 | .tup ds=>if ds.length=is.length then some (jG is ds ρ) else none
 | _=>none
def eO(put:D->aP->Option aP)(src:Src)(b:SM):Nat->Nat->SM
 | 0,_,_,_=>.bad
 | f + 1,i,ρ,Ω=>match gT src Ω with
  | none=>.bad
  | some ds=>match ds[i]? with
   | none=>.nx ρ Ω
   | some d=>match put d ρ with
    | none=>.bad
    | some x_=>match b x_ Ω with
     | .nx bL ak=>eO put src b f (i + 1) bL ak
     | .ct bL ak=>eO put src b f (i + 1) bL ak
     | .bk bL ak=>.nx bL ak
     | r=>r
def cF(put:D->aP->Option aP)(mi:IM)(b:SM):SM:=fun ρ Ω=>c6 (mi ρ Ω) fun s ag=>eO put s b fuel 0 ρ ag
def ud(is:List Nat)(m:EM):SM:=fun ρ Ω=>c6 (m ρ Ω) fun d ag=>match ji is d ρ with
 | some bL=>.nx bL ag
 | none=>.bad
section
variable{X:Cx}{κ:Str->Addr->Prop}{Φ:fU}{α α' aE α1:List Addr}{Z Z' Z0 Z1:Addr->Prop}{Ω ak:ay}{H H' H0 H1:Hp}{ρ:aP}{σ:L2.St}{E:Ends}{a b e ce o tg:Expr}{st:Stmt}{rest ta tb:List Stmt}{m:EM}{mi:IM}{ca cb:SM}{pos pos':Pos}
theorem b_.set(S:b_ κ aE Z0 H0 α Z Ω ρ σ H){d:D}{v:V}(r:au α Z H d v)(i:Nat):b_ κ aE Z0 H0 α Z Ω (ρ.set i (some d)) (σ.set i (some v)) H:=by
 refine⟨S.st,S.gr,by simp[S.len],fun j d' h => ?_⟩
 by_cases hij:i=j
 ·subst hij
  have hl:i < ρ.length:=by
   have:=(List.getElem?_eq_some_iff.mp h).1;simpa using this
  rw[List.getElem?_set_self hl]at h;cases h;exact⟨v,by rw[List.getElem?_set_self (by rw[S.len];exact hl)],r⟩
 ·rw[List.getElem?_set_ne hij]at h ⊢
  exact S.val j d' h
theorem fm.use{r:av D}{k:D->ay->gE}{Q:VK}(S:b_ κ aE Z0 H0 α Z Ω ρ σ H)(f:fm κ Φ aE Z0 H0 E (c6 r k))(h:∀ d ag v H1 α1 Z1,r=.ok d ag->bS α Z H α1 Z1 H1->b_ κ aE Z0 H0 α1 Z1 ag ρ σ H1->au α1 Z1 H1 d v->fm κ Φ aE Z0 H0 E (k d ag)->Q v H1):bQ κ Φ α Z H r Q:=by
 cases r with
 | ok d ag=>exact fun v H1 α1 Z1 g s q=>h d ag v H1 α1 Z1 rfl g (S.grow g s) q f
 | exc x ag=>exact fun H1 α1 Z1 g s=>f H1 α1 Z1 (S.gr.trans g) s
 | bad=>exact f
theorem fm.FL{r:av Bool}{k:Bool->ay->gE}{Q:Bool->Hp->Prop}(S:b_ κ aE Z0 H0 α Z Ω ρ σ H)(f:fm κ Φ aE Z0 H0 E (c6 r k))(h:∀ t ag H1 α1 Z1,r=.ok t ag->bS α Z H α1 Z1 H1->b_ κ aE Z0 H0 α1 Z1 ag ρ σ H1->fm κ Φ aE Z0 H0 E (k t ag)->Q t H1):nT κ Φ α Z H r Q:=by
 cases r with
 | ok d ag=>exact fun H1 α1 Z1 g s=>h d ag H1 α1 Z1 rfl g (S.grow g s) f
 | exc x ag=>exact fun H1 α1 Z1 g s=>f H1 α1 Z1 (S.gr.trans g) s
 | bad=>exact f
theorem ij.ex{ι:Type}{t:ι->TS}{sts:List Stmt}(h:∀ i,ij X sts (t i)):ij X sts (fun D σ H=>∃ i,t i D σ H):=fun pins s σ H D I ⟨i,q⟩=>h i pins s σ H D I q
theorem sx:iZ X κ Φ [] aj:=by
 intro aE Z0 H0 ρ Ω;refine ij.imp ye ?_;rintro E σ H ⟨α,Z,S,f⟩;exact f σ H α Z S
theorem oZ(h1:k9 X κ Φ st ca)(h2:iZ X κ Φ rest cb):iZ X κ Φ (st::rest) (ao ca cb):=by
 intro aE Z0 H0 ρ Ω;refine ij.imp (uL (h1 aE Z0 H0 ρ Ω) (ij.ex fun p:aP×ay=>h2 aE Z0 H0 p.1 p.2)) ?_
 rintro E σ H ⟨α,Z,S,f⟩;refine⟨α,Z,S,?_⟩;simp only[ao]at f;cases q:ca ρ Ω with
 | nx bL ak=>rw[q]at f;exact fun σ' H' α' Z' S'=>⟨(bL,ak),α',Z',S',f⟩
 | bk bL ak=>rw[q]at f;exact f
 | ct bL ak=>rw[q]at f;exact f
 | rt d ak=>rw[q]at f;exact f
 | exc x ak=>rw[q]at f;exact f
 | bad=>rw[q]at f;exact f.elim
theorem sy(h:bj X κ Φ e m):k9 X κ Φ (.Return (some e) pos) (aW m):=by
 intro aE Z0 H0 ρ Ω;refine PS.imp (uM (h aE Z0 H0 ρ Ω)) ?_;rintro E σ H ⟨α,Z,S,f⟩;exact⟨α,Z,S,fm.use S f fun d ag v H1 α1 Z1 _ g S1 r f1=>f1 v H1 α1 Z1 S1.gr S1.st r⟩
theorem sD{i:Nat}{x:Str}(hN:X.N.Nodup)(hi:X.N[i]?=some x)(hx:Loc X.env.scope x)(hf:X.fn x=true\/X.env.scope.names.lookup x=some .local)(hs:swapsWith e (some (.Name x pos')) pos.line X.env=pure false)(h:bj X κ Φ e m) :
  k9 X κ Φ (.Assign [.Name x pos'] e pos) (ax i m):=by
 intro aE Z0 H0 ρ Ω;refine PS.imp (BE hN hi hx (h aE Z0 H0 ρ Ω) hs hf) ?_;rintro E σ H ⟨α,Z,S,f⟩;exact⟨α,Z,S,fm.use S f fun d ag v H1 α1 Z1 _ g S1 r f1=>f1 _ H1 α1 Z1 (S1.set r i)⟩
theorem wH{i:Nat}{x:Str}{elt iter tg:Expr}{ifs:List Expr}{scope:Scope}{tn cn:List Str}{cap:List Nat}{g:TG}(hN:X.N.Nodup)(hi:X.N[i]?=some x)(hx:X.env.scope.names.lookup x=some .local)
  (hsw:swapsWith (.ListComp elt [⟨tg,iter,ifs,0⟩] scope pos) (some (.Name x pos')) pos'.line X.env=pure true) (hc:X.calm=true) (B:je X scope tn cn cap) (hs:∀ x,foldedSetIterable iter X.env x=pure x)
  (B9:∀ v σ H Q,g v σ H Q->g v σ H fun σ' H'=>Q σ' H'/\σ'.length=σ.length/\∀ j,tn.length<=j->σ'[j]?=σ[j]?)
  (h:∀ aE Z0 H0 ρ Ω,∃ wi tc te,PI X tg iter wi/\(∀ cl C s₀ H₀ fp,PG (blk X scope cl C (tn++cn) s₀ H₀ fp) tg g/\yQ (blk X scope cl C (tn++cn) s₀ H₀ fp) ifs tc/\PE (blk X scope cl C (tn++cn) s₀ H₀ fp) elt te) /\
   ∀ σ H Q,tO κ Φ aE Z0 H0 m ρ Ω σ H Q->lP wi tn.length cap g tc te σ H Q) {spos:Pos} (hl:spos.line=pos'.line) :
  k9 X κ Φ (.Assign [.Name x pos'] (.ListComp elt [⟨tg,iter,ifs,0⟩] scope pos) spos) (ax i m):=by
 intro aE Z0 H0 ρ Ω;obtain⟨wi,tc,te,h1,h2,h3⟩:=h aE Z0 H0 ρ Ω;refine PS.imp (qo hN hi hx (by rw[hl];exact hsw) hc B h1 hs B9 h2) ?_
 rintro E σ H ⟨α,Z,S,f⟩;exact h3 σ H _ ⟨α,Z,S,fm.use S f fun d ag v H1 α1 Z1 _ g S1 r f1=>f1 _ H1 α1 Z1 (S1.set r i)⟩
theorem zI(hs:swapsWith e none pos.line X.env=pure false)(h:bj X κ Φ e m):k9 X κ Φ (.Expr e pos) (ft m):=by
 intro aE Z0 H0 ρ Ω;refine PS.imp (yg (h aE Z0 H0 ρ Ω) hs) ?_;rintro E σ H ⟨α,Z,S,f⟩;exact⟨α,Z,S,fm.use S f fun d ag v H1 α1 Z1 _ g S1 r f1=>f1 _ H1 α1 Z1 S1⟩
theorem wJ(hc:gm X κ Φ e m)(ha:iZ X κ Φ ta ca)(hb:iZ X κ Φ tb cb):k9 X κ Φ (.If e ta tb pos) (dh m ca cb):=by
 intro aE Z0 H0 ρ Ω;refine PS.imp (EA (hc aE Z0 H0 ρ Ω) (ij.ex fun ag=>ha aE Z0 H0 ρ ag) (ij.ex fun ag=>hb aE Z0 H0 ρ ag)) ?_
 rintro E σ H ⟨α,Z,S,f⟩;refine⟨α,Z,S,fm.FL S f fun t ag H1 α1 Z1 _ g S1 f1 => ?_⟩
 cases t with
 | true=>rw[if_pos rfl]at f1;exact oi ⟨ag,α1,Z1,S1,f1⟩
 | false=>rw[if_neg Bool.false_ne_true]at f1;exact oh ⟨ag,α1,Z1,S1,f1⟩
theorem ue:k9 X κ Φ st nj:=fun aE Z0 H0 ρ Ω pins s σ H E I ⟨α,Z,S,f⟩=>f.elim
theorem l6(hp:PassesOwn (model X.prog X.w) X.A X.env X.xe)(hc:gm X κ Φ e m)(hb:iZ X κ Φ tb cb):k9 X κ Φ (.While e tb [] pos) (kI m cb):=by
 intro aE Z0 H0 ρ Ω;refine PS.imp (uO hp (PT.ex fun p:aP×ay=>hc aE Z0 H0 p.1 p.2) (ij.ex fun p:aP×ay=>hb aE Z0 H0 p.1 p.2)) ?_
 rintro E σ H ⟨α,Z,S,f⟩;refine⟨fun f σ H=>∃ α Z ρ Ω,b_ κ aE Z0 H0 α Z Ω ρ σ H/\fm κ Φ aE Z0 H0 E (c7 m cb f ρ Ω),⟨fuel,α,Z,ρ,Ω,S,f⟩,?_⟩
 rintro f BA H1 ⟨α1,Z1,x_,ag,S1,f1⟩;cases f with
 | zero=>exact f1.elim
 | succ f=>
  simp only[c7]at f1;refine⟨(x_,ag),α1,Z1,S1,fm.FL S1 f1 fun t aw H2 α2 Z2 _ g S2 f2 => ?_⟩
  cases t with
  | false=>
   rw[if_neg Bool.false_ne_true]at f2;exact oh (f2 _ _ _ _ S2)
  | true=>
   rw[if_pos rfl]at f2;refine oi ⟨fun σ' H'=>∃ α Z ρ Ω,b_ κ aE Z0 H0 α Z Ω ρ σ' H'/\fm κ Φ aE Z0 H0 E (c7 m cb f ρ Ω),fun σ' H' q=>⟨f,Nat.lt_succ_self f,q⟩,(x_,aw),α2,Z2,S2,?_⟩
   cases q:cb x_ aw with
   | nx bL ak=>rw[q]at f2;exact fun σ' H' α' Z' S'=>⟨α',Z',bL,ak,S',f2⟩
   | ct bL ak=>rw[q]at f2;exact fun σ' H' α' Z' S'=>⟨α',Z',bL,ak,S',f2⟩
   | bk bL ak=>rw[q]at f2;exact f2
   | rt d ak=>rw[q]at f2;exact f2
   | exc x ak=>rw[q]at f2;exact f2
   | bad=>rw[q]at f2;exact f2.elim
def wK(κ:Str->Addr->Prop)(put:D->aP->Option aP)(g:TG):Prop:=
 ∀ (d:D) (x:V) aE Z0 H0 α Z Ω ρ bL σ H (k:L2.St->Hp->Prop),b_ κ aE Z0 H0 α Z Ω ρ σ H->au α Z H d x->put d ρ=some bL->(∀ σ',b_ κ aE Z0 H0 α Z Ω bL σ' H->k σ' H)->g x σ H k
theorem nk{put:D->aP->Option aP}{g:TG}(hp:PassesOwn (model X.prog X.w) X.A X.env X.xe)(hc:X.calm=true)(hi:wz X κ Φ tg e mi)(hg:PG X tg g)(P_:wK κ put g)(hb:iZ X κ Φ tb cb)(hs:∀ x,foldedSetIterable e X.env x=pure x):k9 X κ Φ (.For tg e tb [] pos) (cF put mi cb):=by
 intro aE Z0 H0 ρ Ω;have hb':ij X tb (fun D σ H=>∃ α1 Z1 H1 bL ak,CB κ Φ α1 Z1 H1 cb bL ak D σ H):=fun pins s σ H D I ⟨α1,Z1,H1,bL,ak,q⟩=>hb α1 Z1 H1 bL ak pins s σ H D I q
 refine PS.imp (BG hp hc (hi aE Z0 H0 ρ Ω) hg hb' hs) ?_;rintro E σ H ⟨α,Z,S,f⟩;refine⟨α,Z,S,?_⟩;simp only[cF]at f;cases qi:mi ρ Ω with
 | exc x ag=>rw[qi]at f;exact fun H1 α1 Z1 g s=>f H1 α1 Z1 (S.gr.trans g) s
 | bad=>rw[qi]at f;exact f.elim
 | ok src ag=>
  rw[qi]at f;have f:fm κ Φ aE Z0 H0 E (eO put src cb fuel 0 ρ ag):=f;intro J H1 α1 Z1 g1 s1 w1;have S1:=S.grow g1 s1;refine⟨fun i f σ H=>∃ α2 Z2 ρ Ω,b_ κ aE Z0 H0 α2 Z2 Ω ρ σ H/\bS α1 Z1 H1 α2 Z2 H/\fm κ Φ aE Z0 H0 E (eO put src cb f i ρ Ω),⟨fuel,α1,Z1,ρ,ag,S1,bS.refl s1.has,f⟩,?_⟩
  rintro i f HY H2 ⟨α2,Z2,N5,aw,S2,g2,f2⟩;cases f with
  | zero=>exact f2.elim
  | succ f=>
   simp only[eO]at f2;cases qs:gT src aw with
   | none=>rw[qs]at f2;exact f2.elim
   | some ds=>
    rw[qs]at f2;dsimp only at f2;obtain⟨Lu,Lv⟩:=w1 α2 Z2 aw H2 ds g2 S2.st qs;cases qd:ds[i]? with
    | none=>
     rw[qd]at f2;exact .inl ⟨Lv i (List.getElem?_eq_none_iff.mp qd),f2 HY H2 α2 Z2 S2⟩
    | some d=>
     rw[qd]at f2;dsimp only at f2;obtain⟨hgo,hyl⟩:=Lu i d qd;cases qp:put d N5 with
     | none=>rw[qp]at f2;exact f2.elim
     | some IS=>
      rw[qp]at f2;dsimp only at f2;refine .inr ⟨hgo,fun σ' H'=>∃ α3 Z3 ρ Ω,b_ κ aE Z0 H0 α3 Z3 Ω ρ σ' H'/\bS α1 Z1 H1 α3 Z3 H'/\fm κ Φ aE Z0 H0 E (eO put src cb f (i + 1) ρ Ω),fun σ' H' q=>⟨f,Nat.lt_succ_self f,q⟩,fun x H3 yl => ?_⟩
      obtain⟨Z3,g3,s3,rx⟩:=hyl x H3 yl;have S3:=S2.grow g3 s3;refine P_ d x aE Z0 H0 α2 Z3 aw N5 IS HY H3 _ S3 rx qp fun Qa S4 => ?_
      have base:bS aE Z0 H0 α1 Z1 H1:=S1.gr;have gL:bS α1 Z1 H1 α2 Z3 H3:=g2.trans g3;have S5:b_ κ α1 Z1 H1 α2 Z3 aw IS Qa H3:=⟨S4.st,gL,S4.len,S4.val⟩;have out:∀ {α3 Z4 aV bL σ' H'},b_ κ α1 Z1 H1 α3 Z4 aV bL σ' H'->b_ κ aE Z0 H0 α3 Z4 aV bL σ' H':=fun S'=>⟨S'.st,base.trans S'.gr,S'.len,S'.val⟩
      refine⟨α1,Z1,H1,IS,aw,α2,Z3,S5,?_⟩;cases q:cb IS aw with
      | nx bL ak=>rw[q]at f2;exact fun σ' H' α' Z' S'=>⟨α',Z',bL,ak,out S',S'.gr,f2⟩
      | ct bL ak=>rw[q]at f2;exact fun σ' H' α' Z' S'=>⟨α',Z',bL,ak,out S',S'.gr,f2⟩
      | bk bL ak=>rw[q]at f2;exact fun σ' H' α' Z' S'=>f2 σ' H' α' Z' (out S')
      | rt d ak=>rw[q]at f2;exact fun v H' α' Z' g s r=>f2 v H' α' Z' (base.trans g) s r
      | exc x ak=>rw[q]at f2;exact fun H' α' Z' g s=>f2 H' α' Z' (base.trans g) s
      | bad=>rw[q]at f2;exact f2.elim
theorem wL(i:Nat):wK κ (bA i) (gU i):=fun d x aE Z0 H0 α Z Ω ρ bL σ H k S r e h=>by
 cases e;exact h _ (S.set r i)
theorem kJ:∀ (is:List Nat) (ds:List D) (vs:List V) {ρ:aP} {σ:L2.St},aK (au α Z H) ds vs->ds.length=is.length->b_ κ aE Z0 H0 α Z Ω ρ σ H->∀ (k:L2.St->Hp->Prop),(∀ σ',b_ κ aE Z0 H0 α Z Ω (jG is ds ρ) σ' H->k σ' H)->iV is vs σ H k
 | [],[],vs,ρ,σ,r,_,S,k,h=>by rw[r.nil_inv];exact⟨rfl,h σ S⟩
 | i::is,d::ds,vs,ρ,σ,r,hl,S,k,h=>by
  obtain⟨v,ws,rfl,r1,r2⟩:=r.cons_inv;exact⟨v,ws,rfl,kJ is ds ws r2 (by simpa using hl) (S.set r1 i) k h⟩
 | [],_::_,_,_,_,_,hl,_,_,_=>by simp at hl
 | _::_,[],_,_,_,_,hl,_,_,_=>by simp at hl
theorem wM{K:PySem.W.Frag}(is:List Nat):wK κ (ji is) (yi K is.length (iV is)):=fun d x aE Z0 H0 α Z Ω ρ bL σ H k S r e h=>by
 cases d with
 | tup ds=>
  simp only[ji]at e;split at e
  ·rename_i hl
   cases e;obtain⟨a,vs,rfl,_,h1,h2⟩:=fL r;exact⟨a,vs,rfl,tL (.inl h1),by rw[h2.length];exact hl,kJ is ds vs h2 hl S k h⟩
  ·cases e
 | _=>cases e
theorem zJ{es:List Expr}{j:Nat}{p pos:Pos}{is:List Nat}(hg:PG X (.Tuple es j p) (yi X.K is.length (iV is)))(hp:v5 e=true)(h:bj X κ Φ e m):k9 X κ Φ (.Assign [.Tuple es j p] e pos) (ud is m):=by
 intro aE Z0 H0 ρ Ω;refine PS.imp (BD (h aE Z0 H0 ρ Ω) hg (by cases e<;>first | rfl | (cases hp)) (by cases e<;>first | rfl | (cases hp))) ?_
 rintro E σ H ⟨α,Z,S,f⟩;refine⟨α,Z,S,fm.use S f fun d ag v H1 α1 Z1 _ g S1 r f1 => ?_⟩
 split at f1
 ·rename_i bL hq
  exact wM (K:=X.K) is d v aE Z0 H0 α1 Z1 ag ρ bL σ H1 _ S1 r hq fun σ' S'=>f1 σ' H1 α1 Z1 S'
 ·exact f1.elim
end
abbrev bg:=List D->ay->av D
def cL(κ:Str->Addr->Prop)(F:bg):Sp:=fun vs H Q _=>∃ α Z Ω ds,bt κ α Z Ω H/\aK (au α Z H) ds vs/\bQ κ iY α Z H (F ds Ω) Q
noncomputable def zK{β:Type}(r:av β):av β:=match r with
 | .ok d Ω=>.ok d Ω
 | _=>.bad
def aL(F:bg):bg:=fun xs Ω=>zK (F xs Ω)
structure wN(X:Cx)(κ:Str->Addr->Prop)(k:Nat)(x:Str)(F:bg):Prop where
 ex:∃ (f:Addr) (fd:FuncData) (ps:List Str),X.mg x=some (.ref f)/\PySem.W.keepIn X.K (.ref f)=true/\Binds X.K fd ps []/\bU X.prog X.w X.K X.mg X.base dR k f fd ps (cL κ F)
noncomputable def Fo(C:Str)(F:bg)(xs:List D)(Ω:ay):av D:=match F (.ref Ω.length::xs) (Ω++[.ins C []]) with
 | .ok .non aw=>.ok (.ref Ω.length) aw
 | _=>.bad
section
variable{X:Cx}{κ:Str->Addr->Prop}{Φ:fU}{α α' aE α1:List Addr}{Z Z' Z0 Z1:Addr->Prop}{Ω ak:ay}{H H' H0 H1:Hp}{ρ:aP}{σ:L2.St}{Q:VK}{E:Ends}{a b e ce o tg:Expr}{es:List Expr}{st:Stmt}{rest ta tb:List Stmt}{m mo mv ma md mk:EM}{as:AM}{ca cb:SM}{pos pos' p apos:Pos}{F:bg}{C:Str}
theorem bQ.ok0{r:av D}(h:bQ κ Φ α Z H (zK r) Q):bQ κ iY α Z H r Q:=by
 cases r with
 | ok d Ω=>exact h
 | exc x Ω=>exact h.elim
 | bad=>exact h
theorem wO{k:Nat}{x:Str}(F0:wN X κ k x F)(hr:bP k X.A)(hg:Gl X x)(hdb:(x == ("__debug__":Str))=false)
  (he:starEach (e::es) X.env=(false,eval e X.env)::starEach es X.env) (hpl:(backTo pos (starEach es X.env)).any (·.1)=false) (ha:pN X κ Φ (e::es) as) :
  bj X κ Φ (.Call (.Name x p) (e::es) [] pos) (mN (aL F) as):=by
 obtain⟨f,fd,ps,hm,hk,hb,F1⟩:=F0.ex;intro aE Z0 H0 ρ Ω;refine PE.imp (jy F1 hr hg hm hk hb .nil rE (ha aE Z0 H0 ρ Ω) hdb he hpl) ?_;rintro σ H Q ⟨α,Z,S,g⟩;refine⟨α,Z,S,oP.use g fun xs ag _ vs H1 α1 Z1 g1 s1 r1 k1 => ?_⟩
 show cL κ F (vs++[]) H1 Q E0
 rw[List.append_nil];exact⟨α1,Z1,ag,xs,s1,r1,bQ.ok0 k1⟩
theorem uf{k:Nat}{x:Str}(F0:wN X κ k x F)(hr:bP k X.A)(hg:Gl X x)(hdb:(x == ("__debug__":Str))=false):bj X κ Φ (.Call (.Name x p) [] [] pos) (mN (aL F) ah):=by
 obtain⟨f,fd,ps,hm,hk,hb,F1⟩:=F0.ex;intro aE Z0 H0 ρ Ω;refine PE.imp (u0 F1 hr hg hm hk hb .nil rE hdb) ?_;rintro σ H Q ⟨α,Z,S,g⟩;exact⟨α,Z,Ω,[],S.st,.nil,bQ.ok0 g⟩
def wQ(K:PySem.W.Frag)(κ:Str->Addr->Prop)(Cs:List Str)(f:Str):Prop:=∀ C Ca,Cs.contains C=true->κ C Ca->D_ K Ca/\fB K Ca f
structure FO(X:Cx)(κ:Str->Addr->Prop)(k:Nat)(C m:Str)(F:bg):Prop where
 ex:∃ (Ca f:Addr) (fd:FuncData) (ps:List Str),(∀ a,κ C a->a=Ca)/\D_ X.K Ca/\Meth X.K Ca m f/\Binds X.K fd ps []/\bU X.prog X.w X.K X.mg X.base dR k f fd ps (cL κ F)
structure FP(X:Cx)(κ:Str->Addr->Prop)(k:Nat)(C:Str)(F:bg):Prop where
 ex:∃ (Ca f:Addr) (fd:FuncData) (ps:List Str),κ C Ca/\Mk X.K Ca f/\X.mg C=some (.ref Ca)/\Binds X.K fd ps []/\bU X.prog X.w X.K X.mg X.base dR k f fd ps (cL κ F)
noncomputable def aR(n:Nat)(ds:List D):aP:=ds.map some++List.replicate (n - ds.length) none
noncomputable def fV:gE->av D
 | .rt d Ω=>.ok d Ω
 | .nx _ Ω=>.ok .non Ω
 | .exc x Ω=>.exc x Ω
 | _=>.bad
def bB(n k:Nat)(c:SM):bg:=fun ds Ω=>if ds.length=k then fV (c (aR n ds) Ω) else .bad
theorem ek{ds:List D}{vs:List V}{N:List Str}(S:bt κ α Z Ω H)(r:aK (au α Z H) ds vs):b_ κ α Z H α Z Ω (aR N.length ds) (L2.start N vs) H where
 st:=S
 gr:=bS.refl S.has
 len:=by simp[aR,L2.start,r.length]
 val:=fun i d hi=>by
  unfold aR at hi
  by_cases h:i < ds.length
  ·rw[List.getElem?_append_left (by simpa using h),List.getElem?_map]at hi
   obtain⟨d',h1,h2⟩:=Option.map_eq_some_iff.mp hi;cases h2;obtain⟨v,h3,h4⟩:=r.get h1;refine⟨v,?_,h4⟩;unfold L2.start;rw[List.getElem?_append_left (by simpa[r.length] using h),List.getElem?_map,h3]
   rfl
  ·rw[List.getElem?_append_right (by simpa using h),List.getElem?_replicate]at hi
   split at hi<;>cases hi
end
structure o3(P:Program)(w:World)(K:PySem.W.Frag)(mg:Str->Option Value)(base:Heap)(κ:Str->Addr->Prop)(k:Nat)(j:Nat)(F:List D->bg):Prop where
 run:∀ (X:Cx) (f:Addr) (vs:List V) (σ:L2.St) (H:Hp) (Q:VK) (α:List Addr) (Z:Addr->Prop) (Ω:ay) (mW ds:List D) (n:Nat),X.prog=P->X.w=w->X.K=K->X.mg=mg->X.base=base->bP k X.A ->
  bt κ α Z Ω H->α[n]?=some f->Ω[n]?=some (.fn j mW)->aK (au α Z H) ds vs->bQ κ iY α Z H (F mW ds Ω) Q->E8 X f vs σ H Q
theorem o3.mono{P:Program}{w:World}{K:PySem.W.Frag}{mg:Str->Option Value}{base:Heap}{κ:Str->Addr->Prop}{k k' j:Nat}{F:List D->bg}(h:o3 P w K mg base κ k j F)(hk:k<=k'):o3 P w K mg base κ k' j F:=
 ⟨fun X f vs σ H Q α Z Ω mW ds n e1 e2 e3 e4 e5 hr=>h.run X f vs σ H Q α Z Ω mW ds n e1 e2 e3 e4 e5 (hr.mono hk)⟩
def Qb(M:List (List D->bg))(n:Nat)(xs:List D)(Ω:ay):av D:=match Ω[n]? with
 | some (.fn j mW)=>match M[j]? with
  | some F=>aL (F mW) xs Ω
  | none=>.bad
 | _=>.bad
noncomputable def isFn(Ω:ay)(n:Nat):Bool:=match Ω[n]? with
 | some (.fn _ _)=>true
 | _=>false
def CC(M:List (List D->bg))(i:Nat)(as:AM):EM:=fun ρ Ω=>match ρ[i]? with
 | some (some (.ref n))=>if isFn Ω n=true then (as ρ Ω).bind fun xs ag=>Qb M n xs ag else .bad
 | _=>.bad
section
variable{X:Cx}{κ:Str->Addr->Prop}{Φ:fU}{α α' aE:List Addr}{Z Z' Z0:Addr->Prop}{Ω ak:ay}{H H' H0:Hp}{ρ:aP}{σ:L2.St}
end
noncomputable def aa(i:Nat):EM:=fun ρ Ω=>match ρ[i]? with | some (some d)=>.ok d Ω | _=>.bad
noncomputable def ae(d:D):EM:=fun _ Ω=>.ok d Ω
noncomputable def o2{α β γ:Type}(x:Option α)(y:Option β)(k:α->β->γ):Option γ:=match x,y with
 | some a,some b=>some (k a b)
 | _,_=>none
theorem bx{α β γ:Type}{x:Option α}{y:Option β}{k:α->β->γ}{z:γ}(h:o2 x y k=some z):∃ a b,x=some a/\y=some b/\z=k a b:=by
 unfold o2 at h;split at h
 ·cases h;exact⟨_,_,rfl,rfl,rfl⟩
 ·cases h
theorem bX{α β:Type}{x:Option α}{k:α->β}{z:β}(h:x.map k=some z):∃ a,x=some a/\z=k a:=by
 cases x with
 | none=>cases h
 | some a=>cases h;exact⟨a,rfl,rfl⟩
structure aX where
 iF:List (Str×(List D->Out Rs)):=[]
 fn:List (Str×bg):=[]
 cst:List (Str×D):=[]
 met:List (Str×Str×bg):=[]
 cls:List (Str×bg):=[]
 fld:List (Str×List Str):=[]
 clo:List (List D->bg):=[]
 fz:List Str:=[]
 xt:Bool:=false
def nq(T:aX)(sc:Scope)(N:List Str)(x:Str):Option EM:=
 match lV sc N x with
 | some i=>some (aa i)
 | none=>if rV sc x && okN x then (T.cst.lookup x).map ae else none
def kK:Const->Option EM
 | .none=>some (ae .non)
 | .bool b=>some (ae (.bl b))
 | .int i=>some (ae (.int i))
 | .str x=>some (ae (.str x))
 | _=>none
def dj(f:Expr->Option EM):List Expr->Option AM
 | []=>some ah
 | e::es=>o2 (f e) (dj f es) U
def Qc(op:BoolOp)(a b:EM):EM:=match op with
 | .And=>eI a b
 | .Or=>wg a b
def iG(f:Expr->Option EM)(op:BoolOp):List Expr->Option EM
 | []=>none
 | [a]=>f a
 | a::b::r=>o2 (f a) (iG f op (b::r)) (Qc op)
def qL(f:Expr->Option EM):Option Expr->Option (Bool×EM)
 | none=>some (true,ae .non)
 | some e=>(f e).map fun m=>(false,m)
inductive BM where
 | append | reverse | o4 | index | join
noncomputable def BM.nm:BM->Str
 | .append=>"append" | .reverse=>"reverse" | .o4=>"pop" | .index=>"index" | .join=>"join"
noncomputable def BM.ar:BM->Nat
 | .append=>1 | .reverse=>0 | .o4=>1 | .index=>1 | .join=>1
def BM.ty:BM->ay->D->Bool
 | .join=>wt
 | _=>eY
def BM.f:BM->D->List D->ay->av D
 | .append=>bu | .reverse=>ej | .o4=>gC | .index=>bF | .join=>kG
def CD(m:Str)(n:Nat):Option BM:=[BM.append,.reverse,.o4,.index,.join].find? fun b=>b.nm == m && b.ar == n
def nr(T:aX)(m:Str)(n:Nat)(mo:EM)(as:AM):Option EM:=(CD m n).map fun b=>bE b.ty b.f mo as
noncomputable def kL:Expr->Bool
 | .Name .. | .Attribute .. | .Constant (.str _) .. | .Subscript ..=>true
 | _=>false
def qM(x:Str):Option ie:=[ie.len,ie.all,ie.any,ie.list,ie.tuple,ie.int,ie.min].find? (fun b=>b.nm == x)
theorem zL{x:Str}{b:ie}(h:qM x=some b):x=b.nm/\b∈[ie.len,ie.all,ie.any,ie.list,ie.tuple,ie.int,ie.min]/\b.nm∈cY:=by
 unfold qM at h;have h1:=List.find?_some h;have h2:=List.mem_of_find?_eq_some h;refine⟨(eq_of_beq h1).symm,h2,?_⟩;cases b<;>first | (simp at h2;done) | decide
def nu(T:aX)(sc:Scope)(f:Expr->Option EM)(x:Str)(args:List Expr):Option EM:=
 if rV sc x && okN x then
  match T.fn.lookup x,T.iF.lookup x,qM x with
  | some F,_,_=>(dj f args).map (mN (aL F))
  | none,some F,_=>if args.isEmpty then none else (dj f args).map (mN (aU F))
  | none,none,some b=>if args.isEmpty then none else (dj f args).map (mN (aZ b))
  | none,none,none=>if x == ("sorted":Str) then (if args.isEmpty then none else (dj f args).map (mN fk)) else none
 else none
def jH(T:aX)(sc:Scope)(N:List Str)(f:Expr->Option EM)(x:Str)(args:List Expr):Option EM:=match lV sc N x with
 | some _=>none
 | none=>nu T sc f x args
def wR(sc:Scope):List Expr->Option (Expr×Ty×Pos)
 | [a,.Name t p]=>match vW t with
  | some ty=>if rV sc t then some (a,ty,p) else none
  | none=>none
 | _=>none
theorem ug{sc:Scope}{args:List Expr}{a:Expr}{ty:Ty}{p:Pos}(h:wR sc args=some (a,ty,p)):args=[a,.Name ty.nm p]/\rV sc ty.nm=true/\ty.nm∈cY:=by
 unfold wR at h;split at h
 ·split at h
  ·rename_i Sj hty
   split at h
   ·rename_i hg
    cases h;obtain⟨rfl,m⟩:=Ft hty;exact⟨rfl,hg,m⟩
   ·cases h
  ·cases h
 ·cases h
def o_(sc:Scope)(f:Expr->Option EM)(x:Str)(args:List Expr):Option EM:=if x == ("isinstance":Str) && rV sc x then match wR sc args with
 | some (a,ty,_)=>(f a).map (m1 (dJ ty))
 | none=>none else none
def gF(f:Expr->Option EM)(sc:Scope)(iter:Expr):Option IM:=match iter with
 | .Call (.Name g _) args [] _=>if g == ("range":Str) then (if rV sc g then (match args with
   | [a]=>(dj f [a]).map bG
   | _=>none) else none) else (f iter).map bf
 | _=>(f iter).map bf
def wU(f:Expr->Option EM):List Expr->Option (Bool×EM)
 | []=>some (true,ae .non)
 | [c]=>(f c).map fun m=>(false,m)
 | _=>none
def cq(T:aX):Nat->Scope->List Str->Expr->Option EM
 | 0,_,_,_=>none
 | n + 1,sc,N,e=>match e with
  | .Name x _=>nq T sc N x
  | .Constant c _ _=>kK c
  | .BinOp a op b _=>o2 (cq T n sc N a) (cq T n sc N b) (m2 (aI op))
  | .UnaryOp .USub a _=>(cq T n sc N a).map (m1 FH)
  | .UnaryOp .Not a _=>(cq T n sc N a).map iD
  | .BoolOp op (a::b::r) _=>iG (cq T n sc N) op (a::b::r)
  | .Compare a [op] [b] _=>if isSet b then none else o2 (cq T n sc N a) (cq T n sc N b) (m2 (aD op))
  | .Compare a [op,op'] [b,c] _=>if isSet c then none else o2 (cq T n sc N a) (o2 (cq T n sc N b) (cq T n sc N c) Prod.mk) fun x y=>oR op op' x y.1 y.2
  | .IfExp t a b _=>o2 (cq T n sc N t) (o2 (cq T n sc N a) (cq T n sc N b) Prod.mk) fun x y=>A4 x y.1 y.2
  | .Subscript a (.Slice lo hi none _) _=>o2 (cq T n sc N a) (o2 (qL (cq T n sc N) lo) (qL (cq T n sc N) hi) Prod.mk) fun x y=>cf x y.1.1 y.1.2 y.2.1 y.2.2
  | .Subscript a b _=>if isSlice b then none else o2 (cq T n sc N a) (cq T n sc N b) (m2 aM)
  | .List es _=>(dj (cq T n sc N) es).map (mN cQ)
  | .Tuple es _ _=>(dj (cq T n sc N) es).map (mN ky)
  | .Call (.Name x _) args [] _=>match o_ sc (cq T n sc N) x args with
   | some m=>some m
   | none=>jH T sc N (cq T n sc N) x args
  | .Call (.Attribute o m p1) args [] p2=>if p1.endLine == p2.line && kL o && decide (args.length < 20) then (match cq T n sc N o,dj (cq T n sc N) args with
   | some mo,some as=>nr T m args.length mo as
   | _,_=>none) else none
  | .ListComp elt gens scope _=>match kj gens with
   | some (x,_,iter,ifs)=>if vX scope sc x && !isSet iter then (match qD sc N (cT scope),gF (cq T n sc N) sc iter,cq T n (qB scope sc) (x::cT scope) elt,wU (cq T n (qB scope sc) (x::cT scope)) ifs with
    | some cap,some mi,some me,some (nc,mc)=>some (bq me nc mc mi 0 cap)
    | _,_,_,_=>none) else none
   | none=>none
  | _=>none
structure GoodO(X:Cx)(κ:Str->Addr->Prop)(T:aX)(k:Nat)(sc:Scope)(N:List Str):Prop where
 scope:X.env.scope=sc
 names:X.N=N
 calm:X.calm=true
 room:bP k X.A
 cR:∀ x∈cY,X.mg x=none
 iF:∀ x F,T.iF.lookup x=some F->Fj X k x F
 fn:∀ x F,T.fn.lookup x=some F->wN X κ k x F
 cst:∀ x d,T.cst.lookup x=some d->∃ v u,X.mg x=some u/\RelV v u/\fb d=some v
 met:∀ m C F,(m,C,F)∈T.met->FO X κ k C m F
 cls:∀ C F,T.cls.lookup C=some F->∃ j,j + 1<=k/\FP X κ j C F
 fld:∀ f Cs,T.fld.lookup f=some Cs->wQ X.K κ Cs f
 clo:∀ j F,T.clo[j]?=some F->o3 X.prog X.w X.K X.mg X.base κ k j F
theorem GoodO.gl{X:Cx}{κ:Str->Addr->Prop}{T:aX}{k:Nat}{sc:Scope}{N:List Str}{x:Str}(G:GoodO X κ T k sc N)(h:rV sc x=true):Gl X x:=by
 unfold rV at h;have e:=eq_of_beq h
 show X.env.scope.names.lookup x=some .globalImplicit
 rw[G.scope];exact e
theorem GoodO.hu{X:Cx}{κ:Str->Addr->Prop}{T:aX}{k:Nat}{sc:Scope}{N:List Str}(G:GoodO X κ T k sc N):X.A.units + 64 < cLine:=G.room.units
theorem GoodO.blk{X:Cx}{κ:Str->Addr->Prop}{T:aX}{k:Nat}{sc:Scope}{N:List Str}(G:GoodO X κ T k sc N)(scope:Scope)(cl:List (Str×Addr))(C:Addr)(N':List Str)(s₀:Shared)(H₀:Hp)(fp:List Addr):GoodO (blk X scope cl C N' s₀ H₀ fp) κ T k (qB scope sc) N' where
 scope:=by rw[← G.scope];rfl
 names:=rfl
 calm:=G.calm
 room:=G.room
 cR:=G.cR
 iF:=fun x F h=>⟨(G.iF x F h).ex⟩
 fn:=fun x F h=>⟨(G.fn x F h).ex⟩
 cst:=G.cst
 met:=fun m C F h=>⟨(G.met m C F h).ex⟩
 cls:=fun C F h=>let ⟨j,h1,h2⟩:=G.cls C F h;⟨j,h1,⟨h2.ex⟩⟩
 fld:=G.fld
 clo:=G.clo
def k_(X:Cx)(κ:Str->Addr->Prop)(e:Expr)(m:EM):Prop:=(∀ Φ,bj X κ Φ e m)/\(∀ Φ,gm X κ Φ e m)/\isStar e=false
section
variable{X:Cx}{κ:Str->Addr->Prop}{T:aX}{k:Nat}{sc:Scope}{N:List Str}{f:Expr->Option EM}
theorem bT{e:Expr}{m:EM}(h:∀ Φ,bj X κ Φ e m)(hs:isStar e=false)(he:∀ whole,isTrue e X.env whole=(do let v ← whole;standAt e.pos;holding [v] (truthy v))):k_ X κ e m:=⟨h,fun Φ=>zm (h Φ) he,hs⟩
theorem cG(hf:∀ e m,f e=some m->k_ X κ e m):∀ {es:List Expr} {as:AM},dj f es=some as->(∀ Φ,pN X κ Φ es as)/\(∀ e∈es,isStar e=false)
 | [],as,h=>by cases h;exact⟨fun Φ=>mY,fun e he=>absurd he (by simp)⟩
 | e::es,as,h=>by
  obtain⟨m,as',h1,h2,rfl⟩:=bx h;obtain⟨p1,_,p3⟩:=hf e m h1;obtain⟨q1,q2⟩:=cG hf h2;refine⟨fun Φ=>ku (p1 Φ) (q1 Φ) (bV p3),fun z hz => ?_⟩
  rcases List.mem_cons.mp hz with rfl | hz
  ·exact p3
  ·exact q2 z hz
theorem wV(G:GoodO X κ T k sc N){x:Str}{pos:Pos}{m:EM}(h:nq T sc N x=some m):k_ X κ (.Name x pos) m:=by
 unfold nq at h;split at h
 ·rename_i i q
  cases h;obtain⟨h1,h2,h3,h4⟩:=rW q;exact bT (fun Φ=>zc (by rw[G.names];exact h1) (by rw[G.scope];exact h2) h3 h4) rfl (fun _=>rfl)
 ·split at h
  ·rename_i hc
   simp only[Bool.and_eq_true]at hc;obtain⟨d,h3,rfl⟩:=bX h;obtain⟨v,u,e2,e3,e4⟩:=G.cst x d h3;obtain⟨n1,n2,n3⟩:=rX hc.2;exact bT (fun Φ=>iA (yc (G.gl hc.1) e2 e3 n1) e4) rfl (fun _=>rfl)
  ·cases h
theorem uh{q:Const}{j:Nat}{pos:Pos}{m:EM}(h:kK q=some m):k_ X κ (.Constant q j pos) m:=by
 cases q<;>simp only[kK]at h<;>cases h
 ·exact bT (fun Φ=>iA Bx rfl) rfl (fun _=>rfl)
 ·exact bT (fun Φ=>iA Ew rfl) rfl (fun _=>rfl)
 ·exact bT (fun Φ=>iA Bw rfl) rfl (fun _=>rfl)
 ·exact bT (fun Φ=>iA uJ rfl) rfl (fun _=>rfl)
theorem pd{op:BoolOp}{pos:Pos}(hf:∀ e m,f e=some m->k_ X κ e m):∀ {es:List Expr} {m:EM},iG f op es=some m->(∀ Φ,bj X κ Φ (.BoolOp op es pos) m)/\(∀ Φ,A5 X κ Φ (.BoolOp op es pos) m)
 | [],m,h=>by cases h
 | [a],m,h=>by
  obtain⟨p1,p2,p3⟩:=hf a m h;exact⟨fun Φ=>tZ (p1 Φ),fun Φ=>zr (p2 Φ)⟩
 | a::b::r,m,h=>by
  simp only[iG]at h;obtain⟨ma,mb,h1,h2,rfl⟩:=bx h;obtain⟨p1,p2,p3⟩:=hf a ma h1;obtain⟨q1,q2⟩:=pd hf h2;cases op with
  | And=>exact⟨fun Φ=>zo (p1 Φ) (q1 Φ),fun Φ=>zt (p2 Φ) (q2 Φ)⟩
  | Or=>exact⟨fun Φ=>Cp (p1 Φ) (q1 Φ),fun Φ=>Cq (p2 Φ) (q2 Φ)⟩
theorem pe(hf:∀ e m,f e=some m->k_ X κ e m){o:Option Expr}{n:Bool}{m:EM}{Φ:fU}(h:qL f o=some (n,m)):IP X κ Φ o n m:=by
 cases o with
 | none=>cases h;exact .inl ⟨rfl,rfl⟩
 | some e=>
  obtain⟨a,h1,h2⟩:=bX h;cases h2;exact .inr ⟨e,rfl,rfl,(hf e m h1).1 Φ⟩
theorem zM{m:Str}{n:Nat}{b:BM}(h:CD m n=some b):m=b.nm/\n=b.ar:=by
 have:=List.find?_some h;simp only[Bool.and_eq_true,beq_iff_eq]at this;exact⟨this.1.symm,this.2.symm⟩
theorem iH{o:Expr}{n:Str}{env:Env}(h:kL o=true):attributeBase o n env (eval o env)=eval o env:=by
 cases o<;>first | rfl | (cases h)
theorem FQ(hu:X.A.units + 64 < cLine)(b:BM){o:Expr}{es:List Expr}{mo:EM}{as:AM}{p1 p2:Pos}{Φ:fU}(hb:kL o=true)(hl:(p1.endLine == p2.line)=true)(hn:es.length=b.ar)(ho:bj X κ Φ o mo)(ha:dj f es=some as)(hf:∀ e m,f e=some m->k_ X κ e m) :
  bj X κ Φ (.Call (.Attribute o b.nm p1) es [] p2) (bE b.ty b.f mo as):=by
 obtain⟨a1,a2⟩:=cG hf ha;have a1:=a1 Φ;cases b with
 | append=>
  match es,hn with
  | [e],_=>exact ng PySem.F.plainAttrs_list PySem.F.slot_list_append PySem.F.type_list_append lN (fun x v α Z Ω H S r h=>m_ S r h) (fun x v xs vs α Z Ω H Q S r rs g=>ua S r rs g) (iH hb) hl ho a1 a2 (by simp)
 | reverse=>
  match es,hn with
  | [],_=>cases ha;exact zB PySem.F.plainAttrs_list PySem.F.slot_list_reverse PySem.F.type_list_reverse pZ (fun x v α Z Ω H S r h=>m_ S r h) (fun x v xs vs α Z Ω H Q S r rs g=>qJ S r rs g) (iH hb) hl ho
 | o4=>
  match es,hn with
  | [e],_=>exact ng PySem.F.plainAttrs_list PySem.F.slot_list_pop PySem.F.type_list_pop u9 (fun x v α Z Ω H S r h=>m_ S r h) (fun x v xs vs α Z Ω H Q S r rs g=>wx S r rs g) (iH hb) hl ho a1 a2 (by simp)
 | index=>
  match es,hn with
  | [e],_=>exact ng PySem.F.plainAttrs_list PySem.F.slot_list_index PySem.F.type_list_index (vP hu) (fun x v α Z Ω H S r h=>m_ S r h) (fun x v xs vs α Z Ω H Q S r rs g=>wy S r rs g) (iH hb) hl ho a1 a2 (by simp)
 | join=>
  match es,hn with
  | [e],_=>exact ng PySem.F.plainAttrs_str PySem.F.slot_str_join PySem.F.type_str_join yU (fun x v α Z Ω H S r h=>zA S r h) (fun x v xs vs α Z Ω H Q S r rs g=>zC S r rs g) (iH hb) hl ho a1 a2 (by simp)
theorem wW(G:GoodO X κ T k sc N){o:Expr}{m:Str}{es:List Expr}{mo:EM}{as:AM}{p1 p2:Pos}{Φ:fU}{x:EM}(hb:kL o=true)(hl:(p1.endLine == p2.line)=true)(hlen:es.length < 20)(ho:bj X κ Φ o mo)(ha:dj f es=some as)(hf:∀ e m,f e=some m->k_ X κ e m)
  (h:nr T m es.length mo as=some x):bj X κ Φ (.Call (.Attribute o m p1) es [] p2) x:=by
 have one:∀ b,CD m es.length=some b->bj X κ Φ (.Call (.Attribute o m p1) es [] p2) (bE b.ty b.f mo as):=fun b hbm=>by
  obtain⟨rfl,hn⟩:=zM hbm;exact FQ G.hu b hb hl hn ho ha hf
 obtain⟨b,h1,rfl⟩:=bX h;exact one b h1
theorem wX(G:GoodO X κ T k sc N)(hf:∀ e m,f e=some m->k_ X κ e m){x:Str}{args:List Expr}{m:EM}{p pos:Pos}(h:nu T sc f x args=some m):k_ X κ (.Call (.Name x p) args [] pos) m:=by
 refine bT (fun Φ => ?_) rfl (fun _=>rfl)
 unfold nu at h;split at h
 ·rename_i hc
  simp only[Bool.and_eq_true]at hc;obtain⟨n1,n2,n3⟩:=rX hc.2;have hg:=G.gl hc.1;split at h
  ·rename_i F hF
   obtain⟨as,ha,rfl⟩:=bX h;obtain⟨q1,q2⟩:=cG hf ha;cases args with
   | nil=>cases ha;exact uf (G.fn x F hF) G.room hg n1
   | cons a args=>exact wO (G.fn x F hF) G.room hg n1 (bV (q2 a (by simp))) (cO fun z hz=>q2 z (by simp[hz])) (q1 Φ)
  ·rename_i F _ hF
   split at h
   ·cases h
   ·rename_i hne
    obtain⟨as,ha,rfl⟩:=bX h;obtain⟨q1,q2⟩:=cG hf ha;cases args with
    | nil=>exact absurd rfl hne
    | cons a args=>exact t8 (G.iF x F hF) G.room hg n1 (bV (q2 a (by simp))) (cO fun z hz=>q2 z (by simp[hz])) (q1 Φ)
  ·rename_i b _ _ hb
   split at h
   ·cases h
   ·rename_i hne
    obtain⟨as,ha,rfl⟩:=bX h;obtain⟨q1,q2⟩:=cG hf ha;obtain⟨rfl,b1,b2⟩:=zL hb;cases args with
    | nil=>exact absurd rfl hne
    | cons a args=>exact zy G.calm b1 hg (G.cR _ b2) (bV (q2 a (by simp))) (cO fun z hz=>q2 z (by simp[hz])) (q1 Φ)
  ·split at h
   ·rename_i hx
    obtain rfl:=eq_of_beq hx;split at h
    ·cases h
    ·rename_i hne
     obtain⟨as,ha,rfl⟩:=bX h;obtain⟨q1,q2⟩:=cG hf ha;cases args with
     | nil=>exact absurd rfl hne
     | cons a args=>exact wq hg (G.cR _ (by decide)) (bV (q2 a (by simp))) (cO fun z hz=>q2 z (by simp[hz])) (q1 Φ)
   ·cases h
 ·cases h
theorem wY(G:GoodO X κ T k sc N)(hf:∀ e m,f e=some m->k_ X κ e m){x:Str}{args:List Expr}{m:EM}{p pos:Pos}(h:jH T sc N f x args=some m):k_ X κ (.Call (.Name x p) args [] pos) m:=by
 unfold jH at h;cases hs:lV sc N x with
 | none=>rw[hs]at h;exact wX G hf h
 | some i=>
  rw[hs]at h;cases h
theorem zN(G:GoodO X κ T k sc N)(hf:∀ e m,f e=some m->k_ X κ e m){x:Str}{args:List Expr}{m:EM}{p pos:Pos}(h:o_ sc f x args=some m):k_ X κ (.Call (.Name x p) args [] pos) m:=by
 unfold o_ at h;split at h
 ·rename_i hx
  simp only[Bool.and_eq_true,beq_iff_eq]at hx;obtain⟨rfl,hg⟩:=hx;split at h
  ·rename_i a ty pt hi
   obtain⟨rfl,h1,h2⟩:=ug hi;obtain⟨ma,h3,rfl⟩:=bX h;obtain⟨q1,_,q3⟩:=hf a ma h3;exact bT (fun Φ=>zz (G.gl hg) (G.cR _ (by decide)) (G.gl h1) (G.cR _ h2) (bV q3) (cO (es:=[Expr.Name ty.nm pt]) fun z hz=>by simp at hz;subst hz;rfl) (q1 Φ)) rfl (fun _=>rfl)
  ·cases h
 ·cases h
theorem kM(G:GoodO X κ T k sc N)(hf:∀ e m,f e=some m->k_ X κ e m){iter:Expr}{mi:IM}(h:gF f sc iter=some mi):∀ Φ tg,wz X κ Φ tg iter mi:=by
 intro Φ tg
 have dflt:∀ {mi},(f iter).map bf=some mi->wz X κ Φ tg iter mi:=fun {mi} h=>by
  obtain⟨m,h1,rfl⟩:=bX h;exact zF ((hf iter m h1).1 Φ)
 unfold gF at h;split at h
 ·rename_i g p args pos
  split at h
  ·rename_i hr
   obtain rfl:=eq_of_beq hr;split at h
   ·rename_i hg
    split at h
    ·rename_i a
     obtain⟨as,h1,rfl⟩:=bX h;obtain⟨q1,q2⟩:=cG hf h1;exact wF (G.gl hg) (G.cR _ (by decide)) (q1 Φ) (by rw[bV (q2 a (by simp))];rfl)
    ·cases h
   ·cases h
  ·exact dflt h
 ·exact dflt h
end
section
variable{κ:Str->Addr->Prop}{T:aX}{k:Nat}
theorem zO{X:Cx}{sc:Scope}{N:List Str}(G:GoodO X κ T k sc N){scope:Scope}{x:Str}{cap:List Nat}(hb:vX scope sc x=true)(hc:qD sc N (cT scope)=some cap) :
  je X scope [x] (cT scope) cap/\scope.names.lookup x=some .local/\([x]++cT scope).Nodup:=by
 simp only[vX,Bool.and_eq_true,decide_eq_true_eq,List.all_eq_true,Bool.not_eq_true',beq_iff_eq,Bool.or_eq_true]at hb;obtain⟨⟨⟨⟨⟨h1,h2⟩,h3⟩,h4⟩,h5⟩,h6⟩:=hb;obtain⟨c1,c2⟩:=vZ hc
 have fr:∀ y∈scope.names,y.2=.free->(sc.names.lookup y.1=some .cell\/sc.names.lookup y.1=some .free)/\scope.names.lookup y.1=some .free:=fun y hy hk=>by
  rcases h4 y hy with q | q
  ·rw[hk]at q;exact absurd q (by decide)
  ·exact q
 refine⟨⟨h1,fun y hy hk => ?_,fun y hy hk => ?_,fun y hy hk => ?_,c1,fun j i z e1 e2 => ?_⟩,h5,h6⟩
 ·have:=h2 y hy
  rw[hk]at this;exact absurd this (by decide)
 ·rcases h3 y hy with q | q
  ·rw[hk]at q;exact absurd q (by decide)
  ·exact q
 ·have:=(fr y hy hk).1
  show X.env.scope.names.lookup y.1=_\/X.env.scope.names.lookup y.1=_
  rw[G.scope];exact this
 ·refine⟨by rw[G.names];exact c2 j i z e1 e2,?_⟩
  have hm:z∈cT scope:=List.mem_of_getElem? e1;unfold cT at hm;obtain⟨y,hy,rfl⟩:=List.mem_map.mp hm;obtain⟨hy1,hy2⟩:=List.mem_filter.mp hy;exact(fr y hy1 (by simpa using hy2)).2
theorem kN{T:aX}{sc:Scope}{N:List Str}{n:Nat}{elt:Expr}{gens:List Comprehension}{scope:Scope}{pos:Pos}{m:EM}{P:Prop}(hg:kj gens=none)(h:cq T (n + 1) sc N (.ListComp elt gens scope pos)=some m):P:=by
 replace h:(match kj gens with
   | some (x,_,iter,ifs)=>if (vX scope sc x && !isSet iter)=true then (match qD sc N (cT scope),gF (cq T n sc N) sc iter,cq T n (qB scope sc) (x::cT scope) elt,wU (cq T n (qB scope sc) (x::cT scope)) ifs with
    | some cap,some mi,some me,some (nc,mc)=>some (bq me nc mc mi 0 cap)
    | _,_,_,_=>none) else none
   | none=>none)=some m:=h
 rw[hg]at h;cases h
theorem jj{n:Nat}(hf:∀ (X:Cx) (sc:Scope) (N:List Str) (e:Expr) (m:EM),GoodO X κ T k sc N->cq T n sc N e=some m->k_ X κ e m){X:Cx}{sc:Scope}{N:List Str}(G:GoodO X κ T k sc N){scope:Scope}{x:Str}{iter elt:Expr}{ifs:List Expr}{px pos:Pos}{m:EM}
  (h:cq T (n + 1) sc N (.ListComp elt [⟨.Name x px,iter,ifs,0⟩] scope pos)=some m):∃ me nc mc mi cap,m=bq me nc mc mi 0 cap/\je X scope [x] (cT scope) cap/\scope.names.lookup x=some .local/\([x]++cT scope).Nodup /\
   (∀ z,foldedSetIterable iter X.env z=pure z)/\(∀ Φ,wz X κ Φ (.Name x px) iter mi) /\
   ∀ cl C s₀ H₀ fp,((ifs=[]/\nc=true)\/∃ c,ifs=[c]/\nc=false/\gm (blk X scope cl C ([x]++cT scope) s₀ H₀ fp) κ iY c mc)/\bj (blk X scope cl C ([x]++cT scope) s₀ H₀ fp) κ iY elt me:=by
 replace h:(if (vX scope sc x && !isSet iter)=true then (match qD sc N (cT scope),gF (cq T n sc N) sc iter,cq T n (qB scope sc) (x::cT scope) elt,wU (cq T n (qB scope sc) (x::cT scope)) ifs with
    | some cap,some mi,some me,some (nc,mc)=>some (bq me nc mc mi 0 cap)
    | _,_,_,_=>none) else none)=some m:=h
 split at h
 ·rename_i hc
  simp only[Bool.and_eq_true,Bool.not_eq_true']at hc;split at h
  ·rename_i cap mi me nc mc h1 h2 h3 h4
   cases h;obtain⟨b1,b2,b3⟩:=zO G hc.1 h1;refine⟨me,nc,mc,mi,cap,rfl,b1,b2,b3,iy hc.2,fun Φ=>kM G (hf X sc N · · G) h2 Φ _,fun cl C s₀ H₀ fp => ?_⟩
   have G':=G.blk scope cl C ([x]++cT scope) s₀ H₀ fp;refine⟨?_,(hf _ _ _ elt me G' h3).1 iY⟩
   match ifs,h4 with
   | [],h4=>cases h4;exact .inl ⟨rfl,rfl⟩
   | [c'],h4=>
    obtain⟨a,q1,q2⟩:=bX h4;cases q2;exact .inr ⟨c',rfl,rfl,(hf _ _ _ c' mc G' q1).2.1 iY⟩
  ·cases h
 ·cases h
theorem gG:∀ (n:Nat) (X:Cx) (sc:Scope) (N:List Str) (e:Expr) (m:EM),GoodO X κ T k sc N->cq T n sc N e=some m->k_ X κ e m:=by
 intro n
 induction n with
 | zero=>intro X sc N e m G h;cases h
 | succ n ih=>
  intro X sc N e m G h;have hf:∀ e m,cq T n sc N e=some m->k_ X κ e m:=fun e m q=>ih X sc N e m G q
  cases e with
  | Name x pos=>exact wV G h
  | Constant c j pos=>exact uh h
  | BinOp a op b pos=>
   obtain⟨ma,mb,h1,h2,rfl⟩:=bx h;exact bT (fun Φ=>zf ((hf a ma h1).1 Φ) ((hf b mb h2).1 Φ)) rfl (fun _=>rfl)
  | UnaryOp op a pos=>
   cases op with
   | USub=>
    obtain⟨ma,h1,rfl⟩:=bX h;exact bT (fun Φ=>zg ((hf a ma h1).1 Φ)) rfl (fun _=>rfl)
   | Not=>
    obtain⟨ma,h1,rfl⟩:=bX h;exact⟨fun Φ=>zp ((hf a ma h1).1 Φ),fun Φ=>zq ((hf a ma h1).2.1 Φ),rfl⟩
   | _=>cases h
  | BoolOp op vs pos=>
   match vs,h with
   | a::b::r,h=>
    obtain⟨q1,q2⟩:=pd (pos:=pos) hf (show iG (cq T n sc N) op (a::b::r)=some m from h)
    exact⟨q1,fun Φ=>(q2 Φ).pt,rfl⟩
   | [_],h=>cases h
   | [],h=>cases h
  | Compare a ops cs pos=>
   match ops,cs,h with
   | [op],[b],h=>
    replace h:(if isSet b=true then none else o2 (cq T n sc N a) (cq T n sc N b) (m2 (aD op)))=some m:=h
    split at h
    ·cases h
    ·rename_i hs
     obtain⟨ma,mb,h1,h2,rfl⟩:=bx h;have hm:=oG (op:=op) (b:=b) (by simpa using hs)
     exact⟨fun Φ=>(sm G.hu hm ((hf a ma h1).1 Φ) ((hf b mb h2).1 Φ)).1,fun Φ=>(sm G.hu hm ((hf a ma h1).1 Φ) ((hf b mb h2).1 Φ)).2,rfl⟩
   | [op,op'],[b,c'],h=>
    replace h:(if isSet c'=true then none else o2 (cq T n sc N a) (o2 (cq T n sc N b) (cq T n sc N c') Prod.mk) fun x y=>oR op op' x y.1 y.2)=some m:=h
    split at h
    ·cases h
    ·rename_i hs
     obtain⟨ma,Sl,h1,FR,rfl⟩:=bx h;obtain⟨mb,mc,h2,h3,rfl⟩:=bx FR;have hm:lastMarks [op,op'] [b,c']=false:=oG (op:=op') (b:=c') (by simpa using hs)
     exact⟨fun Φ=>zw G.hu hm ((hf _ _ h1).1 Φ) ((hf _ _ h2).1 Φ) ((hf _ _ h3).1 Φ),fun Φ=>zx G.hu hm ((hf _ _ h1).1 Φ) ((hf _ _ h2).1 Φ) ((hf _ _ h3).1 Φ),rfl⟩
   | [],_,h=>cases h
   | [_],[],h=>cases h
   | [_],_::_::_,h=>cases h
   | [_,_],[],h=>cases h
   | [_,_],[_],h=>cases h
   | [_,_],_::_::_::_,h=>cases h
   | _::_::_::_,[],h=>cases h
   | _::_::_::_,[_],h=>cases h
   | _::_::_::_,_::_::_,h=>cases h
  | IfExp t a b pos=>
   obtain⟨mt,Sm,h1,FR,rfl⟩:=bx h;obtain⟨ma,mb,h2,h3,rfl⟩:=bx FR;exact⟨fun Φ=>zu ((hf _ _ h1).2.1 Φ) ((hf _ _ h2).1 Φ) ((hf _ _ h3).1 Φ),fun Φ=>zv ((hf _ _ h1).2.1 Φ) ((hf _ _ h2).2.1 Φ) ((hf _ _ h3).2.1 Φ),rfl⟩
  | Subscript a s pos=>
   have gen:∀ b,isSlice b=false->o2 (cq T n sc N a) (cq T n sc N b) (m2 aM)=some m->k_ X κ (.Subscript a b pos) m:=fun b hb h=>by
    obtain⟨ma,mb,h1,h2,rfl⟩:=bx h;refine bT (fun Φ=>zj (by have:=G.hu;omega) (fun o i => ?_) ((hf _ _ h1).1 Φ) ((hf _ _ h2).1 Φ)) rfl (fun _=>rfl)
    cases b<;>first | rfl | (cases hb)
   cases s with
   | Slice lo hi st p2=>
    cases st with
    | none=>
     obtain⟨ma,Sn,h1,FR,rfl⟩:=bx h;obtain⟨⟨nl,ml⟩,⟨nh,mh⟩,h2,h3,rfl⟩:=bx FR;exact bT (fun Φ=>zk ((hf _ _ h1).1 Φ) (pe hf h2) (pe hf h3)) rfl (fun _=>rfl)
    | some e=>
     cases lo with
     | none=>
      cases hi with
      | none=>
       exact nomatch (show(none:Option EM)=some m from h)
      | some _=>exact nomatch (show(none:Option EM)=some m from h)
     | some _=>exact nomatch (show(none:Option EM)=some m from h)
   | _=>exact gen _ rfl h
  | List es pos=>
   obtain⟨as,h1,rfl⟩:=bX h;exact bT (fun Φ=>zd ((cG hf h1).1 Φ)) rfl (fun _=>rfl)
  | Tuple es j pos=>
   obtain⟨as,h1,rfl⟩:=bX h;exact bT (fun Φ=>ze ((cG hf h1).1 Φ)) rfl (fun _=>rfl)
  | Call f args kws pos=>
   cases f with
   | Name x p=>
    cases kws with
    | nil=>
     replace h:(match o_ sc (cq T n sc N) x args with | some m=>some m | none=>jH T sc N (cq T n sc N) x args)=some m:=h
     cases hi:o_ sc (cq T n sc N) x args with
     | some m'=>
      rw[hi]at h;cases h;exact zN G hf hi
     | none=>
      rw[hi]at h;exact wY G hf h
    | cons _ _=>cases h
   | Attribute o mm p1=>
    cases kws with
    | nil=>
     replace h:(if (p1.endLine == pos.line && kL o && decide (args.length < 20))=true then (match cq T n sc N o,dj (cq T n sc N) args with
   | some mo,some as=>nr T mm args.length mo as
   | _,_=>none) else none)=some m:=h
     split at h
     ·rename_i hc
      simp only[Bool.and_eq_true,decide_eq_true_eq]at hc;split at h
      ·rename_i mo as h1 h2
       exact bT (fun Φ=>wW G hc.1.2 hc.1.1 hc.2 ((hf o mo h1).1 Φ) h2 hf h) rfl (fun _=>rfl)
      ·cases h
     ·cases h
    | cons _ _=>cases h
   | _=>cases h
  | ListComp elt gens scope pos=>
   cases hg:kj gens with
   | none=>exact kN hg h
   | some q=>
    obtain⟨x,px,iter,ifs⟩:=q;obtain rfl:=lW hg;obtain⟨me,nc,mc,mi,cap,rfl,b1,b2,b3,b4,b5,b6⟩:=jj (fun X sc N e m G q=>ih X sc N e m G q) G h
    exact bT (fun Φ=>wG G.calm b1 b4 (b5 Φ) b2 b3 b6) rfl (fun _=>rfl)
  | _=>cases h
end
structure dk(X:Cx)(κ:Str->Addr->Prop)(T:aX)(k:Nat)(sc:Scope)(N:List Str):Prop extends GoodO X κ T k sc N where
 own:PassesOwn (model X.prog X.w) X.A X.env X.xe
 Eg:∀ x,vV sc x=true->T.fz.contains x=false->(X.fn x=true\/X.env.scope.names.lookup x=some .local)
 nS:N.Nodup
 kind:sc.kind=.function
 i8:T.xt=false->∀ e s,¬ X.xe e s
def cz(f:Stmt->Option SM):List Stmt->Option SM
 | []=>some aj
 | s::r=>o2 (f s) (cz f r) ao
def nv(f:Expr->Option EM)(sc:Scope)(iter:Expr):Option IM:=match iter with
 | .Call (.Name g _) [a] [] _=>if g == ("enumerate":Str) then (if rV sc g then (f a).map ub else none) else gF f sc iter
 | _=>gF f sc iter
def iI(T:aX)(sc:Scope)(N:List Str)(x:Str):Option Nat:=if T.fz.contains x then none else oH sc N x
def kO(T:aX)(sc:Scope)(N:List Str)(nms:List (Str×Pos)):Option (List Nat):=if nms.any (fun y=>T.fz.contains y.1) then none else km sc N nms
def qN(T:aX)(td:List Str)(k:Nat)(sc:Scope)(N:List Str)(x:Str)(px:Pos)(e:Expr)(pos:Pos):Option SM:=match iI T sc N x with
   | some i=>(match cq T k sc N e with
    | some m=>if oI sc x px e then (if pos.line == px.line then some (ax i m) else none) else some (ax i m)
    | none=>none)
   | none=>none
def qO(T:aX)(k:Nat)(sc:Scope)(N:List Str)(es:List Expr)(e:Expr):Option SM:=match dY es with
   | some nms=>match kO T sc N nms,cq T k sc N e with
    | some is,some m=>if v5 e then some (ud is m) else none
    | _,_=>none
   | none=>none
def iJ(T:aX)(td:List Str)(k:Nat)(sc:Scope)(N:List Str):Nat->Stmt->Option SM
 | 0,_=>none
 | n + 1,st=>match st with
  | .Return (some e) _=>some (match cq T k sc N e with
   | some m=>aW m
   | none=>nj)
  | .Assign [.Name x px] e pos=>qN T td k sc N x px e pos
  | .Assign [.Tuple es _ _] e _=>qO T k sc N es e
  | .Expr e _=>if qE e then none else (cq T k sc N e).map ft
  | .If c a b _=>o2 (cq T k sc N c) (o2 (cz (iJ T td k sc N n) a) (cz (iJ T td k sc N n) b) Prod.mk) fun x y=>dh x y.1 y.2
  | .While c b [] _=>o2 (cq T k sc N c) (cz (iJ T td k sc N n) b) kI
  | .For (.Name x _) it b [] _=>if isSet it then none else o2 (iI T sc N x) (o2 (gF (cq T k sc N) sc it) (cz (iJ T td k sc N n) b) Prod.mk) fun i y=>cF (bA i) y.1 y.2
  | .For (.Tuple es _ _) it b [] _=>if isSet it then none else match dY es with
   | some nms=>o2 (kO T sc N nms) (o2 (nv (cq T k sc N) sc it) (cz (iJ T td k sc N n) b) Prod.mk) fun is y=>cF (ji is) y.1 y.2
   | none=>none
  | _=>none
section
variable{X:Cx}{κ:Str->Addr->Prop}{Φ:fU}{T:aX}{td:List Str}{k:Nat}{sc:Scope}{N:List Str}{α α' aE α1:List Addr}{Z Z' Z0 Z1:Addr->Prop}{Ω ak:ay}{H H' H0 H1:Hp}
theorem zP{es:List Expr}{x1:Nat}{tpos p pos:Pos}{a:Expr}{m:EM}(hg:Gl X "enumerate")(hm:X.mg "enumerate"=none)(hs:starEach [a] X.env=[(false,eval a X.env)])(ha:bj X κ Φ a m) :
  wz X κ Φ (.Tuple es x1 tpos) (.Call (.Name "enumerate" p) [a] [] pos) (ub m):=by
 intro aE Z0 H0 ρ Ω;refine PI.imp (vS hg hm (cV (ha aE Z0 H0 ρ Ω) iR hs) hs) ?_;rintro σ H R ⟨α,Z,S,g⟩;refine⟨α,Z,S,qK.use g fun x ag _ v H1 α1 Z1 g1 s1 r1 k1 => ?_⟩
 have fin:∀ {α2:List Addr} {Z2:Addr->Prop} {aw:ay} {H2:Hp} {i:Nat} {v:V} {d':D},bt κ α2 Z2 aw H2->au α2 Z2 H2 d' v->∀ p,H2 p=none->∃ Z3,bS α2 Z2 H2 α2 Z3 (upd H2 p (.tup [.int i,v]))/\bt κ α2 Z3 aw (upd H2 p (.tup [.int i,v]))/\au α2 Z3 (upd H2 p (.tup [.int i,v])) (.tup [.int (0 + i:Nat),d']) (.ref p):=fun {α2 Z2 aw H2 i v d'} s2 rv p hp=>by
  obtain⟨s3,g3⟩:=s2.wc (p:=p) (o:=.tup [.int i,v]) hp True;simp only[if_true]at s3 g3;refine⟨Zp Z2 p,g3,s3,?_⟩;simp only[au];refine⟨p,_,rfl,.inr rfl,bo,a_.mpr (.cons ?_ (.one (s2.du g3 rv)))⟩;simp only[au];simp
 cases hq:eH ag x with
 | none=>simp only[hq]at k1;exact k1.elim
 | some So=>
  simp only[hq]at k1
  by_cases ht:∃ es,x=.tup es
  ·obtain⟨es',rfl⟩:=ht
   have r1':=r1;simp only[au]at r1;obtain⟨a,A6,rfl,z1,q1,q2⟩:=r1;refine⟨a,rfl,.inr ⟨⟨A6,fS.of q1⟩,k1 _ H1 α1 Z1 (bS.refl s1.has) s1 ?_⟩⟩;intro α2 Z2 aw H2 ds g2 s2 hs2;have hs2:some (cX 0 es')=some ds:=hs2;cases hs2;have r2:=s1.du g2 r1';simp only[au]at r2;obtain⟨a',vs,e,z3,h3,h4⟩:=r2;cases e;have h4:=a_.mp h4;refine⟨fun i d hd => ?_,fun i hi=>by rw[iw]at hi;exact⟨vs,fS.of h3,by rw[h4.length];exact hi⟩⟩
   obtain⟨d',hd',rfl⟩:=jA es' 0 i d hd;obtain⟨v,hv,rv⟩:=h4.get hd';refine⟨⟨vs,v,fS.of h3,hv⟩,fun y H3 hy => ?_⟩
   obtain⟨p,rfl,hp,hy⟩:=hy;obtain⟨w,hw,rfl⟩:=hy vs (fS.of h3);rw[hv]at hw;cases hw
   exact fin s2 rv p hp
  ·have hseq:∀ Ω,eH Ω x=c5 Ω x:=fun Ω=>by
    cases x with
    | tup es=>exact absurd ⟨es,rfl⟩ ht
    | _=>rfl
   rw[hseq]at hq;have r1':=r1;obtain⟨a,A6,rfl,q1,q2⟩:=bp s1 r1 hq;refine⟨a,rfl,.inl ⟨⟨A6,jb q1⟩,k1 _ H1 α1 Z1 (bS.refl s1.has) s1 ?_⟩⟩;intro α2 Z2 aw H2 ds g2 s2 hs2;obtain⟨es2,h2,rfl⟩:=bX hs2;rw[hseq]at h2;have r2:=s1.du g2 r1';obtain⟨a',vs,e,h3,h4⟩:=bp s2 r2 h2;cases e;refine⟨fun i d hd => ?_,fun i hi=>by rw[iw]at hi;exact⟨vs,jb h3,by rw[h4.length];exact hi⟩⟩
   obtain⟨d',hd',rfl⟩:=jA es2 0 i d hd;obtain⟨v,hv,rv⟩:=h4.get hd';refine⟨⟨vs,v,jb h3,hv⟩,fun y H3 hy => ?_⟩
   obtain⟨p,rfl,hp,hy⟩:=hy;obtain⟨w,hw,rfl⟩:=hy vs (jb h3);rw[hv]at hw;cases hw
   exact fin s2 rv p hp
theorem zQ(G:GoodO X κ T k sc N){f:Expr->Option EM}(hf:∀ e m,f e=some m->k_ X κ e m){iter:Expr}{mi:IM}(h:nv f sc iter=some mi){es:List Expr}{j:Nat}{tp:Pos}:∀ Φ,wz X κ Φ (.Tuple es j tp) iter mi:=by
 intro Φ;unfold nv at h;split at h
 ·rename_i g p a pos
  split at h
  ·rename_i hr
   obtain rfl:=eq_of_beq hr;split at h
   ·rename_i hc
    obtain⟨ca,e,rfl⟩:=bX h;obtain⟨p1,_,p4⟩:=hf a ca e;exact zP (G.gl hc) (G.cR _ (by decide)) (by rw[bV p4];rfl) (p1 Φ)
   ·cases h
  ·exact kM G hf h Φ _
 ·exact kM G hf h Φ _
theorem ui(G:dk X κ T k sc N){x:Str}{i:Nat}(h:oH sc N x=some i):X.N[i]?=some x/\Loc X.env.scope x:=by
 unfold oH at h;split at h
 ·rename_i hc
  simp only[Bool.and_eq_true]at hc;refine⟨by rw[G.names];exact vY h,?_⟩
  rw[G.scope];have hv:=hc.1;unfold vV at hv;unfold L2.Loc;split at hv
  ·rename_i q;exact .inl q
  ·rename_i q;exact .inr q
  ·cases hv
 ·cases h
theorem dw{f:Stmt->Option SM}(hf:∀ s c,f s=some c->k9 X κ Φ s c):∀ {ss:List Stmt} {c:SM},cz f ss=some c->iZ X κ Φ ss c
 | [],c,h=>by cases h;exact sx
 | s::ss,c,h=>by
  obtain⟨a,b,h1,h2,rfl⟩:=bx h;exact oZ (hf s a h1) (dw hf h2)
theorem gM(G:dk X κ T k sc N){x:Str}{i:Nat}(h:iI T sc N x=some i):X.N[i]?=some x/\Loc X.env.scope x/\(X.fn x=true\/X.env.scope.names.lookup x=some .local):=by
 unfold iI at h;split at h
 ·cases h
 ·rename_i hz
  obtain⟨a,b⟩:=ui G h;refine⟨a,b,G.Eg x ?_ (by simpa using hz)⟩
  unfold oH at h;split at h
  ·rename_i hc;simp only[Bool.and_eq_true]at hc;exact hc.1
  ·cases h
theorem kP(G:dk X κ T k sc N):∀ {nms:List (Str×Pos)} {is:List Nat},(∀ y∈nms,T.fz.contains y.1=false)->km sc N nms=some is->is.length=nms.length/\∀ (j i:Nat) (x:Str×Pos),is[j]?=some i->nms[j]?=some x->X.N[i]?=some x.1/\Loc X.env.scope x.1/\(X.fn x.1=true\/X.env.scope.names.lookup x.1=some .local)
 | [],is,_,h=>by cases h;exact⟨rfl,fun j i x e=>by simp at e⟩
 | x::xs,is,hz,h=>by
  simp only[km,Option.bind_eq_bind]at h;obtain⟨i,h1,h⟩:=Option.bind_eq_some_iff.mp h;obtain⟨is',h2,h⟩:=Option.bind_eq_some_iff.mp h;cases h;obtain⟨q1,q2⟩:=kP G (fun y hy=>hz y (by simp[hy])) h2
  refine⟨by rw[List.length_cons,List.length_cons,q1],fun j i' y e1 e2 => ?_⟩
  cases j with
  | zero=>
   simp at e1 e2;subst e1 e2
   exact gM G (by unfold iI;rw[if_neg (by rw[hz x (by simp)];simp)];exact h1)
  | succ j=>exact q2 j i' y (by simpa using e1) (by simpa using e2)
theorem pf(G:dk X κ T k sc N){es:List Expr}{j:Nat}{p:Pos}{nms:List (Str×Pos)}{is:List Nat}(h1:dY es=some nms)(h2:kO T sc N nms=some is):PG X (.Tuple es j p) (yi X.K is.length (iV is)):=by
 obtain rfl:=jh h1
 have h2':(∀ y∈nms,T.fz.contains y.1=false)/\km sc N nms=some is:=by
  unfold kO at h2;split at h2
  ·cases h2
  ·rename_i hz
   refine⟨fun y hy => ?_,h2⟩
   cases q:T.fz.contains y.1 with
   | false=>rfl
   | true=>exact absurd (List.any_eq_true.mpr ⟨y,hy,q⟩) hz
 obtain⟨q1,q2⟩:=kP G h2'.1 h2'.2;obtain⟨t1,t2⟩:=lX X.env nms;exact BB G.calm (lR (nms:=nms) (by rw[G.names];exact G.nS) is nms q1 q2) (by rw[t1,q1]) t2
theorem pj{elt:Expr}{gens:List Comprehension}{scope:Scope}{p px:Pos}{x:Str}{l:Nat}(G:dk X κ T k sc N) :
  swapsWith (.ListComp elt gens scope p) (some (.Name x px)) l X.env=pure (oI sc x px (.ListComp elt gens scope p)):=by
 have hk:X.env.blockKind=.function:=by
  show(if X.env.scope.kind.isAnnotationScope=true then ScopeKind.function else X.env.scope.kind)=_
  rw[G.scope,G.kind];rfl
 show pure (X.env.blockKind == .function && X.env.kindOf x == some .local && px.line == p.line && !(scope.names.any fun (n,k)=>n == x && (k == .local || k == .cell)))=_
 rw[hk]
 show pure (true && X.env.scope.names.lookup x == some .local && px.line == p.line && !(scope.names.any fun (n,k)=>n == x && (k == .local || k == .cell)))=_
 rw[G.scope];rfl
theorem sE(G:dk X κ T k sc N){n i:Nat}{x:Str}{px pos:Pos}{e:Expr}{m:EM}(hi:iI T sc N x=some i)(h:cq T n sc N e=some m)(hs:oI sc x px e=true->pos.line=px.line):k9 X κ Φ (.Assign [.Name x px] e pos) (ax i m):=by
 obtain⟨s1,s2,s3⟩:=gM G hi;have hN:X.N.Nodup:=by rw[G.names];exact G.nS
 have E:=gG n X sc N e m G.toGoodO h;have plain:swapsWith e (some (.Name x px)) pos.line X.env=pure false->k9 X κ Φ (.Assign [.Name x px] e pos) (ax i m):=fun q=>sD hN s1 s2 s3 q (E.1 Φ)
 cases e with
 | ListComp elt gens scope p=>
  cases hb:oI sc x px (.ListComp elt gens scope p) with
  | false=>exact plain (by rw[pj G,hb])
  | true=>
   cases n with
   | zero=>cases h
   | succ n=>
   cases hg:kj gens with
   | none=>exact kN hg h
   | some q=>
    obtain⟨y,py,iter,ifs⟩:=q;obtain rfl:=lW hg;obtain⟨me,nc,mc,mi,cap,rfl,b1,b2,b3,b4,b5,b6⟩:=jj (fun X sc N e m G q=>gG n X sc N e m G q) G.toGoodO h
    have hl:X.env.scope.names.lookup x=some .local:=by
     rw[G.scope];unfold oI at hb;simp only[Bool.and_eq_true,beq_iff_eq]at hb;exact hb.1.1
    exact wH hN s1 hl (by rw[pj G,hb]) G.calm b1 b4 (jf 1 (by decide)) (kH (cap:=cap) (b5 Φ) b2 b3 b6) (hs hb)
 | SetComp=>cases n<;>cases h
 | DictComp=>cases n<;>cases h
 | _=>exact plain rfl
theorem CF{e:Expr}{t:Option Expr}{l:Nat}{env:Env}(h:qE e=false):swapsWith e t l env=pure false:=by
 cases e<;>first | rfl | (cases h)
theorem jJ(G:dk X κ T k sc N):∀ (n:Nat) (kk:Nat) (st:Stmt) (c:SM),iJ T td kk sc N n st=some c->k9 X κ Φ st c:=by
 intro n kk;have E:∀ e m,cq T kk sc N e=some m->k_ X κ e m:=fun e m q=>gG kk X sc N e m G.toGoodO q
 induction n with
 | zero=>intro st c h;cases h
 | succ n ih=>
  intro st c h;have B:∀ ss c,cz (iJ T td kk sc N n) ss=some c->iZ X κ Φ ss c:=fun ss c q=>dw ih q
  have hN:X.N.Nodup:=by rw[G.names];exact G.nS
  cases st with
  | Return v pos=>
   cases v with
   | none=>cases h
   | some e=>
    replace h:some (match cq T kk sc N e with
   | some m=>aW m
   | none=>nj)=some c:=h
    cases h;split
    ·rename_i m h1
     exact sy ((E e m h1).1 Φ)
    ·exact ue
  | Assign ts e pos=>
   cases ts with
   | nil=>cases h
   | cons t r=>
   cases r with
   | cons t2 r=>cases t<;>cases h
   | nil=>
   cases t with
   | Name x px=>
    replace h:qN T td kk sc N x px e pos=some c:=h;unfold qN at h;split at h
    ·rename_i i hi
     ·split at h
      ·rename_i m hm
       split at h
       ·split at h
        ·rename_i hs hl
         cases h;exact sE G hi hm fun _=>eq_of_beq hl
        ·cases h
       ·rename_i hs
        cases h;exact sE G hi hm fun q=>absurd q hs
      ·cases h
    ·cases h
   | Tuple es j p=>
    replace h:qO T kk sc N es e=some c:=h;unfold qO at h;split at h
    ·rename_i nms hn
     split at h
     ·rename_i is m h1 h2
      split at h
      ·rename_i hp
       cases h;exact zJ (pf G hn h1) hp ((E e m h2).1 Φ)
      ·cases h
     ·cases h
    ·cases h
   | _=>cases h
  | Expr e pos=>
   replace h:(if qE e=true then none else (cq T kk sc N e).map ft)=some c:=h
   split at h
   ·cases h
   ·rename_i hc
    obtain⟨m,h1,rfl⟩:=bX h;exact zI (CF (by simpa using hc)) ((E e m h1).1 Φ)
  | If c0 a b pos=>
   obtain⟨m,y,h1,h2,rfl⟩:=bx h;obtain⟨ca,cb,h3,h4,rfl⟩:=bx h2;exact wJ ((E c0 m h1).2.1 Φ) (B a ca h3) (B b cb h4)
  | While c0 b e pos=>
   cases e with
   | nil=>
    obtain⟨m,cb,h1,h2,rfl⟩:=bx h;exact l6 G.own ((E c0 m h1).2.1 Φ) (B b cb h2)
   | cons _ _=>cases h
  | For tg it b e pos=>
   cases e with
   | nil=>
    cases tg with
    | Name x px=>
     replace h:(if isSet it=true then none else o2 (iI T sc N x) (o2 (gF (cq T kk sc N) sc it) (cz (iJ T td kk sc N n) b) Prod.mk) fun i y=>cF (bA i) y.1 y.2)=some c:=h
     split at h
     ·cases h
     ·rename_i hs
      obtain⟨i,y,h1,h2,rfl⟩:=bx h;obtain⟨mi,cb,h3,h4,rfl⟩:=bx h2;obtain⟨s1,s2,s3⟩:=gM G h1;exact nk G.own G.calm (kM G.toGoodO E h3 Φ _) (jx hN s1 s2 s3) (wL i) (B b cb h4) (iy (by simpa using hs))
    | Tuple es j p=>
     replace h:(if isSet it=true then none else match dY es with
   | some nms=>o2 (kO T sc N nms) (o2 (nv (cq T kk sc N) sc it) (cz (iJ T td kk sc N n) b) Prod.mk) fun is y=>cF (ji is) y.1 y.2
   | none=>none)=some c:=h
     split at h
     ·cases h
     ·rename_i hs
      split at h
      ·rename_i nms hn
       obtain⟨is,y,h1,h2,rfl⟩:=bx h;obtain⟨mi,cb,h3,h4,rfl⟩:=bx h2;exact nk G.own G.calm (zQ G.toGoodO E h3 Φ) (pf G hn h1) (wM is) (B b cb h4) (iy (by simpa using hs))
      ·cases h
    | _=>cases h
   | cons _ _=>cases tg<;>cases h
  | _=>cases h
def bh(mg:Str->Option Value):Str->Addr->Prop:=fun C a=>mg C=some (.ref a)
structure bN(P:Program)(w:World)(K:PySem.W.Frag)(mg:Str->Option Value)(base:Heap)(T:aX)(k:Nat):Prop where
 cR:∀ x∈cY,mg x=none
 iF:∀ x F,T.iF.lookup x=some F->∃ (f:Addr) (fd:FuncData) (ps:List Str),mg x=some (.ref f)/\PySem.W.keepIn K (.ref f)=true/\Binds K fd ps []/\bU P w K mg base dR k f fd ps (ka F)
 fn:∀ x F,T.fn.lookup x=some F->∃ (f:Addr) (fd:FuncData) (ps:List Str),mg x=some (.ref f)/\PySem.W.keepIn K (.ref f)=true/\Binds K fd ps []/\bU P w K mg base dR k f fd ps (cL (bh mg) F)
 cst:∀ x d,T.cst.lookup x=some d->∃ v u,mg x=some u/\RelV v u/\fb d=some v
 met:∀ m C F,(m,C,F)∈T.met->∃ (Ca f:Addr) (fd:FuncData) (ps:List Str),(∀ a,bh mg C a->a=Ca)/\D_ K Ca/\Meth K Ca m f/\Binds K fd ps []/\bU P w K mg base dR k f fd ps (cL (bh mg) F)
 cls:∀ C F,T.cls.lookup C=some F->∃ j,j + 1<=k/\∃ (Ca f:Addr) (fd:FuncData) (ps:List Str),bh mg C Ca/\Mk K Ca f/\mg C=some (.ref Ca)/\Binds K fd ps []/\bU P w K mg base dR j f fd ps (cL (bh mg) F)
 fld:∀ f Cs,T.fld.lookup f=some Cs->wQ K (bh mg) Cs f
 clo:∀ j F,T.clo[j]?=some F->o3 P w K mg base (bh mg) k j F
def de(T:aX)(td:List Str)(st:Stmt)(N:List Str):Option SM:=cz (iJ T td 60 (af st) N 30) (aS st)
end
section
variable{P:Program}{w:World}{K:PySem.W.Frag}{mg:Str->Option Value}{base:Heap}{T:aX}{k:Nat}
theorem cg(W:bN P w K mg base T k){x qual:Str}{st:Stmt}{f:Addr}{fd:FuncData}(F:tI K x qual st f fd){N ps td:List Str}{c:SM}(hs:bW N ps (af st)=true)(hc:de T td st N=some c) :
    bU P w K mg base dR (k + 1) f fd ps (cL (bh mg) (bB N.length ps.length c)):=by
  refine F.ok (dG hs) (fun vs H Q E h => ?_) fun cdv A outer s H vs Q E hr h => ?_
  · obtain⟨α,Z,Ω,ds,S,r,g⟩:=h
    rw[r.length];unfold bB at g;split at g
    · rename_i hl;exact hl
    · exact g.elim
  · obtain⟨α,Z,Ω,ds,S,r,g⟩:=h
    have Sc:=dG hs
    have G:dk (bZ dR P w K mg base N qual (af st) f cdv A outer s H E).i8 (bh mg) T k (af st) N:=
      { scope:=rfl,names:=rfl,calm:=rfl,room:=hr,cR:=W.cR,own:=PassesOwn.never,Eg:=fun _ _ _=>.inl rfl,nS:=Sc.nd,kind:=Sc.kind,i8:=fun _ _ _ h=>h,fld:=W.fld,cst:=W.cst
        iF:=fun x F h=>⟨W.iF x F h⟩,fn:=fun x F h=>⟨W.fn x F h⟩,met:=fun m C F h=>⟨W.met m C F h⟩,cls:=fun C F h=>let ⟨j,h1,h2⟩:=W.cls C F h;⟨j,h1,⟨h2⟩⟩,clo:=W.clo }
    refine⟨CB (bh mg) iY α Z H c (aR N.length ds) Ω,dw (jJ G 30 60) hc α Z H (aR N.length ds) Ω,α,Z,ek S r,?_⟩;unfold bB at g;split at g
    · cases q:c (aR N.length ds) Ω with
      | rt d ak=>rw[q]at g;exact fun v H' α' Z' gr st r=>g v H' α' Z' gr st r
      | nx ρ ak=>rw[q]at g;exact fun σ H' α' Z' S'=>g .non H' α' Z' S'.gr S'.st (aT rfl)
      | bk ρ ak=>rw[q]at g;exact g.elim
      | ct ρ ak=>rw[q]at g;exact g.elim
      | exc x ak=>rw[q]at g;exact g
      | bad=>rw[q]at g;exact g.elim
    · exact g.elim
theorem zR{F:bg}{ak:ay}{H:Hp}{a:Addr}{ns:List Int}{κ:Str->Addr->Prop}(hR:Rd H a (.lst (ns.map V.int)))(h:F [.lst (ns.map D.int)] []=.ok (.bl true) ak):cL κ F [.ref a] H (fun v _=>v=.bl true) E0:=by
 refine⟨[],fun b=>b=a,[],[.lst (ns.map D.int)],⟨List.nodup_nil,.nil,fun _ h=>by simp at h,fun b e => ?_⟩,.one ?_,?_⟩
 ·subst e
  rcases hR with e | ⟨o,e⟩<;>rw[e]<;>simp
 ·simp only[au]
  refine⟨a,ns.map V.int,rfl,rfl,hR,?_⟩;clear h hR
  induction ns with
  | nil=>exact a_.mpr .nil
  | cons n ns ih=>exact a_.mpr (.cons (by simp only[au]) (a_.mp ih))
 ·rw[h]
  intro v H' α' Z' g s r;simpa only [au] using r
theorem bN.mono(W:bN P w K mg base T k){j:Nat}(h:k<=j):bN P w K mg base T j:=
 ⟨W.cR,fun x F q=>let ⟨f,fd,ps,a,b,c,d⟩:=W.iF x F q;⟨f,fd,ps,a,b,c,d.mono h⟩,fun x F q=>let ⟨f,fd,ps,a,b,c,d⟩:=W.fn x F q;⟨f,fd,ps,a,b,c,d.mono h⟩,W.cst,
  fun m C F q=>let ⟨Ca,f,fd,ps,a,b,c,d,e⟩:=W.met m C F q;⟨Ca,f,fd,ps,a,b,c,d,e.mono h⟩,fun C F q=>let ⟨j',h1,h2⟩:=W.cls C F q;⟨j',Nat.le_trans h1 h,h2⟩,W.fld,fun j F q=>(W.clo j F q).mono h⟩
end
noncomputable def aX.uj(T:aX)(x:Str)(F:List D->Out Rs):aX:={ T with iF:=(x,F)::T.iF }
noncomputable def aX.cH(T:aX)(x:Str)(F:bg):aX:={ T with fn:=(x,F)::T.fn }
noncomputable def aX.zS(T:aX)(x:Str)(d:D):aX:={ T with cst:=(x,d)::T.cst }
theorem i5{β:Type}{x y:Str}{F G:β}{l:List (Str×β)}(h:((x,F)::l).lookup y=some G):(y=x/\G=F)\/l.lookup y=some G:=by
 rw[List.lookup_cons]at h;cases e:y == x with
 | true=>rw[e]at h;cases h;exact .inl ⟨eq_of_beq e,rfl⟩
 | false=>rw[e]at h;exact .inr h
section
variable{P:Program}{w:World}{K:PySem.W.Frag}{mg:Str->Option Value}{base:Heap}{T:aX}{k:Nat}
theorem bN.start(nb:∀ x∈cY,mg x=none):bN P w K mg base {} 0:=
 ⟨nb,fun x F h=>(by cases h),fun x F h=>(by cases h),fun x d h=>(by cases h),fun m C F h=>(by cases h),fun C F h=>(by cases h),fun f Cs h=>(by cases h),fun j F h=>(by cases h)⟩
theorem bN.uj(W:bN P w K mg base T k){x:Str}{F:List D->Out Rs}{f:Addr}{fd:FuncData}{ps:List Str}{j:Nat}(hm:mg x=some (.ref f))(hk:PySem.W.keepIn K (.ref f)=true)(hb:Binds K fd ps [])(h:bU P w K mg base dR j f fd ps (ka F))(hj:j<=k) :
  bN P w K mg base (T.uj x F) k:=
 ⟨W.cR,fun y G q=>by
  rcases i5 q with ⟨rfl,rfl⟩ | q
  ·exact⟨f,fd,ps,hm,hk,hb,h.mono hj⟩
  ·exact W.iF y G q,W.fn,W.cst,W.met,W.cls,W.fld,W.clo⟩
theorem bN.cH(W:bN P w K mg base T k){x:Str}{F:bg}{f:Addr}{fd:FuncData}{ps:List Str}(hm:mg x=some (.ref f))(hk:PySem.W.keepIn K (.ref f)=true)(hb:Binds K fd ps [])(h:bU P w K mg base dR (k + 1) f fd ps (cL (bh mg) F)) :
  bN P w K mg base (T.cH x F) (k + 1):=by
 have W':=W.mono (Nat.le_succ k)
 exact⟨W'.cR,W'.iF,fun y G q=>by
  rcases i5 q with ⟨rfl,rfl⟩ | q
  ·exact⟨f,fd,ps,hm,hk,hb,h⟩
  ·exact W'.fn y G q,W'.cst,W'.met,W'.cls,W'.fld,W'.clo⟩
theorem bN.zS(W:bN P w K mg base T k){x:Str}{d:D}{v:V}{u:Value}(h1:mg x=some u)(h2:RelV v u)(h3:fb d=some v):bN P w K mg base (T.zS x d) k:=
 ⟨W.cR,W.iF,W.fn,fun y G q=>by
  rcases i5 q with ⟨rfl,rfl⟩ | q
  ·exact⟨v,u,h1,h2,h3⟩
  ·exact W.cst y G q,W.met,W.cls,W.fld,W.clo⟩
end
def FT(F:bg):Sp:=fun vs H Q E=>∀ κ,cL κ F vs H Q E
end Mir
namespace Mir
open PySem
theorem all1{p:List Value->Prop}(h:∀ a,p [a]):∀ us:List Value,us.length=1->p us
 | [a],_=>h a
theorem FU{p:List Value->Prop}{n:Nat}(h:∀ a us,us.length=n->p (a::us))(us:List Value)(hl:us.length=n + 1):p us:=by
 cases us with
 | nil=>exact absurd hl (Nat.zero_ne_add_one n)
 | cons a r=>exact h a r (Nat.succ.inj hl)
theorem all2{p:List Value->Prop}(h:∀ a b,p [a,b]):∀ us:List Value,us.length=2->p us:=FU fun a=>all1 (h a)
theorem uk{p:List Value->Prop}(h:∀ a b c,p [a,b,c]):∀ us:List Value,us.length=3->p us:=FU fun a=>all2 (h a)
open PySem.Spec PyProof.Rows L2
structure dz(K:PySem.W.Frag)(x:Str)(st:Stmt)(f:Addr)(fd:FuncData):Prop where
 ns:PySem.W.nsIn K mainGlobals x=some (some (.ref f))
 fn:tI K x x st f fd
theorem kQ{K:PySem.W.Frag}{x:Str}{st:Stmt}{f:Addr}{oc:Value}{od an:Option Addr}{osl:Array (Option Value)}{kV doc pm cdv ct:Value}(a:PySem.W.nsIn K mainGlobals x=some (some (.ref f)))
  (l:K.lookup f=some ⟨oc,od,.func (PySem.W.fnOf x x (b8 st) (aS st) (af st) .none kV doc pm an cdv ct),osl⟩) (c:PySem.W.codeIn K cdv x=true) (k:PySem.W.keepIn K (.ref f)=true):dz K x st f (PySem.W.fnOf x x (b8 st) (aS st) (af st) .none kV doc pm an cdv ct):=⟨a,mJ l c k⟩
def CG:D->Bool
 | .lst ds=>ds.all eM
 | d=>eM d
section
variable{α:List Addr}{Z Z1:Addr->Prop}{H H1:Hp}
theorem sF{d:D}{v:V}(hf:eM d=true)(r:Rep Z H d v):au α Z1 H1 d v:=by
 cases d with
 | lst _=>cases hf
 | tup _=>cases hf
 | ref _=>cases hf
 | dct _ _=>cases hf
 | _=>simp only[Rep]at r;simp only[au];exact r
theorem um{d:D}{v:V}(hf:eM d=true)(r:au α Z1 H1 d v):Rep Z H d v:=by
 cases d with
 | lst _=>cases hf
 | tup _=>cases hf
 | ref _=>cases hf
 | dct _ _=>cases hf
 | _=>simp only[au]at r;simp only[Rep];exact r
theorem pk:∀ {ds:List D} {vs:List V},ds.all eM=true->aQ Z H ds vs->dq α Z1 H1 ds vs
 | [],vs,_,r=>by simp only[aQ]at r;simp only[dq];exact r
 | d::ds,vs,h,r=>by
  simp only[List.all_cons,Bool.and_eq_true]at h;simp only[aQ]at r;obtain⟨v,r',e,h1,h2⟩:=r;simp only[dq];exact⟨v,r',e,sF h.1 h1,pk h.2 h2⟩
theorem FV{d:D}{v:V}(h:CG d=true)(r:Rep Z H d v):au α Z H d v:=by
 cases d with
 | lst ds=>
  simp only[Rep]at r;obtain⟨a,vs,e,z,hr,rs⟩:=r;simp only[au];exact⟨a,vs,e,z,hr,pk h rs⟩
 | tup _=>cases h
 | ref _=>cases h
 | dct _ _=>cases h
 | _=>exact sF rfl r
theorem wZ:∀ {ds:List D} {vs:List V},ds.all CG=true->aQ Z H ds vs->aK (au α Z H) ds vs
 | [],vs,_,r=>by simp only[aQ]at r;subst r;exact .nil
 | d::ds,vs,h,r=>by
  simp only[List.all_cons,Bool.and_eq_true]at h;simp only[aQ]at r;obtain⟨v,r',rfl,h1,h2⟩:=r;exact .cons (FV h.1 h1) (wZ h.2 h2)
end
variable [aA]
def pureOf(O:bg):List D->Out Rs:=fun ds=>if ds.all CG=true then (match O ds [] with
  | .ok d _=>if eM d=true then .ok (false,d) else .bad
  | _=>.bad) else .bad
section
variable{P:Program}{w:World}{K:PySem.W.Frag}{mg:Str->Option Value}{base:Heap}{k:Nat}{f:Addr}{fd:FuncData}{ps:List Str}{O:bg}
theorem sG(h:bU P w K mg base dR k f fd ps (cL (bh mg) O)):bU P w K mg base dR k f fd ps (ka (pureOf O)):=h.imp fun vs H Q E q=>by
 obtain⟨Z,ds,own,d,dom,r,e,g⟩:=q;unfold pureOf at e
 by_cases q1:ds.all CG=true
 ·rw[if_pos q1]at e
  refine⟨[],Z,[],ds,⟨List.nodup_nil,.nil,fun a ha=>by simp at ha,dom⟩,wZ q1 r,?_⟩
  cases q2:O ds [] with
  | exc x Ω=>rw[q2]at e;cases e
  | bad=>rw[q2]at e;cases e
  | ok d1 Ω=>
   rw[q2]at e;dsimp only at e
   by_cases hf:eM d1=true
   ·rw[if_pos hf]at e
    cases e;intro v H' α' Z' gr st rv;refine g v H' Z ⟨fun b o hb=>gr.frm b o hb (by simp),fun _ h=>h,fun _ h=>.inl h,fun a ha => ?_⟩ (.rep (um hf rv))
    cases q3:H a with
    | none=>exact absurd q3 (dom a ha)
    | some o=>rw[gr.frm a o q3 (by simp)];simp
   ·rw[if_neg hf]at e;cases e
 ·rw[if_neg q1]at e;cases e
end
section
variable{P:Program}{w:World}{K:PySem.W.Frag}{mg:Str->Option Value}{base:Heap}{T:aX}{k:Nat}
end
end Mir
namespace Mir
open PySem PySem.Spec PyProof.Rows L2
section
variable{X:Cx}{pins:List (Addr×Obj)}{σ:L2.St}{s:Shared}
end
variable [aA]
section
variable{κ:Str->Addr->Prop}{α aE:List Addr}{Z Z0:Addr->Prop}{Ω:ay}{H H0 H2:Hp}{ρ:aP}{σ:L2.St}
end
section
variable{P:Program}{w:World}{K:PySem.W.Frag}{mg:Str->Option Value}{base:Heap}{T T2:aX}{k:Nat}
end
section
variable{P:Program}{w:World}{K:PySem.W.Frag}{mg:Str->Option Value}{base:Heap}{T:aX}{k:Nat}
end
end Mir
namespace Mir
open PySem L2
section
variable{α β:Type}{Ω ak:ay}{ρ:aP}{d x y:D}{ma mb mc mi:EM}{as:AM}{a b:SM}
@[simp] theorem aO{a:α}{f:α->ay->av β}:(av.ok a Ω).bind f=f a Ω:=rfl
@[simp] theorem Ly{f:α->ay->av β}:(av.exc x Ω:av α).bind f=.exc x Ω:=rfl
@[simp] theorem Lz{f:α->ay->av β}:(av.bad:av α).bind f=.bad:=rfl
@[simp] theorem eQ{a:α}{k:α->ay->gE}:c6 (.ok a Ω) k=k a Ω:=rfl
@[simp] theorem LA{k:α->ay->gE}:c6 (.exc x Ω:av α) k=.exc x Ω:=rfl
@[simp] theorem LB{k:α->ay->gE}:c6 (.bad:av α) k=.bad:=rfl
@[simp] theorem N6{b:av D}:k7 (.ok d Ω) b=.ok d Ω:=rfl
@[simp] theorem LC{b:av D}:k7 (.exc d Ω) b=.exc d Ω:=rfl
@[simp] theorem LD{b:av D}:k7 .bad b=b:=rfl
@[simp] theorem A_{f:D->ay->av D}:m1 f ma ρ Ω=(ma ρ Ω).bind f:=rfl
@[simp] theorem c8{f:D->D->ay->av D}:m2 f ma mb ρ Ω=(ma ρ Ω).bind fun x ag=>(mb ρ ag).bind fun y aw=>f x y aw:=rfl
@[simp] theorem Ba{f:List D->ay->av D}:mN f as ρ Ω=(as ρ Ω).bind f:=rfl
@[simp] theorem jK:ah ρ Ω=.ok [] Ω:=rfl
@[simp] theorem fu:U ma as ρ Ω=(ma ρ Ω).bind fun x ag=>(as ρ ag).bind fun xs aw=>.ok (x::xs) aw:=rfl
noncomputable def vr:Option (Option D)->ay->av D
 | some (some d),Ω=>.ok d Ω
 | _,_=>.bad
@[simp] theorem sH:vr (some (some d)) Ω=.ok d Ω:=rfl
@[simp] theorem jL{i:Nat}:aa i ρ Ω=vr ρ[i]? Ω:=by
 unfold aa;cases ρ[i]? with
 | none=>rfl
 | some o=>cases o<;>rfl
@[simp] theorem jM:ae d ρ Ω=.ok d Ω:=rfl
@[simp] theorem eR{c:Cell}:lE Ω c=.ok (.ref Ω.length) (Ω++[c]):=rfl
noncomputable def tb(Ω:ay):Option Bool->av Bool
 | some b=>.ok b Ω
 | none=>.bad
@[simp] theorem jN{t:Bool}:tb Ω (some t)=.ok t Ω:=rfl
@[simp] theorem jO:dB (.ok d Ω)=tb Ω (eV Ω d):=by simp only[dB];cases eV Ω d<;>rfl
@[simp] theorem c9{t:Bool}:eV Ω (.bl t)=some t:=rfl
@[simp] theorem FW:eV Ω .non=some false:=rfl
@[simp] theorem FX{i:Int}:eV Ω (.int i)=some (i != 0):=rfl
noncomputable def D7(t:Option Bool)(a b:av D):av D:=match t with
 | some true=>a
 | some false=>b
 | none=>.bad
@[simp] theorem w6{a b:av D}:Mir.D7 (some true) a b=a:=rfl
@[simp] theorem sI{a b:av D}:Mir.D7 (some false) a b=b:=rfl
@[simp] theorem gN:eI ma mb ρ Ω=(ma ρ Ω).bind fun x ag=>Mir.D7 (eV ag x) (mb ρ ag) (.ok x ag):=by
 unfold eI;cases ma ρ Ω with
 | ok x ag=>
  simp only[aO];cases eV ag x with
  | none=>rfl
  | some t=>cases t<;>rfl
 | exc x ag=>rfl
 | bad=>rfl
@[simp] theorem CH:wg ma mb ρ Ω=(ma ρ Ω).bind fun x ag=>Mir.D7 (eV ag x) (.ok x ag) (mb ρ ag):=by
 unfold wg;cases ma ρ Ω with
 | ok x ag=>
  simp only[aO];cases eV ag x with
  | none=>rfl
  | some t=>cases t<;>rfl
 | exc x ag=>rfl
 | bad=>rfl
@[simp] theorem sJ:iD ma ρ Ω=(dB (ma ρ Ω)).bind fun t ag=>.ok (.bl (!t)) ag:=rfl
@[simp] theorem qP:A4 mc ma mb ρ Ω=(dB (mc ρ Ω)).bind fun t ag=>if t=true then ma ρ ag else mb ρ ag:=rfl
@[simp] theorem zT{f g:D->ay->av D}:Ck f g x Ω=k7 (f x Ω) (g x Ω):=rfl
@[simp] theorem gO{f g:D->D->ay->av D}:fi f g x y Ω=k7 (f x y Ω) (g x y Ω):=rfl
@[simp] theorem IT{f g:List D->ay->av D}{xs:List D}:t9 f g xs Ω=k7 (f xs Ω) (g xs Ω):=rfl
@[simp] theorem IU{f g:EM}:mX f g ρ Ω=k7 (f ρ Ω) (g ρ Ω):=rfl
@[simp] theorem IV{n:Nat}:d0 Ω n .non=some .non:=by cases n<;>rfl
@[simp] theorem CI{n:Nat}{t:Bool}:d0 Ω n (.bl t)=some (.bl t):=by cases n<;>rfl
@[simp] theorem zU{n:Nat}{i:Int}:d0 Ω n (.int i)=some (.int i):=by cases n<;>rfl
@[simp] theorem nz{n:Nat}{z:Str}:d0 Ω n (.str z)=some (.str z):=by cases n<;>rfl
@[simp] theorem LF{f:α->Option β}:bD f []=some []:=rfl
noncomputable def oc:Option α->Option (List α)->Option (List α)
 | some y,some ys=>some (y::ys)
 | _,_=>none
@[simp] theorem IW{y:α}{ys:List α}:oc (some y) (some ys)=some (y::ys):=rfl
@[simp] theorem nB{f:α->Option β}{x:α}{xs:List α}:bD f (x::xs)=oc (f x) (bD f xs):=by
 simp only[bD];cases f x<;>cases bD f xs<;>rfl
theorem nE{γ:Type}{f:β->Option γ}{g:α->β}{h:α->γ}(e:∀ x,f (g x)=some (h x)):∀ xs:List α,bD f (xs.map g)=some (xs.map h)
 | []=>rfl
 | x::xs=>by rw[List.map_cons,nB,e,nE e xs];rfl
@[simp] theorem zV{n:Nat}{xs:List Str}:bD (d0 Ω n) (xs.map .str)=some (xs.map .str):=nE (fun _=>nz) xs
@[simp] theorem nF{n:Nat}{xs:List Int}:bD (d0 Ω n) (xs.map .int)=some (xs.map .int):=nE (fun _=>zU) xs
theorem zW{n:Nat}{ds es:List D}(h:bD (d0 Ω n) ds=some es):d0 Ω (n + 1) (.lst ds)=some (.lst es):=by simp only[d0,h,Option.map_some]
theorem sL{n:Nat}{ds es:List D}(h:bD (d0 Ω n) ds=some es):d0 Ω (n + 1) (.tup ds)=some (.tup es):=by simp only[d0,h,Option.map_some]
theorem iK{n k:Nat}{ds es:List D}(hk:Ω[k]?=some (.lst ds))(h:bD (d0 Ω n) ds=some es):d0 Ω (n + 1) (.ref k)=some (.lst es):=by simp only[d0,hk,h,Option.map_some]
theorem cA{n k:Nat}{xs:List Str}(hk:Ω[k]?=some (.lst (xs.map .str))):d0 Ω (n + 1) (.ref k)=some (L1 xs):=iK hk zV
@[simp] theorem LG{n:Nat}{ns:List Int}:d0 Ω (n + 1) (SC ns)=some (SC ns):=zW nF
@[simp] theorem IX{o:Bool}{i:Int}:fh Ω (.ok (o,.int i))=.ok (.int i) Ω:=rfl
@[simp] theorem w8{o:Bool}{t:Bool}:fh Ω (.ok (o,.bl t))=.ok (.bl t) Ω:=rfl
@[simp] theorem zX{o:Bool}{z:Str}:fh Ω (.ok (o,.str z))=.ok (.str z) Ω:=rfl
@[simp] theorem IY{o:Bool}:fh Ω (.ok (o,.non))=.ok .non Ω:=rfl
@[simp] theorem IZ:fh Ω .bad=.bad:=rfl
def vN(Ω:ay)(f:List D->Out Rs):Option (List D)->av D
 | some ds=>fh Ω (f ds)
 | none=>.bad
@[simp] theorem sM{f:List D->Out Rs}{ds:List D}:vN Ω f (some ds)=fh Ω (f ds):=rfl
@[simp] theorem jP{f:List D->Out Rs}{xs:List D}:aU f xs Ω=vN Ω f (bD (d0 Ω 8) xs):=by unfold aU;cases bD (d0 Ω 8) xs<;>rfl
def v1(Ω:ay)(f:D->Out Rs):Option D->av D
 | some d=>fh Ω (f d)
 | none=>.bad
@[simp] theorem I_{f:D->Out Rs}:v1 Ω f (some d)=fh Ω (f d):=rfl
@[simp] theorem Ja{f:D->Out Rs}:tX f x Ω=v1 Ω f (d0 Ω 8 x):=by unfold tX;cases d0 Ω 8 x<;>rfl
def v2(Ω:ay)(f:D->D->Out Rs):Option D->Option D->av D
 | some d,some e=>fh Ω (f d e)
 | _,_=>.bad
@[simp] theorem gP{f:D->D->Out Rs}{e:D}:v2 Ω f (some d) (some e)=fh Ω (f d e):=rfl
@[simp] theorem jQ{f:D->D->Out Rs}:fK f x y Ω=v2 Ω f (d0 Ω 8 x) (d0 Ω 8 y):=by unfold fK;cases d0 Ω 8 x<;>cases d0 Ω 8 y<;>rfl
@[simp] theorem FY{z:Str}:oU .len [.str z]=if small z.length=true then .ok (false,.int z.length) else .bad:=rfl
@[simp] theorem w9{xs:List D}:oU .all [.lst xs]=v9 (fun bs=>bs.all id) (e_ xs):=rfl
@[simp] theorem FZ{xs:List D}:oU .any [.lst xs]=v9 (fun bs=>bs.any id) (e_ xs):=rfl
@[simp] theorem F2{i:Int}:oU .int [.int i]=.ok (false,.int i):=rfl
@[simp] theorem Jb{k:Bool}:oU .int [.bl k]=.ok (false,.int (if k then 1 else 0)):=rfl
@[simp] theorem F3{i j:Int}:oU .min [.int i,.int j]=.ok (false,.int (if j < i then j else i)):=rfl
@[simp] theorem F4{F:bg}{xs:List D}:aL F xs Ω=zK (F xs Ω):=rfl
@[simp] theorem LH:zK (.ok d Ω)=.ok d Ω:=rfl
@[simp] theorem jR{op:CmpOp}:cy op x y Ω=v2 Ω (fun x y=>do let r ← dF op x y;Out.ok (false,D.bl r)) (d0 Ω 8 x) (d0 Ω 8 y):=by unfold cy;rw[jQ]
@[simp] theorem nG:aD .Eq x y Ω=cy .Eq x y Ω:=rfl
@[simp] theorem fM:aD .NotEq x y Ω=cy .NotEq x y Ω:=rfl
@[simp] theorem Jc:aD .Lt x y Ω=cy .Lt x y Ω:=rfl
@[simp] theorem Jd:aD .LtE x y Ω=cy .LtE x y Ω:=rfl
@[simp] theorem Je:aD .Gt x y Ω=cy .Gt x y Ω:=rfl
@[simp] theorem Jf:aD .GtE x y Ω=cy .GtE x y Ω:=rfl
@[simp] theorem sN:aD .In x y Ω=k7 (cy .In x y Ω) (h_ false x y Ω):=rfl
@[simp] theorem el:aD .NotIn x y Ω=k7 (cy .NotIn x y Ω) (h_ true x y Ω):=rfl
@[simp] theorem Jg:aD .Is x y Ω=k7 (eW false x y Ω) (cy .Is x y Ω):=rfl
@[simp] theorem CJ:aD .IsNot x y Ω=k7 (eW true x y Ω) (cy .IsNot x y Ω):=rfl
@[simp] theorem F5{n:Bool}{k:Nat}:eW n (.ref k) .non Ω=.ok (.bl n) Ω:=rfl
@[simp] theorem Eh{n:Bool}{i:Int}:eW n (.int i) y Ω=.bad:=rfl
@[simp] theorem Ei{n:Bool}:eW n .non y Ω=.bad:=rfl
@[simp] theorem F6{n:Bool}{t:Bool}:eW n (.bl t) y Ω=.bad:=rfl
@[simp] theorem Ej{n:Bool}{z:Str}:eW n (.str z) y Ω=.bad:=rfl
@[simp] theorem pq:aI .Add x y Ω=k7 (qH x y Ω) (k7 (mZ x y Ω) (fK (e9 .Add) x y Ω)):=rfl
@[simp] theorem F7{i:Int}:mZ (.int i) y Ω=.bad:=rfl
@[simp] theorem F8{z:Str}:mZ (.str z) y Ω=.bad:=rfl
@[simp] theorem F9{k:Nat}:mZ (.ref k) y Ω=.bad:=rfl
@[simp] theorem F_{xs ys:List D}:mZ (.tup xs) (.tup ys) Ω=if small (xs.length + ys.length) then .ok (.tup (xs++ys)) Ω else .bad:=rfl
@[simp] theorem Ga:aI .Sub x y Ω=fK (e9 .Sub) x y Ω:=rfl
@[simp] theorem Ek:aI .Mult x y Ω=fK (e9 .Mult) x y Ω:=rfl
@[simp] theorem Gb:aI .Mod x y Ω=fK (e9 .Mod) x y Ω:=rfl
@[simp] theorem Jh:aI .FloorDiv x y Ω=fK (e9 .FloorDiv) x y Ω:=rfl
@[simp] theorem Ji{i:Int}:c5 Ω (.int i)=none:=rfl
@[simp] theorem Jj{z:Str}:c5 Ω (.str z)=none:=rfl
@[simp] theorem Jk{ds:List D}:c5 Ω (.tup ds)=none:=rfl
@[simp] theorem Jl{ds:List D}:c5 Ω (.lst ds)=some ds:=rfl
theorem az{k:Nat}{ds:List D}(h:Ω[k]?=some (.lst ds)):c5 Ω (.ref k)=some ds:=by simp only[c5,h]
theorem nH{k:Nat}{ds:List D}(h:Ω[k]?=some (.lst ds)):qI Ω (.ref k)=some (k,ds):=by simp only[qI,h]
def ct(Ω:ay):Option (List D)->Option (List D)->av D
 | some xs,some ys=>if small (xs.length + ys.length) then .ok (.ref Ω.length) (Ω++[.lst (xs++ys)]) else .bad
 | _,_=>.bad
@[simp] theorem sO{xs ys:List D}:ct Ω (some xs) (some ys)=if small (xs.length + ys.length) then .ok (.ref Ω.length) (Ω++[.lst (xs++ys)]) else .bad:=rfl
@[simp] theorem N7{o:Option (List D)}:ct Ω none o=.bad:=rfl
@[simp] theorem sP:qH x y Ω=ct Ω (c5 Ω x) (c5 Ω y):=by unfold qH;cases c5 Ω x<;>cases c5 Ω y<;>rfl
@[simp] theorem zY{ds:List D}:eH Ω (.tup ds)=some ds:=rfl
@[simp] theorem aN{k:Nat}:eH Ω (.ref k)=c5 Ω (.ref k):=rfl
@[simp] theorem Jm{ds:List D}:eH Ω (.lst ds)=some ds:=rfl
def ixs(Ω:ay):Option (List D)->D->av D
 | some ds,.int i=>match L2.i_ ds i with
  | some d=>.ok d Ω
  | none=>.bad
 | _,_=>.bad
theorem jS:zh x y Ω=ixs Ω (eH Ω x) y:=by unfold zh;cases eH Ω x<;>cases y<;>rfl
theorem qQ{ds:List D}{i:Int}(h:L2.i_ ds i=some d):ixs Ω (some ds) (.int i)=.ok d Ω:=by simp only[ixs,h]
theorem bH{k:Nat}{ds:List D}{i:Int}(h:Ω[k]?=some (.lst ds))(hi:L2.i_ ds i=some d):aM (.ref k) (.int i) Ω=.ok d Ω:=by
 unfold aM;rw[gO,jS,aN,az h,qQ hi];rfl
theorem w_{ds:List D}{i:Int}(hi:L2.i_ ds i=some d):aM (.tup ds) (.int i) Ω=.ok d Ω:=by
 unfold aM;rw[gO,jS,zY,qQ hi];rfl
@[simp] theorem Jn{xs:List D}:cQ xs Ω=if small xs.length then .ok (.ref Ω.length) (Ω++[.lst xs]) else .bad:=rfl
@[simp] theorem Jo{xs:List D}:ky xs Ω=if small xs.length then .ok (.tup xs) Ω else .bad:=rfl
def fl(Ω:ay)(Cs:List Str)(f:Str):Option (Nat×Str×List (Str×D))->av D
 | some (_,C,fs)=>if Cs.contains C then (match fs.lookup f with
  | some d=>.ok d Ω
  | none=>.bad) else .bad
 | none=>.bad
noncomputable def sq(r:gE)(b:SM):gE:=match r with
 | .nx bL ak=>b bL ak
 | r=>r
@[simp] theorem aJ:sq (.nx ρ Ω) b=b ρ Ω:=rfl
@[simp] theorem Gd:sq (.rt d Ω) b=.rt d Ω:=rfl
@[simp] theorem N8:sq (.bk ρ Ω) b=.bk ρ Ω:=rfl
@[simp] theorem N9:sq (.ct ρ Ω) b=.ct ρ Ω:=rfl
@[simp] theorem LI:sq (.exc d Ω) b=.exc d Ω:=rfl
@[simp] theorem LJ:sq .bad b=.bad:=rfl
@[simp] theorem ai:ao a b ρ Ω=sq (a ρ Ω) b:=by unfold ao;cases a ρ Ω<;>rfl
@[simp] theorem kR:aj ρ Ω=.nx ρ Ω:=rfl
@[simp] theorem cu{i:Nat}:ax i ma ρ Ω=c6 (ma ρ Ω) fun d ag=>.nx (ρ.set i (some d)) ag:=rfl
@[simp] theorem fN:ft ma ρ Ω=c6 (ma ρ Ω) fun _ ag=>.nx ρ ag:=rfl
@[simp] theorem dM:aW ma ρ Ω=c6 (ma ρ Ω) fun d ag=>.rt d ag:=rfl
@[simp] theorem cS:dh ma a b ρ Ω=c6 (dB (ma ρ Ω)) fun t ag=>if t=true then a ρ ag else b ρ ag:=rfl
@[simp] theorem zZ{is:List Nat}:ud is ma ρ Ω=c6 (ma ρ Ω) fun d ag=>match ji is d ρ with | some bL=>.nx bL ag | none=>.bad:=rfl
@[simp] theorem Bb{ds:List D}:jG [] ds ρ=ρ:=by cases ds<;>rfl
@[simp] theorem z4:fV (.rt d Ω)=.ok d Ω:=rfl
@[simp] theorem Jp:fV (.nx ρ Ω)=.ok .non Ω:=rfl
theorem bY{n k:Nat}{c:SM}{ds:List D}(h:ds.length=k):bB n k c ds Ω=fV (c (aR n ds) Ω):=by unfold bB;rw[if_pos h]
@[simp] theorem cw:bf ma ρ Ω=(ma ρ Ω).bind fun x ag=>srcOf ag x:=rfl
theorem bc{ds:List D}(h:eH Ω x=some ds):srcOf Ω x=.ok (.seq x) Ω:=by unfold srcOf;rw[h]
@[simp] theorem Ge:bG as ρ Ω=(as ρ Ω).bind su:=rfl
@[simp] theorem Jq{j:Int}:su [.int j] Ω=if hW j then .ok (.ints 0 j.toNat) Ω else .bad:=rfl
@[simp] theorem cx:gT (.seq x) Ω=eH Ω x:=rfl
@[simp] theorem Gf{lo:Int}{n:Nat}:gT (.ints lo n) Ω=some (intsFrom lo n):=rfl
@[simp] theorem dN{put:D->aP->Option aP}{mi:IM}:cF put mi b ρ Ω=c6 (mi ρ Ω) fun s ag=>eO put s b fuel 0 ρ ag:=rfl
def Bc(r:gE)(I:aP->ay->Prop)(R:gE->Prop):Prop:=match r with
 | .nx ρ Ω=>I ρ Ω
 | .ct ρ Ω=>I ρ Ω
 | .bk ρ Ω=>R (.nx ρ Ω)
 | r=>R r
theorem cM{put:D->aP->Option aP}{src:Src}{b:SM}{ds:List D}(I:Nat->aP->ay->Prop){R:gE->Prop}(LK:∀ i ρ Ω,I i ρ Ω->gT src Ω=some ds)
  (h:∀ (i:Nat) (d:D) ρ Ω,ds[i]?=some d->I i ρ Ω->∃ x_,put d ρ=some x_/\Bc (b x_ Ω) (I (i + 1)) R) (hR:∀ ρ Ω,I ds.length ρ Ω->R (.nx ρ Ω)) :
  ∀ (f i:Nat) ρ Ω,ds.length - i < f->i<=ds.length->I i ρ Ω->R (eO put src b f i ρ Ω):=by
 intro f
 induction f with
 | zero=>intro i ρ Ω hf;omega
 | succ f ih=>
  intro i ρ Ω hf hi h0;simp only[eO,LK i ρ Ω h0]
  by_cases hlt:i < ds.length
  ·have hd:ds[i]?=some ds[i]:=List.getElem?_eq_getElem hlt
   rw[hd];dsimp only;obtain⟨x_,e1,e2⟩:=h i ds[i] ρ Ω hd h0;rw[e1];dsimp only;cases q:b x_ Ω with
   | nx bL ak=>rw[q]at e2;exact ih (i + 1) bL ak (by omega) hlt e2
   | ct bL ak=>rw[q]at e2;exact ih (i + 1) bL ak (by omega) hlt e2
   | bk bL ak=>rw[q]at e2;exact e2
   | rt d ak=>rw[q]at e2;exact e2
   | exc x ak=>rw[q]at e2;exact e2
   | bad=>rw[q]at e2;exact e2
  ·have hd:ds[i]?=none:=List.getElem?_eq_none (by omega)
   rw[hd];have:i=ds.length:=by omega
   subst this;exact hR ρ Ω h0
theorem z5{nc:Bool}{mc me:EM}{τ:aP}{src:Src}{ds:List D}{p:D->Bool}{g:D->D}(hs:gT src Ω=some ds)(hc:∀ d∈ds,ib nc mc ([some d]++τ) Ω=.ok (p d) Ω)(he:∀ d∈ds,p d=true->me ([some d]++τ) Ω=.ok (g d) Ω) :
  ∀ (f i:Nat) (acc:List D),ds.length - i < f->i<=ds.length->acc.length + ds.length<=100000 + i->sv nc mc me 0 τ src f i acc Ω=.ok (acc++((ds.drop i).filter p).map g) Ω:=by
 intro f
 induction f with
 | zero=>intro i acc hf;omega
 | succ f ih=>
  intro i acc hf hi ha;simp only[sv,hs]
  by_cases hlt:i < ds.length
  ·have hd:ds[i]?=some ds[i]:=List.getElem?_eq_getElem hlt
   have hm:ds[i]∈ds:=List.getElem_mem hlt;rw[hd];have ht:ni 0 ds[i]=some [some ds[i]]:=rfl;simp only[ht];rw[if_pos (ba (n:=acc.length + 1) (by omega)),hc _ hm,List.drop_eq_getElem_cons hlt,List.filter_cons]
   cases hp:p ds[i] with
   | true=>
    dsimp only;rw[he _ hm hp];dsimp only;rw[ih (i + 1) _ (by omega) hlt (by rw[List.length_append];simp;omega)]
    simp
   | false=>
    dsimp only;rw[ih (i + 1) _ (by omega) hlt (by omega)]
    simp
  ·have hd:ds[i]?=none:=List.getElem?_eq_none (by omega)
   rw[hd,List.drop_of_length_le (by omega)]
   simp
theorem c_{me mc:EM}{nc:Bool}{mi:IM}{cap:List Nat}{src:Src}{ds:List D}{p:D->Bool}{g:D->D}(hi:mi ρ Ω=.ok src ak)(hs:gT src ak=some ds)(hc:∀ d∈ds,ib nc mc ([some d]++dc cap ρ) ak=.ok (p d) ak)(he:∀ d∈ds,p d=true->me ([some d]++dc cap ρ) ak=.ok (g d) ak)(hl:ds.length<=90000) :
  bq me nc mc mi 0 cap ρ Ω=.ok (.ref ak.length) (ak++[.lst ((ds.filter p).map g)]):=by
 unfold bq;rw[hi];dsimp only;rw[z5 hs hc he fuel 0 [] (by unfold fuel;omega) (Nat.zero_le _) (by simp;omega)]
 rfl
theorem sQ{k:Nat}{c:Cell}{l:ay}(h:Ω[k]?=some c):(Ω++l)[k]?=some c:=by rw[List.getElem?_append_left (List.getElem?_eq_some_iff.mp h).1];exact h
theorem aF{c:Cell}{l:ay}:(Ω++c::l)[Ω.length]?=some c:=by rw[List.getElem?_append_right (Nat.le_refl _)];simp
theorem er{j k:Nat}{c e:Cell}(h:Ω[k]?=some c)(hn:k≠j):(Ω.set j e)[k]?=some c:=by rw[List.getElem?_set_ne (Ne.symm hn)];exact h
theorem cB{k:Nat}{c e:Cell}(h:Ω[k]?=some c):(Ω.set k e)[k]?=some e:=List.getElem?_set_self (List.getElem?_eq_some_iff.mp h).1
theorem eF{k:Nat}{c:Cell}(h:Ω[k]?=some c):k < Ω.length:=(List.getElem?_eq_some_iff.mp h).1
structure aq(fp:List Nat)(Ω ak:ay):Prop where
 len:Ω.length<=ak.length
 get:∀ k c,Ω[k]?=some c->k∉fp->ak[k]?=some c
theorem aq.refl{fp:List Nat}:aq fp Ω Ω:=⟨Nat.le_refl _,fun _ _ h _=>h⟩
theorem aq.trans{fp:List Nat}{ag aw aV:ay}(h:aq fp ag aw)(h':aq fp aw aV):aq fp ag aV:=⟨Nat.le_trans h.len h'.len,fun k c q n=>h'.get k c (h.get k c q n) n⟩
theorem aq.app{fp:List Nat}{l:ay}:aq fp Ω (Ω++l):=⟨by simp,fun k c h _=>sQ h⟩
theorem aq.set{fp:List Nat}{j:Nat}{c:Cell}(h:j∈fp):aq fp Ω (Ω.set j c):=⟨by simp,fun k e q n=>er q fun z=>n (z▸h)⟩
theorem aq.sub{fp fq:List Nat}(h:aq fp Ω ak)(hs:∀ k∈fp,k∈fq):aq fq Ω ak:=⟨h.len,fun k c q n=>h.get k c q fun z=>n (hs k z)⟩
end
section
variable{Ω ak:ay}{ρ:aP}{d x y:D}{k:Nat}{ws:List Str}{w:Str}{L:List (List Str)}{rs:List Nat}
theorem dO{ds:List D}(h:Ω[k]?=some (.lst ds)):aZ .len [.ref k] Ω=.ok (.int ds.length) Ω:=by
 show k7 (wk [.ref k] Ω) _=_
 simp only[wk,aN,az h];rfl
theorem dm{ds:List D}{d:D}(h:Ω[k]?=some (.lst ds))(hs:ds.length<=1000):bu (.ref k) [d] Ω=.ok .non (Ω.set k (.lst (ds++[d]))):=by
 simp only[bu,nH h];rw[if_pos (ba (by omega))]
theorem cJ{ds:List D}(h:Ω[k]?=some (.lst ds)):eY Ω (.ref k)=true:=by simp only[eY,az h];rfl
theorem xa(h:Ω[k]?=some (.lst (ws.map .str))):aD .In (.str w) (.ref k) Ω=.ok (.bl (decide (w∈ws))) Ω:=by
 simp[cA (n:=7) h]
theorem iM(h:Ω[k]?=some (.lst (ws.map .str))):aD .NotIn (.str w) (.ref k) Ω=.ok (.bl (!decide (w∈ws))) Ω:=by
 simp[cA (n:=7) h]
theorem Gg{α β:Type}[BEq α][LawfulBEq α]{f:α->β}{p:β->Bool}{a:α}(hp:∀ b,p (f b)=(b == a)):∀ (xs:List α),a∈xs->(xs.map f).findIdx? p=some (xs.idxOf a)
 | [],h=>by simp at h
 | b::xs,h=>by
  rw[List.map_cons,List.findIdx?_cons,hp,List.idxOf_cons];cases e:b == a with
  | true=>rfl
  | false=>
   have hm:a∈xs:=by
    rcases List.mem_cons.mp h with z | z
    ·rw[z,beq_self_eq_true]at e;cases e
    ·exact z
   simp[Gg hp xs hm]
theorem qR(h:w∈ws):mL .index (.lst (ws.map .str)) (.tup [.str w])=.ok (false,.int (ws.idxOf w:Nat)):=by
 have e:(ws.map D.str).findIdx? (fun y=>dS y (.str w))=some (ws.idxOf w):=Gg (fun b=>rfl) ws h
 unfold mL;simp only[mU 8 ws,e];rfl
theorem fv(h:Ω[k]?=some (.lst (ws.map .str)))(hw:w∈ws):bF (.ref k) [.str w] Ω=.ok (.int (ws.idxOf w:Nat)) Ω:=by
 have:=qR hw;simp only[bF,jQ,cA (n:=7) h,nz,gP,L1,this];rfl
theorem xb{n:Nat}(hk:Ω[k]?=some (.lst (rs.map .ref)))(h:aK (fun j row=>Ω[j]?=some (.lst (row.map .str))) rs L):d0 Ω (n + 2) (.ref k)=some (LL L):=by
 refine iK (es:=L.map L1) hk ?_;clear hk
 induction h with
 | nil=>rfl
 | cons h1 h2 ih=>rw[List.map_cons,nB,cA h1,ih];rfl
theorem Gh{mc me:EM}{τ:aP}{src:Src}{ds:List D}{g:D->D}(I:ay->Prop)(hs:∀ Ω,I Ω->gT src Ω=some ds)(he:∀ d∈ds,∀ Ω,I Ω->∃ ak,me ([some d]++τ) Ω=.ok (g d) ak/\I ak) :
  ∀ (f i:Nat) (acc:List D) Ω,I Ω->ds.length - i < f->i<=ds.length->acc.length + ds.length<=100000 + i->∃ ak,sv true mc me 0 τ src f i acc Ω=.ok (acc++(ds.drop i).map g) ak/\I ak:=by
 intro f
 induction f with
 | zero=>intro i acc Ω h0 hf;omega
 | succ f ih=>
  intro i acc Ω h0 hf hi ha;simp only[sv,hs Ω h0]
  by_cases hlt:i < ds.length
  ·have hd:ds[i]?=some ds[i]:=List.getElem?_eq_getElem hlt
   have hm:ds[i]∈ds:=List.getElem_mem hlt;rw[hd];have ht:ni 0 ds[i]=some [some ds[i]]:=rfl;obtain⟨ag,e1,h1⟩:=he _ hm Ω h0;have hc:ib true mc ([some ds[i]]++τ) Ω=.ok true Ω:=rfl;simp only[ht];rw[if_pos (ba (n:=acc.length + 1) (by omega)),hc,List.drop_eq_getElem_cons hlt]
   dsimp only;rw[e1];dsimp only;obtain⟨aw,e2,h2⟩:=ih (i + 1) (acc++[g ds[i]]) ag h1 (by omega) hlt (by rw[List.length_append];simp;omega)
   exact⟨aw,by rw[e2,List.append_assoc];rfl,h2⟩
  ·have hd:ds[i]?=none:=List.getElem?_eq_none (by omega)
   rw[hd,List.drop_of_length_le (by omega)]
   exact⟨Ω,by simp,h0⟩
theorem xc{me mc:EM}{mi:IM}{cap:List Nat}{src:Src}{ds:List D}{g:D->D}(I:ay->Prop)(hi:mi ρ Ω=.ok src ak)(h0:I ak)(hs:∀ Ω,I Ω->gT src Ω=some ds)(he:∀ d∈ds,∀ Ω,I Ω->∃ ak,me ([some d]++dc cap ρ) Ω=.ok (g d) ak/\I ak)(hl:ds.length<=90000) :
  ∃ aw,bq me true mc mi 0 cap ρ Ω=.ok (.ref aw.length) (aw++[.lst (ds.map g)])/\I aw:=by
 obtain⟨aw,e2,h2⟩:=Gh (mc:=mc) I hs he fuel 0 [] ak h0 (by unfold fuel;omega) (Nat.zero_le _) (by simp;omega)
 refine⟨aw,?_,h2⟩;unfold bq;rw[hi];dsimp only;rw[e2];rfl
theorem da{xZ:ay->D->Bool}{f:D->List D->ay->av D}{mo:EM}{as:AM}(ho:mo ρ Ω=.ok x ak)(h:xZ ak x=true):bE xZ f mo as ρ Ω=(as ρ ak).bind fun xs aw=>f x xs aw:=by
 unfold bE;rw[ho]
 show(if xZ ak x=true then _ else _)=_
 rw[if_pos h]
end
variable [aA]
section
variable{Ω ak ag aw:ay}{ρ:aP}{k q:Nat}{x y:D}
theorem aq.new{fp:List Nat}(h:aq [] Ω ag)(h':aq fp ag aw)(hf:∀ j∈fp,Ω.length<=j):aq [] Ω aw:=⟨Nat.le_trans h.len h'.len,fun k c e _=>h'.get k c (h.get k c e (by simp)) fun z=>by have:=hf k z;have:=eF e;omega⟩
theorem kS.up{fp:List Nat}(h:aq [] Ω ak):aq fp Ω ak:=h.sub (by simp)
@[simp] theorem Gi{z:Str}:aM (.str z) y Ω=v2 Ω p9 (some (.str z)) (d0 Ω 8 y):=by
 unfold aM;rw[gO,gO,jS,jQ];simp[eH,c5,ixs,FI,Cn]
@[simp] theorem Gj{z:Str}{l h:Option Int}:ia (.str z) l h Ω=fh Ω (vt (.str z) l h):=rfl
@[simp] theorem kT{ma ml mh:EM}{nl nh:Bool}:cf ma nl ml nh mh ρ Ω=(ma ρ Ω).bind fun x ag=>(gv nl ml ρ ag).bind fun l aw=>(gv nh mh ρ aw).bind fun h aV=>ia x l h aV:=rfl
@[simp] theorem nI{m:EM}:gv true m ρ Ω=.ok none Ω:=rfl
noncomputable def N_(Ω:ay):D->av (Option Int)
 | .int i=>.ok (some i) Ω
 | _=>.bad
@[simp] theorem nJ{m:EM}:gv false m ρ Ω=(m ρ Ω).bind fun d ag=>N_ ag d:=by
 simp only[gv,Bool.false_eq_true,if_false]
 congr 1
@[simp] theorem nK{i:Int}:N_ Ω (.int i)=.ok (some i) Ω:=rfl
theorem pw{ds:List D}(h:Ω[k]?=some (.lst ds)):ej (.ref k) [] Ω=.ok .non (Ω.set k (.lst ds.reverse)):=by
 simp only[ej,nH h]
end
def nC:EM:=bq (m2 aM (aa 2) (m2 (aI .Mod) (m2 (aI .Add) (aa 1) (m2 (aI .Mult) (aa 0) (aa 3))) (ae (.int 26)))) true (ae .non) (bG (U (ae (.int 8)) ah)) 0 [4,3,5]
def nD:EM:=bq (cf (aa 1) true (ae .non) false (m2 (aI .Add) (aa 0) (ae (.int 1)))) true (ae .non) (bG (U (aa 2) ah)) 0 [6]
section
variable{Ω:ay}{F:List D->Out Rs}{δ:List Int->Int->Int->Int}{ns:List Int}
end
section
variable{κ β:Type}[DecidableEq κ]
end
section
variable{Ω ak:ay}{F:List D->Out Rs}{δ:List Int->Int->Int->Int}{ns:List Int}{t:Nat}{kvs:List (List Key×D)}
end
theorem l7{O:bg}{ds:List D}{d:D}{ak:ay}(h1:ds.all CG=true)(h:O ds []=.ok d ak)(hf:eM d=true):pureOf O ds=.ok (false,d):=by
 unfold pureOf;rw[if_pos h1,h];dsimp only;rw[if_pos hf]
def Gk:SM:=(ao (ax 3 (m2 (aI .FloorDiv) (aa 3) (ae (.int 840)))) aj)
def Gm:SM:=(dh (eI (m2 (aD .Eq) (m2 (aI .Mod) (aa 0) (ae (.int 2))) (ae (.int 1))) (m2 (aD .Gt) (aa 0) (m2 (aI .Pow) (ae (.int 10)) (ae (.int 18)))))
 (ao (cF (bA 4) (bG (U (aa 1) ah)) Gk)
 (ao (aW (m2 (aI .Mod) (m2 (aI .Mod) (aa 3) (ae (.int 840))) (aa 2)))
 aj))
 aj)
def Oa:SM:=(ao (ax 5 (mN cQ (U (ae (.int 48271)) (U (ae (.int 69621)) (U (ae (.int 40692)) (U (ae (.int 39373)) (U (ae (.int 16807)) (U (ae (.int 30323)) (U (ae (.int 21403)) (U (ae (.int 62089)) (U (ae (.int 45742)) (U (ae (.int 37907)) (U (ae (.int 53611)) (U (ae (.int 28411)) (U (ae (.int 59393)) (U (ae (.int 33391)) ah))))))))))))))))
 (ao (ax 6 (m2 (aI .Mod) (m2 (aI .Mult) (m2 (aI .Add) (m2 (aI .Mod) (aa 0) (ae (.int 1000000007))) (ae (.int 11))) (m2 aM (aa 5) (m2 (aI .Mod) (aa 1) (ae (.int 14))))) (ae (.int 2147483629))))
 (ao (ax 7 (m2 (aI .Mod) (m2 (aI .Mult) (aa 6) (m2 (aI .Add) (aa 6) (aa 1))) (ae (.int 1999999973))))
 (ao (aW (m2 (aI .Mod) (m2 (aI .FloorDiv) (m2 (aI .Mod) (m2 (aI .Mult) (aa 7) (ae (.int 16807))) (ae (.int 998244353))) (ae (.int 1000))) (aa 2)))
 aj))))
def l9:SM:=
 (ao (ax 3 (m2 (aI .FloorDiv) (aa 0) (ae (.int 2))))
 (ao Gm Oa))
@[simp] theorem Gn{x y:D}{Ω:ay}:aI .Pow x y Ω=fK (e9 .Pow) x y Ω:=rfl
theorem z6{c t m:Int}(ht:0<=t)(ht':t < 100000)(hm:0 < m):∃ r,0<=r/\r < m/\pureOf (bB 8 3 l9) [.int c,.int t,.int m]=.ok (false,.int r):=by
 have key:∃ r ak,0<=r/\r < m/\bB 8 3 l9 [.int c,.int t,.int m] []=.ok (.int r) ak:=by
  rw[bY (by rfl)]
  have e0:aR 8 [D.int c,.int t,.int m]=[some (.int c),some (.int t),some (.int m),none,none,none,none,none]:=rfl;rw[e0];unfold l9;have r1:(ax 3 (m2 (aI .FloorDiv) (aa 0) (ae (.int 2)))) [some (.int c),some (.int t),some (.int m),none,none,none,none,none] []=.nx [some (.int c),some (.int t),some (.int m),some (.int (c / 2)),none,none,none,none] []:=by simp
  rw[ai,r1,aJ,ai]
  by_cases hc:c % 2=1/\1000000000000000000 < c
  ·have hin:hW t=true:=dH (by omega) (by omega)
   have hL:∃ x s4,eO (bA 4) (.ints 0 t.toNat) Gk fuel 0 [some (.int c),some (.int t),some (.int m),some (.int (c / 2)),none,none,none,none] []=.nx [some (.int c),some (.int t),some (.int m),some (.int x),s4,none,none,none] []:=by
    refine cM (R:=fun r=>∃ x s4,r=.nx [some (.int c),some (.int t),some (.int m),some (.int x),s4,none,none,none] []) (ds:=intsFrom 0 t.toNat) (fun _ ρ Ω=>∃ x s4,ρ=[some (.int c),some (.int t),some (.int m),some (.int x),s4,none,none,none]/\Ω=[]) (fun _ _ _ _=>rfl) ?_ ?_ fuel 0 _ _ (by rw[cp];unfold fuel;omega) (Nat.zero_le _) ⟨_,_,rfl,rfl⟩
    ·rintro i d ρ Ω hd ⟨x,s4,rfl,rfl⟩
     refine⟨_,rfl,?_⟩;have e:Gk [some (.int c),some (.int t),some (.int m),some (.int x),some d,none,none,none] []=.nx [some (.int c),some (.int t),some (.int m),some (.int (x / 840)),some d,none,none,none] []:=by simp[Gk]
     show Bc (Gk [some (.int c),some (.int t),some (.int m),some (.int x),some d,none,none,none] []) _ _
     rw[e];exact⟨_,_,rfl,rfl⟩
    ·rintro ρ Ω ⟨x,s4,rfl,rfl⟩
     exact⟨x,s4,rfl⟩
   obtain⟨x,s4,hL⟩:=hL;refine⟨x % 840 % m,[],Int.emod_nonneg _ (by omega),Int.emod_lt_of_pos _ hm,?_⟩
   simp[Gm,hc.1,hc.2,hin,hL,hm]
  ·obtain⟨d,hd,e⟩:=Ce (xs:=[D.int 48271,.int 69621,.int 40692,.int 39373,.int 16807,.int 30323,.int 21403,.int 62089,.int 45742,.int 37907,.int 53611,.int 28411,.int 59393,.int 33391]) (i:=t % 14) (Int.emod_nonneg _ (by omega)) (Int.emod_lt_of_pos _ (by omega))
   obtain⟨v,rfl⟩:∃ v,d=.int v:=by
    simp only[List.mem_cons,List.not_mem_nil,or_false]at hd;rcases hd with h | h | h | h | h | h | h | h | h | h | h | h | h | h<;>exact⟨_,h⟩
   have hg:([]++[Cell.lst [D.int 48271,.int 69621,.int 40692,.int 39373,.int 16807,.int 30323,.int 21403,.int 62089,.int 45742,.int 37907,.int 53611,.int 28411,.int 59393,.int 33391]]:ay)[0]?=some (.lst [D.int 48271,.int 69621,.int 40692,.int 39373,.int 16807,.int 30323,.int 21403,.int 62089,.int 45742,.int 37907,.int 53611,.int 28411,.int 59393,.int 33391]):=rfl;have hx:=bH hg e;have i1:lx (c % 1000000007 + 11)=true:=jB (by omega) (by omega)
   have i2:lx ((c % 1000000007 + 11) * v % 2147483629)=true:=jB (by omega) (by omega)
   have i3:lx ((c % 1000000007 + 11) * v % 2147483629 * ((c % 1000000007 + 11) * v % 2147483629 + t) % 1999999973)=true:=jB (by omega) (by omega)
   have rI:Gm [some (.int c),some (.int t),some (.int m),some (.int (c / 2)),none,none,none,none] []=.nx [some (.int c),some (.int t),some (.int m),some (.int (c / 2)),none,none,none,none] []:=by
    by_cases h1:c % 2=1
    ·have h2:¬ 1000000000000000000 < c:=fun z=>hc ⟨h1,z⟩
     simp[Gm,h1,h2]
    ·have hb:(c % 2 == 1)=false:=by simpa using h1
     simp[Gm,hb]
   refine⟨(c % 1000000007 + 11) * v % 2147483629 * ((c % 1000000007 + 11) * v % 2147483629 + t) % 1999999973 * 16807 % 998244353 / 1000 % m,([]++[Cell.lst [D.int 48271,.int 69621,.int 40692,.int 39373,.int 16807,.int 30323,.int 21403,.int 62089,.int 45742,.int 37907,.int 53611,.int 28411,.int 59393,.int 33391]]:ay),Int.emod_nonneg _ (by omega),Int.emod_lt_of_pos _ hm,?_⟩
   rw[rI,aJ];have r5:(ax 5 (mN cQ (U (ae (.int 48271)) (U (ae (.int 69621)) (U (ae (.int 40692)) (U (ae (.int 39373)) (U (ae (.int 16807)) (U (ae (.int 30323)) (U (ae (.int 21403)) (U (ae (.int 62089)) (U (ae (.int 45742)) (U (ae (.int 37907)) (U (ae (.int 53611)) (U (ae (.int 28411)) (U (ae (.int 59393)) (U (ae (.int 33391)) ah)))))))))))))))) [some (.int c),some (.int t),some (.int m),some (.int (c / 2)),none,none,none,none] []=.nx [some (.int c),some (.int t),some (.int m),some (.int (c / 2)),none,some (.ref 0),none,none] ([]++[Cell.lst [D.int 48271,.int 69621,.int 40692,.int 39373,.int 16807,.int 30323,.int 21403,.int 62089,.int 45742,.int 37907,.int 53611,.int 28411,.int 59393,.int 33391]]):=rfl;unfold Oa;rw[ai,r5,aJ];generalize ([]++[Cell.lst [D.int 48271,.int 69621,.int 40692,.int 39373,.int 16807,.int 30323,.int 21403,.int 62089,.int 45742,.int 37907,.int 53611,.int 28411,.int 59393,.int 33391]]:ay)=ag at hx;simp[hx,i1,i2,i3,hm]
 obtain⟨r,ak,h0,h1,e⟩:=key;exact⟨r,h0,h1,l7 rfl e rfl⟩
section
variable{Ω ak:ay}{ρ:aP}{σ:Str->Int}{t kl:Nat}{kvs:List (List Key×D)}{line:List Str}{w x:Str}
theorem z7{ds:List D}{n:Nat}:cW ds none (some (n:Int))=ds.take n:=v_ ds n
theorem nL{n:Nat}(h:Ω[kl]?=some (.lst (line.map .str))):ia (.ref kl) none (some (n:Int)) Ω=.ok (.ref Ω.length) (Ω++[.lst ((line.take n).map .str)]):=by
 simp only[ia,az h,eR,z7,List.map_take]
@[simp] theorem Jr{ty:Ty}{ds:List D}:dJ ty (.tup ds) Ω=.ok (.bl (ty == .tuple)) Ω:=rfl
@[simp] theorem Js{ty:Ty}{z:Str}:dJ ty (.str z) Ω=.ok (.bl (ty == .str)) Ω:=rfl
@[simp] theorem Jt{ty:Ty}:dJ ty .non Ω=.ok (.bl false) Ω:=rfl
@[simp] theorem Gp{ds:List D}:aZ .len [.tup ds] Ω=.ok (.int ds.length) Ω:=rfl
end
section
variable{Ω ak:ay}{ρ:aP}
theorem CK{nc:Bool}{mc me:EM}{τ:aP}{src:Src}{ds:List D}{p:D->Bool}{g:D->D}(I:Nat->ay->Prop)(hs:∀ i Ω,I i Ω->gT src Ω=some ds)
  (hc:∀ i d Ω,ds[i]?=some d->I i Ω->∃ ak,ib nc mc ([some d]++τ) Ω=.ok (p d) ak/\I (i + 1) ak/\(p d=true->me ([some d]++τ) ak=.ok (g d) ak)) :
  ∀ (f i:Nat) (acc:List D) (Ω:ay),ds.length - i < f->i<=ds.length->acc.length + ds.length<=100000 + i->I i Ω->∃ ak,sv nc mc me 0 τ src f i acc Ω=.ok (acc++((ds.drop i).filter p).map g) ak/\I ds.length ak:=by
 intro f
 induction f with
 | zero=>intro i acc Ω hf;omega
 | succ f ih=>
  intro i acc Ω hf hi ha h0;simp only[sv,hs i Ω h0]
  by_cases hlt:i < ds.length
  ·have hd:ds[i]?=some ds[i]:=List.getElem?_eq_getElem hlt
   rw[hd];have ht:ni 0 ds[i]=some [some ds[i]]:=rfl;simp only[ht];obtain⟨ag,e1,h1,e2⟩:=hc i ds[i] Ω hd h0;rw[if_pos (ba (n:=acc.length + 1) (by omega)),e1,List.drop_eq_getElem_cons hlt,List.filter_cons]
   cases hp:p ds[i] with
   | true=>
    dsimp only;rw[e2 hp];dsimp only;obtain⟨aw,e3,h3⟩:=ih (i + 1) (acc++[g ds[i]]) ag (by omega) hlt (by rw[List.length_append];simp;omega) h1
    exact⟨aw,by rw[e3];simp,h3⟩
   | false=>
    dsimp only;obtain⟨aw,e3,h3⟩:=ih (i + 1) acc ag (by omega) hlt (by omega) h1
    exact⟨aw,by rw[e3];simp,h3⟩
  ·have hd:ds[i]?=none:=List.getElem?_eq_none (by omega)
   rw[hd,List.drop_of_length_le (by omega)]
   have:i=ds.length:=by omega
   subst this;exact⟨Ω,by simp,h0⟩
theorem z8{me mc:EM}{nc:Bool}{mi:IM}{cap:List Nat}{src:Src}{ds:List D}{p:D->Bool}{g:D->D}(I:Nat->ay->Prop)(hi:mi ρ Ω=.ok src ak)(hs:∀ i Ω,I i Ω->gT src Ω=some ds)
  (hc:∀ i d Ω,ds[i]?=some d->I i Ω->∃ ak,ib nc mc ([some d]++dc cap ρ) Ω=.ok (p d) ak/\I (i + 1) ak/\(p d=true->me ([some d]++dc cap ρ) ak=.ok (g d) ak)) (hl:ds.length<=90000) (h0:I 0 ak) :
  ∃ aw,bq me nc mc mi 0 cap ρ Ω=.ok (.ref aw.length) (aw++[.lst ((ds.filter p).map g)])/\I ds.length aw:=by
 unfold bq;rw[hi];dsimp only;obtain⟨aw,e,h⟩:=CK I hs hc fuel 0 [] ak (by unfold fuel;omega) (Nat.zero_le _) (by simp;omega) h0
 refine⟨aw,?_,h⟩;rw[e];rfl
end
section
variable{Ω ak:ay}{ρ:aP}{σ:Str->Int}{kl fn b:Nat}{line ys:List Str}{w:Str}{M:List (List D->bg)}{fp:List Nat}{I:List Str->ay->Prop}
theorem z9{k j:Nat}{us vs:List Str}(h:Ω[k]?=some (.lst (us.map .str)))(h':Ω[j]?=some (.lst (vs.map .str))):aD .Eq (.ref k) (.ref j) Ω=.ok (.bl (decide (us=vs))) Ω:=by
 rw[nG,jR,cA (n:=7) h,cA (n:=7) h',gP]
 have e:dF .Eq (L1 us) (L1 vs)=.ok (decide (us=vs)):=by
  rw[Cd,oN 7,oN 7]
  show(if (true && true)=true then Out.ok (dA (us.map .str) (vs.map .str)) else .bad)=_
  rw[r_];rfl
 rw[e];rfl
theorem sR{k j:Nat}{us vs:List Str}(h:Ω[k]?=some (.lst (us.map .str)))(h':Ω[j]?=some (.lst (vs.map .str))):aD .NotEq (.ref k) (.ref j) Ω=.ok (.bl (!decide (us=vs))) Ω:=by
 rw[fM,jR,cA (n:=7) h,cA (n:=7) h',gP]
 have e:dF .NotEq (L1 us) (L1 vs)=.ok (!decide (us=vs)):=by
  rw[qF,oN 7,oN 7]
  show(if (true && true)=true then Out.ok (!dA (us.map .str) (vs.map .str)) else .bad)=_
  rw[r_];rfl
 rw[e];rfl
def wB(M:List (List D->bg)):SM:=(ao (dh (wg (m2 (aD .NotEq) (cf (aa 0) false (aa 5) false (m2 (aI .Add) (aa 5) (ae (.int 1)))) (mN cQ (U (aa 6) ah))) (m2 (aD .NotEq) (CC M 2 (U (aa 6) (U (aa 1) ah))) (ae (.int 0))))
 (ao (aW (aa 5))
 aj)
 aj)
 aj)
theorem xf{i:Nat}{us:List Str}(h:Ω[kl]?=some (.lst (us.map .str))):ia (.ref kl) (some (i:Int)) none Ω=.ok (.ref Ω.length) (Ω++[.lst ((us.drop i).map .str)]):=by
 simp only[ia,az h,eR,mT,List.map_drop]
end
open PySem.Spec PyProof.Rows
section
variable{P:Program}{w:World}{K:PySem.W.Frag}{mg:Str->Option Value}{base:Heap}{T:aX}{k:Nat}
end
section
variable{P:Program}{w:World}{K:PySem.W.Frag}{mg:Str->Option Value}{base:Heap}{k:Nat}
end
section
variable{P:Program}{w:World}{K:PySem.W.Frag}{mg:Str->Option Value}{base:Heap}{k:Nat}
end
structure CL(K:PySem.W.Frag)(x qual:Str)(st:Stmt)(dV:Value)(f:Addr)(fd:FuncData):Prop where
 ex:∃ (oc:Value) (od:Option Addr) (kV doc pm:Value) (an:Option Addr) (cdv ct:Value) (osl:Array (Option Value)),
  fd=PySem.W.fnOf x qual (b8 st) (aS st) (af st) dV kV doc pm an cdv ct/\K.lookup f=some ⟨oc,od,.func fd,osl⟩/\PySem.W.codeIn K cdv qual=true
 kp:PySem.W.keepIn K (.ref f)=true
section
variable{P:Program}{w:World}{K:PySem.W.Frag}{mg:Str->Option Value}{base:Heap}{T:aX}{k:Nat}
theorem nM(W:bN P w K mg base T k){x qual:Str}{st:Stmt}{dV:Value}{f:Addr}{fd:FuncData}(F:CL K x qual st dV f fd){N ps td:List Str}{c:SM}(hs:bW N ps (af st)=true)(hc:de T td st N=some c) :
    bU P w K mg base dR (k + 1) f fd ps (cL (bh mg) (bB N.length ps.length c)):=by
  obtain⟨oc,od,kV,doc,pm,an,cdv,ct,osl,rfl,lk,hcd⟩:=F.ex;have Sc:=dG hs;refine u3 lk hcd Sc (fun vs H Q E h => ?_) fun A outer s H vs Q E hr h => ?_
  · obtain⟨α,Z,Ω,ds,S,r,g⟩:=h
    rw[r.length];unfold bB at g;split at g
    · rename_i hl;exact hl
    · exact g.elim
  · obtain⟨α,Z,Ω,ds,S,r,g⟩:=h
    have G:dk (bZ dR P w K mg base N qual (af st) f cdv A outer s H E).i8 (bh mg) T k (af st) N:=
      { scope:=rfl,names:=rfl,calm:=rfl,room:=hr,cR:=W.cR,own:=PassesOwn.never,Eg:=fun _ _ _=>.inl rfl,nS:=Sc.nd,kind:=Sc.kind,i8:=fun _ _ _ h=>h,fld:=W.fld,cst:=W.cst
        iF:=fun x F h=>⟨W.iF x F h⟩,fn:=fun x F h=>⟨W.fn x F h⟩,met:=fun m C F h=>⟨W.met m C F h⟩,cls:=fun C F h=>let ⟨j,h1,h2⟩:=W.cls C F h;⟨j,h1,⟨h2⟩⟩,clo:=W.clo }
    refine⟨CB (bh mg) iY α Z H c (aR N.length ds) Ω,(dw (jJ G 30 60) hc α Z H (aR N.length ds) Ω).i8,α,Z,ek S r,?_⟩;unfold bB at g;split at g
    · cases q:c (aR N.length ds) Ω with
      | rt d ak=>rw[q]at g;exact fun v H' α' Z' gr st r=>g v H' α' Z' gr st r
      | nx ρ ak=>rw[q]at g;exact fun σ H' α' Z' S'=>g .non H' α' Z' S'.gr S'.st (aT rfl)
      | bk ρ ak=>rw[q]at g;exact g.elim
      | ct ρ ak=>rw[q]at g;exact g.elim
      | exc x ak=>rw[q]at g;exact g
      | bad=>rw[q]at g;exact g.elim
    · exact g.elim
end
noncomputable def fw(C fld:Str)(d:D):D:=.tup [.str C,.str fld,d]
def nN(C fld:Str)(mv:EM)(m:EM):SM:=fun ρ Ω=>c6 (m ρ Ω) fun d ag=>match mv [none,some d] ag with
 | .ok d' aw=>.exc (fw C fld d') aw
 | _=>.bad
def ic(κ:Str->Addr->Prop)(E:XK):fU:=fun x Ω α Z H=>∃ C fld d,x=fw C fld d/\∀ Ca v dd,κ C Ca->au α Z H d v->H dd=none->E (.ref Ca) (some dd) (upd H dd (.xd [(fld,v)]))
def l_(κ:Str->Addr->Prop)(F:bg):Sp:=fun vs H Q E=>∃ α Z Ω ds,bt κ α Z Ω H/\aK (au α Z H) ds vs/\bQ κ (ic κ E) α Z H (F ds Ω) Q
def sS(R:List Stmt->Option SM)(T:aX)(td:List Str)(k:Nat)(sc:Scope)(N:List Str)(st:Stmt):Option SM:=match st with
 | .If c a b _=>o2 (cq T k sc N c) (o2 (R a) (R b) Prod.mk) fun x y=>dh x y.1 y.2
 | .While c b [] _=>o2 (cq T k sc N c) (R b) kI
 | .For (.Name x _) it b [] _=>if isSet it then none else o2 (iI T sc N x) (o2 (gF (cq T k sc N) sc it) (R b) Prod.mk) fun i y=>cF (bA i) y.1 y.2
 | _=>iJ T td k sc N 1 st
def kU(hk:Stmt->Option SM)(T:aX)(td:List Str)(k:Nat)(sc:Scope)(N:List Str):Nat->Stmt->Option SM
 | 0,_=>none
 | n + 1,st=>match hk st with
  | some c=>some c
  | none=>sS (cz (kU hk T td k sc N n)) T td k sc N st
section
variable{X:Cx}{κ:Str->Addr->Prop}{Φ:fU}{T:aX}{k:Nat}{sc:Scope}{N td:List Str}{hk:Stmt->Option SM}
theorem sT(G:dk X κ T k sc N)(hh:∀ st c,hk st=some c->k9 X κ Φ st c):∀ (n kk:Nat) (st:Stmt) (c:SM),kU hk T td kk sc N n st=some c->k9 X κ Φ st c:=by
 intro n kk;have E:∀ e m,cq T kk sc N e=some m->k_ X κ e m:=fun e m q=>gG kk X sc N e m G.toGoodO q
 induction n with
 | zero=>intro st c h;cases h
 | succ n ih=>
  intro st c h;have B:∀ ss c,cz (kU hk T td kk sc N n) ss=some c->iZ X κ Φ ss c:=fun ss c q=>dw ih q
  have hN:X.N.Nodup:=by rw[G.names];exact G.nS
  cases hq:hk st with
  | some c'=>
   replace h:(match hk st with | some c=>some c | none=>sS (cz (kU hk T td kk sc N n)) T td kk sc N st)=some c:=h
   rw[hq]at h;cases h;exact hh _ _ hq
  | none=>
   have D:iJ T td kk sc N 1 st=some c->k9 X κ Φ st c:=fun q=>jJ G 1 kk st c q
   replace h:(match hk st with | some c=>some c | none=>sS (cz (kU hk T td kk sc N n)) T td kk sc N st)=some c:=h
   rw[hq]at h;replace h:sS (cz (kU hk T td kk sc N n)) T td kk sc N st=some c:=h;cases st with
   | If c0 a b pos=>
    obtain⟨m,y,h1,h2,rfl⟩:=bx h;obtain⟨ca,cb,h3,h4,rfl⟩:=bx h2;exact wJ ((E c0 m h1).2.1 Φ) (B a ca h3) (B b cb h4)
   | While c0 b e pos=>
    cases e with
    | nil=>
     obtain⟨m,cb,h1,h2,rfl⟩:=bx h;exact l6 G.own ((E c0 m h1).2.1 Φ) (B b cb h2)
    | cons _ _=>exact D h
   | For tg it b e pos=>
    cases e with
    | nil=>
     cases tg with
     | Name x px=>
      replace h:(if isSet it=true then none else o2 (iI T sc N x) (o2 (gF (cq T kk sc N) sc it) (cz (kU hk T td kk sc N n) b) Prod.mk) fun i y=>cF (bA i) y.1 y.2)=some c:=h
      split at h
      ·cases h
      ·rename_i hs
       obtain⟨i,y,h1,h2,rfl⟩:=bx h;obtain⟨mi,cb,h3,h4,rfl⟩:=bx h2;obtain⟨s1,s2,s3⟩:=gM G h1;exact nk G.own G.calm (kM G.toGoodO E h3 Φ _) (jx hN s1 s2 s3) (wL i) (B b cb h4) (iy (by simpa using hs))
     | _=>exact D h
    | cons _ _=>cases tg<;>exact D h
   | _=>exact D h
end
section
variable{P:Program}{w:World}{K:PySem.W.Frag}{mg:Str->Option Value}{base:Heap}{T:aX}{k:Nat}
theorem bN.toXt(W:bN P w K mg base T k):bN P w K mg base { T with xt:=true } k:=⟨W.cR,W.iF,W.fn,W.cst,W.met,W.cls,W.fld,W.clo⟩
theorem uo{κ:Str->Addr->Prop}{N:List Str}{qual:Str}{scope:Scope}{f:Addr}{cd:Value}{A:Around}{outer:List Env}{s0:Shared}{H0:Hp}{E:XK}
  {C N0 fI c:Addr} {LM:FuncData} {stI:Stmt} {f7 fld sf pn cn:Str} {ve arg:Expr} {np cpos pos:Pos} {m mv:EM} (D:vm K mg C N0 fI c LM stI f7 fld sf pn ve) (hr:bP (k + 2) (A.deeper (envOfC qual scope s0.heap.objs.size f cd)))
  (hg:Gl (bZ (jz P w) P w K mg base N qual scope f cd A outer s0 H0 E) cn) (hm:mg cn=some (.ref C)) (pz:κ cn C)
  (harg:bj (bZ (jz P w) P w K mg base N qual scope f cd A outer s0 H0 E) κ (ic κ E) arg m)
  (yH:∀ (A':Around) (ot:List Env) (s':Shared) (e:Addr) (H1:Hp) (E':XK),bP k (A'.deeper (envOfC f7 (af stI) s'.heap.objs.size fI (.ref c)))->bj ((bZ dR P w K mg base [sf,pn] f7 (af stI) fI (.ref c) A' ot s' H1 E').i8.mk1 e) κ iY ve mv)
  (hst:starEach [arg] (envOfC qual scope s0.heap.objs.size f cd)=[(false,eval arg (envOfC qual scope s0.heap.objs.size f cd))]) (hdb:(cn == ("__debug__":Str))=false) :
  k9 (bZ (jz P w) P w K mg base N qual scope f cd A outer s0 H0 E) κ (ic κ E) (.Raise (some (.Call (.Name cn np) [arg] [] cpos)) none pos) (nN cn fld mv m):=by
 intro aE Z0 Ju ρ Ω pins s σ H Dn I hF;obtain⟨α,Z,S,hF⟩:=hF
 refine vo (k:=k) (te:=tO κ (ic κ E) aE Z0 Ju m ρ Ω) (Arg:=fun v0 H1=>∃ d ag d' aw α1 Z1,mv [none,some d] ag=.ok d' aw/\bS aE Z0 Ju α1 Z1 H1/\bt κ α1 Z1 ag H1/\au α1 Z1 H1 d v0/\(∀ H2 α2 Z2,bS aE Z0 Ju α2 Z2 H2->bt κ α2 Z2 aw H2->ic κ E (fw cn fld d') aw α2 Z2 H2))
  (fZ:=fun v0 H1 v H2=>∃ d' aw α2 Z2,bt κ α2 Z2 aw H2/\au α2 Z2 H2 d' v/\ic κ E (fw cn fld d') aw α2 Z2 H2) D hr hg hm (harg aE Z0 Ju ρ Ω) (fun v0 H1 hA A' ot s' e E' hr' => ?_) hst hdb pins s σ H Dn I ⟨α,Z,S,?_⟩
 ·obtain⟨d,ag,d',aw,α1,Z1,e1,g1,s1,r1,h1⟩:=hA
  refine⟨_,yH A' ot s' e H1 E' hr' α1 Z1 H1 [none,some d] ag,α1,Z1,⟨s1,bS.refl s1.has,rfl,fun i dd hi => ?_⟩,?_⟩
  ·match i with
   | 0=>cases hi
   | 1=>cases hi;exact⟨v0,rfl,r1⟩
   | i + 2=>cases hi
  ·rw[e1]
   intro v H2 α2 Z2 g2 s2 r2;exact⟨d',aw,α2,Z2,s2,r2,h1 H2 α2 Z2 (g1.trans g2) s2⟩
 ·refine fm.use S hF fun d ag v H1 α1 Z1 e1 g1 S1 r1 f1 => ?_
  cases hv:mv [none,some d] ag with
  | ok d' aw=>
   rw[hv]at f1;refine⟨⟨d,ag,d',aw,α1,Z1,hv,S1.gr,S1.st,r1,fun H2 α2 Z2 g2 s2=>f1 H2 α2 Z2 g2 s2⟩,?_⟩
   rintro v' H2 dd ⟨d2,aV,α2,Z2,s2,r2,hp⟩ hdd;obtain⟨C',Qd,d3,e3,h3⟩:=hp;simp only[fw,Mir.D.tup.injEq,List.cons.injEq,Mir.D.str.injEq,and_true]at e3;obtain⟨rfl,rfl,rfl⟩:=e3;exact h3 C v' dd pz r2 hdd
  | exc x aw=>rw[hv]at f1;exact f1.elim
  | bad=>rw[hv]at f1;exact f1.elim
theorem z_(W:bN P w K mg base T k)(Qe:T.xt=true){x qual:Str}{st:Stmt}{dV:Value}{f:Addr}{fd:FuncData}(F:CL K x qual st dV f fd){N ps td:List Str}{c:SM}{hk:Stmt->Option SM}(hs:bW N ps (af st)=true)(hc:cz (kU hk T td 60 (af st) N 30) (aS st)=some c)
    (hh:∀ (cdv:Value) (A:Around) (outer:List Env) (s:Shared) (H:Hp) (E:XK),bP (k + 2) (A.deeper (envOfC qual (af st) s.heap.objs.size f cdv))->GoodO (bZ (jz P w) P w K mg base N qual (af st) f cdv A outer s H E) (bh mg) T k (af st) N ->
      ∀ st' c',hk st'=some c'->k9 (bZ (jz P w) P w K mg base N qual (af st) f cdv A outer s H E) (bh mg) (ic (bh mg) E) st' c') :
    bU P w K mg base (jz P w) (k + 3) f fd ps (l_ (bh mg) (bB N.length ps.length c)):=by
  obtain⟨oc,od,kV,doc,pm,an,cdv,ct,osl,rfl,lk,hcd⟩:=F.ex;have Sc:=dG hs;refine u3 lk hcd Sc (fun vs H Q E h => ?_) fun A outer s H vs Q E hr h => ?_
  · obtain⟨α,Z,Ω,ds,S,r,g⟩:=h
    rw[r.length];unfold bB at g;split at g
    · rename_i hl;exact hl
    · exact g.elim
  · obtain⟨α,Z,Ω,ds,S,r,g⟩:=h
    have G0:GoodO (bZ (jz P w) P w K mg base N qual (af st) f cdv A outer s H E) (bh mg) T k (af st) N:=
      { scope:=rfl,names:=rfl,calm:=rfl,room:=hr.mono (by omega),cR:=W.cR,fld:=W.fld,cst:=W.cst
        iF:=fun x F h=>⟨W.iF x F h⟩,fn:=fun x F h=>⟨W.fn x F h⟩,met:=fun m C F h=>⟨W.met m C F h⟩,cls:=fun C F h=>let ⟨j,h1,h2⟩:=W.cls C F h;⟨j,h1,⟨h2⟩⟩,clo:=W.clo }
    have G:dk (bZ (jz P w) P w K mg base N qual (af st) f cdv A outer s H E) (bh mg) T k (af st) N:=
      { toGoodO:=G0,own:=PassesOwn.leaving,Eg:=fun _ _ _=>.inl rfl,nS:=Sc.nd,kind:=Sc.kind,i8:=fun q=>by rw[Qe]at q;cases q }
    refine⟨CB (bh mg) (ic (bh mg) E) α Z H c (aR N.length ds) Ω,dw (sT G (hh cdv A outer s H E hr G0) 30 60) hc α Z H (aR N.length ds) Ω,α,Z,ek S r,?_⟩;unfold bB at g;split at g
    · cases q:c (aR N.length ds) Ω with
      | rt d ak=>rw[q]at g;exact fun v H' α' Z' gr st r=>g v H' α' Z' gr st r
      | nx ρ ak=>rw[q]at g;exact fun σ H' α' Z' S'=>g .non H' α' Z' S'.gr S'.st (aT rfl)
      | bk ρ ak=>rw[q]at g;exact g.elim
      | ct ρ ak=>rw[q]at g;exact g.elim
      | exc x ak=>rw[q]at g;exact g
      | bad=>rw[q]at g;exact g.elim
    · exact g.elim
end
section
variable{X:Cx}{κ:Str->Addr->Prop}{e:Expr}{es:List Expr}{as:AM}{p pos:Pos}
theorem uq{k:Nat}{x:Str}{G:bg}{f:Addr}{fd:FuncData}{ps:List Str}{E:XK}(F:bU X.prog X.w X.K X.mg X.base (jz X.prog X.w) k f fd ps (l_ κ G))(hr:bP k X.A)(hg:Gl X x)(hm:X.mg x=some (.ref f))(hk:PySem.W.keepIn X.K (.ref f)=true)(hb:Binds X.K fd ps [])(hx:Passes (jz X.prog X.w) X E)(hdb:(x == ("__debug__":Str))=false)
  (he:starEach (e::es) X.env=(false,eval e X.env)::starEach es X.env) (hpl:(backTo pos (starEach es X.env)).any (·.1)=false) (ha:pN X κ (ic κ E) (e::es) as) :
  bj X κ (ic κ E) (.Call (.Name x p) (e::es) [] pos) (mN G as):=by
 intro aE Z0 H0 ρ Ω;refine PE.imp (jy F hr hg hm hk hb .nil hx (ha aE Z0 H0 ρ Ω) hdb he hpl) ?_;rintro σ H Q ⟨α,Z,S,g⟩;refine⟨α,Z,S,oP.use g fun xs ag _ vs H1 α1 Z1 g1 s1 r1 k1 => ?_⟩
 show l_ κ G (vs++[]) H1 Q E
 rw[List.append_nil];exact⟨α1,Z1,ag,xs,s1,r1,k1⟩
end
def qS(n l:Nat)(b:SM)(cr:SM)(hnd:D->ay->av D):bg:=fun ds Ω=>if ds.length=l then (match b (aR n ds) Ω with
 | .nx ρ ag=>fV (cr ρ ag)
 | .exc x ag=>zK (hnd x ag)
 | _=>.bad) else .bad
section
variable{P:Program}{w:World}{K:PySem.W.Frag}{mg:Str->Option Value}{base:Heap}{T:aX}{k:Nat}
theorem xh(W:bN P w K mg base T k){x qual bn cn fld:Str}{nm:Option Str}{st b0:Stmt}{f c C N0 fI B0:Addr}{fd:FuncData}{N ps td:List Str}{i:Nat}{cb cr:SM}{hnd:D->ay->av D}{R:V->Hp->VK->Prop}
    (F:tI K x qual st f fd) (hcv:fd.code=.ref c) (hs:bW N ps (af st)=true) {body suite rest:List Stmt} {hp hpos pos:Pos}
    (hbd:aS st=.Try body [.ExceptHandler (some (.Name bn hp)) nm (b0::suite) hpos] [] [] pos::rest) (hrest:cz (iJ T td 60 (af st) N 30) rest=some cr)
    (Qf:mg cn=some (.ref C)) (Tx:mK K C N0 fI) (is:Kx K C) (hmb:mg bn=some (.ref B0)) (hex:PySem.W.exmOne K (.ref C) (.ref B0)=some true) (sb:(af st).names.lookup bn=some .globalImplicit)
    (hi:∀ n,nm=some n->N[i]?=some n) (se:∀ n,nm=some n->(af st).names.lookup n=some .local) (hdb:(bn == ("__debug__":Str))=false)
    (hbody:∀ (A:Around) (outer:List Env) (s:Shared) (H:Hp) (E:XK) (xe:Value->Shared->Prop) (E':XK),bP k (A.deeper (envOfC qual (af st) s.heap.objs.size f (.ref c))) ->
      GoodO ((bZ dR P w K mg base N qual (af st) f (.ref c) A outer s H E).wish xe) (bh mg) T k (af st) N->Passes (jz P w) ((bZ dR P w K mg base N qual (af st) f (.ref c) A outer s H E).wish xe) E' ->
      iZ ((bZ dR P w K mg base N qual (af st) f (.ref c) A outer s H E).wish xe) (bh mg) (ic (bh mg) E') body cb)
    (hx:∀ x Ω,(∃ d,x=fw cn fld d)\/hnd x Ω=.bad)
    (LN:∀ (X:Cx) (e d:Addr) (oe:Obj),X.env.scope=af st->X.mg=mg->X.K=K->X.N=N->Ic X e C oe d N0 fI->∃ t,ij X (b0::suite) t/\∀ (D:Ends) (σ:L2.St) (H:Hp) (v:V),(nm.isSome=true->σ[i]?=some (some (.ref e)))->H d=some (.xd [(fld,v)])->R v H D.rt->t D σ H)
    (hR:∀ (α:List Addr) (Z:Addr->Prop) (Ω:ay) (H:Hp) (d:D) (v:V) (r:D) (aw:ay) (Q:VK),bt (bh mg) α Z Ω H->au α Z H d v->hnd (fw cn fld d) Ω=.ok r aw->(∀ v' H' α' Z',bS α Z H α' Z' H'->bt (bh mg) α' Z' aw H'->au α' Z' H' r v'->Q v' H')->R v H Q) :
    bU P w K mg base dR (k + 1) f fd ps (cL (bh mg) (qS N.length ps.length cb cr hnd)):=by
  have Sc:=dG hs;refine F.Pp hcv Sc (fun vs H Q E h => ?_) fun A outer s s1 H vs Q E hr h I => ?_
  · obtain⟨α,Z,Ω,ds,S,r,g⟩:=h
    rw[r.length];unfold qS at g;split at g
    · rename_i hl;exact hl
    · exact g.elim
  obtain⟨α,Z,Ω,ds,S0,r,g⟩:=h;unfold qS at g;split at g
  rotate_left
  · exact g.elim
  rw[hbd];have S1:b_ (bh mg) α Z H α Z Ω (aR N.length ds) (L2.start N vs) H:=ek S0 r;refine wpAny_execs_cons (wpAny_Try_except ?_);generalize hX:(bZ dR P w K mg base N qual (af st) f (.ref c) A outer s H E).i8=X at *;have eP:X.prog=P:=by subst hX;rfl
  have ew:X.w=w:=by subst hX;rfl
  have eA:X.A=A.deeper (envOfC qual (af st) s.heap.objs.size f (.ref c)):=by subst hX;rfl
  have ee:X.env=envOfC qual (af st) s.heap.objs.size f (.ref c):=by subst hX;rfl
  have eN:X.N=N:=by subst hX;rfl
  have em:X.mg=mg:=by subst hX;rfl
  have eK:X.K=K:=by subst hX;rfl
  have ex:X.xe=fun _ _=>False:=by subst hX;rfl
  have est:X.stack=X.env::X.outer:=by subst hX;rfl
  have Qg:X.env.frame=some X.env.locals:=by subst hX;rfl
  rw[← eP,← ew,← eA,← ee]
  have G:dk X (bh mg) T k (af st) N:=by
    subst hX
    exact
      { scope:=rfl,names:=rfl,calm:=rfl,room:=hr,cR:=W.cR,own:=PassesOwn.never,Eg:=fun _ _ _=>.inl rfl,nS:=Sc.nd,kind:=Sc.kind,i8:=fun _ _ _ h=>h,fld:=W.fld,cst:=W.cst
        iF:=fun x F h=>⟨W.iF x F h⟩,fn:=fun x F h=>⟨W.fn x F h⟩,met:=fun m C F h=>⟨W.met m C F h⟩,cls:=fun C F h=>let ⟨j,h1,h2⟩:=W.cls C F h;⟨j,h1,⟨h2⟩⟩,clo:=W.clo }
  let E':XK:=fun cls Qh IL=>∃ dd v H' α' Z' ag dD,cb (aR N.length ds) Ω=.exc (fw cn fld dD) ag/\cls=.ref C/\Qh=some dd/\IL=upd H' dd (.xd [(fld,v)])/\H' dd=none/\bS α Z H α' Z' H'/\bt (bh mg) α' Z' ag H'/\au α' Z' H' dD v
  generalize Qi:(fun (e:Value) (s₁:Shared)=>wpAny (model X.prog X.w) X.A (noteFrame e X.env) (fun _ s₂=>wpAny (model X.prog X.w) X.A (setFlight e none) (fun _ s₃=>wpAny (model X.prog X.w) X.A (handleBy e X.env [.ExceptHandler (some (.Name bn hp)) nm (b0::suite) hpos]) (fun fl s'=>match fl with
    | .next=>wpAny (model X.prog X.w) X.A (execs rest X.env) (fun fl s'=>∃ xs v u σ' H',(fl=.ret u\/fl=.next/\u=Value.none)/\Inv (X.fz xs) [] σ' H' s'/\RelV v u/\Q v H') (fun _ _=>False) s'
    | fl=>∃ xs v u σ' H',(fl=.ret u\/fl=.next/\u=Value.none)/\Inv (X.fz xs) [] σ' H' s'/\RelV v u/\Q v H') (fun _ _=>False) s₃) (fun _ _=>False) s₂) (fun _ _=>False) s₁)=xe
  have CM:Passes (jz P w) (X.wish xe) E':=by
    intro pins σ' H1 LO e s2 I1 hT;obtain⟨e,C',d,H2,rfl,Th,hE⟩:=hT;obtain⟨dd,v,H',α',Z',ag,dD,hcb,e1,e2,rfl,hdd,g1,Gq,r1⟩:=hE;cases e1;cases e2;rw[hcb]at g;replace g:bQ (bh mg) iY α Z H (zK (hnd (fw cn fld dD) ag)) Q:=g
    show xe (.ref e) s2
    rw[← Qi];have I2:Inv X [] σ' H1 LO:=I1.eS.vh;rw[← eP,← ew]at Th;refine vp I2 Th est Qg bo (by show X.env.scope.names.lookup bn=_;rw[G.scope];exact sb) (by rw[em];exact hmb) (by rw[eK];exact hex) (by rw[eN];exact Sc.nd) (fun n e=>by rw[eN];exact hi n e) (fun n e=>by rw[G.scope];exact se n e) (fun oe s4 c1 c2 c3 J4 => ?_) hdb
    have J5:=J4.yJ;have LP:Ic ((X.oj e).yJ e oe) e C oe d N0 fI:=⟨by simp[Cx.yJ],c1,c2,c3,by show mK X.K C N0 fI;rw[eK];exact Tx,by show Kx X.K C;rw[eK];exact is⟩
    obtain⟨t,ht,hq⟩:=LN ((X.oj e).yJ e oe) e d oe G.scope em eK eN LP;obtain⟨a1,a2⟩:=Gq.wc (p:=d) (o:=.xd [(fld,v)]) hdd False
    have hrun:=ht [] s4 _ _ { nx:=fun _ _=>False,rt:=Q } J5 (hq _ _ _ v (fun hz=>by
      obtain⟨n,rfl⟩:=Option.isSome_iff_exists.mp hz
      have hlen:i < σ'.length:=by
        rw[I2.len,eN];exact(List.getElem?_eq_some_iff.mp (hi n rfl)).1
      rw[if_pos hz,List.getElem?_set_self hlen]) bo ?_)
    · refine wpAny_mono hrun (fun fl Sq hs => ?_) (fun _ _ z=>z)
      cases fl with
      | ret u=>
        obtain⟨v',Fc,H5,J,rv,hQ⟩:=hs;refine⟨Fc,H5,J.Fd,fun HZ s6 J6 => ?_⟩
        exact⟨[],v',u,_,_,.inl rfl,by rw[Cx.p8];exact J6,rv,hQ⟩
      | next=>obtain⟨_,_,_,z⟩:=hs;exact z.elim
      | brk=>obtain⟨_,_,_,z⟩:=hs;exact z.elim
      | cont=>obtain⟨_,_,_,z⟩:=hs;exact z.elim
    · cases hn:hnd (fw cn fld dD) ag with
      | ok r2 aw=>
        rw[hn]at g;refine hR _ _ ag _ dD v r2 aw Q a1 (Gq.du a2 r1) hn fun v' H5 IQ Z5 g5 s5 r5 => ?_
        exact g v' H5 IQ Z5 ((g1.trans a2).trans g5) s5 r5
      | exc y aw=>rw[hn]at g;exact g.elim
      | bad=>rw[hn]at g;exact g.elim
  have G':GoodO (X.wish xe) (bh mg) T k (af st) N:=by
    subst hX
    exact
      { scope:=rfl,names:=rfl,calm:=rfl,room:=hr,cR:=W.cR,fld:=W.fld,cst:=W.cst
        iF:=fun x F h=>⟨W.iF x F h⟩,fn:=fun x F h=>⟨W.fn x F h⟩,met:=fun m C F h=>⟨W.met m C F h⟩,cls:=fun C F h=>let ⟨j,h1,h2⟩:=W.cls C F h;⟨j,h1,⟨h2⟩⟩,clo:=W.clo }
  have hB:iZ (X.wish xe) (bh mg) (ic (bh mg) E') body cb:=by
    subst hX;exact hbody A outer s H E xe E' hr G' CM
  refine wpAny_mono (hB α Z H (aR N.length ds) Ω [] s1 _ H { nx:=fun σ' H'=>∃ ρ ag α' Z',cb (aR N.length ds) Ω=.nx ρ ag/\b_ (bh mg) α Z H α' Z' ag ρ σ' H',rt:=fun _ _=>False } (I.wish xe) ⟨α,Z,S1,?_⟩) (fun fl s2 hs => ?_) (fun e s2 z=>z)
  · cases hcb:cb (aR N.length ds) Ω with
    | nx ρ ag=>exact fun σ' H' α' Z' S'=>⟨ρ,ag,α',Z',rfl,S'⟩
    | exc y ag=>
      rcases hx y ag with ⟨dD,rfl⟩ | hb
      rotate_left
      · rw[hcb]at g
        replace g:bQ (bh mg) iY α Z H (zK (hnd y ag)) Q:=g;rw[hb]at g;exact g.elim
      intro H' α' Z' g1 LO;refine⟨cn,fld,dD,rfl,fun Ca v dd hk r1 hdd=>⟨dd,v,H',α',Z',ag,dD,hcb,?_,rfl,rfl,hdd,g1,LO,r1⟩⟩
      have:mg cn=some (.ref Ca):=hk;rw[Qf]at this;cases this;rfl
    | bk ρ ag=>rw[hcb]at g;exact g.elim
    | ct ρ ag=>rw[hcb]at g;exact g.elim
    | rt d ag=>rw[hcb]at g;exact g.elim
    | bad=>rw[hcb]at g;exact g.elim
  · cases fl with
    | next=>
      obtain⟨σ',H',J,ρ,ag,α',Z',hcb,S'⟩:=hs;rw[hcb]at g;replace g:bQ (bh mg) iY α Z H (fV (cr ρ ag)) Q:=g;have J:=J.eS;refine wpAny_execs_nil ?_;have hr2:=dw (Φ:=iY) (jJ (td:=td) G 30 60) hrest α Z H ρ ag [] s2 σ' H' { nx:=fun _ H'=>Q .non H',rt:=Q } J ⟨α',Z',S',?_⟩
      · rw[ex]at hr2
        refine wpAny_mono hr2 (fun fl s3 hs => ?_) (fun _ _ z=>z)
        cases fl with
        | ret u=>
          obtain⟨v,pO,H3,J3,rv,hQ⟩:=hs;exact⟨[],v,u,pO,H3,.inl rfl,by rw[Cx.p8];exact J3,rv,hQ⟩
        | next=>
          obtain⟨pO,H3,J3,hQ⟩:=hs;exact⟨[],.non,.none,pO,H3,.inr ⟨rfl,rfl⟩,by rw[Cx.p8];exact J3,rfl,hQ⟩
        | brk=>obtain⟨_,_,_,z⟩:=hs;exact z.elim
        | cont=>obtain⟨_,_,_,z⟩:=hs;exact z.elim
      · cases q:cr ρ ag with
        | rt d ak=>rw[q]at g;exact fun v H' α' Z' gr st r=>g v H' α' Z' gr st r
        | nx ρ ak=>rw[q]at g;exact fun σ H' α' Z' S'=>g .non H' α' Z' S'.gr S'.st (aT rfl)
        | bk ρ ak=>rw[q]at g;exact g.elim
        | ct ρ ak=>rw[q]at g;exact g.elim
        | exc x ak=>rw[q]at g;exact g
        | bad=>rw[q]at g;exact g.elim
    | ret u=>obtain⟨_,_,_,_,_,z⟩:=hs;exact z.elim
    | brk=>obtain⟨_,_,_,z⟩:=hs;exact z.elim
    | cont=>obtain⟨_,_,_,z⟩:=hs;exact z.elim
end
def ur(x:D)(Ω:ay):av D:=match c5 Ω x with
 | some ds=>lE Ω (.lst ds.reverse)
 | none=>.bad
section
variable{X:Cx}{κ:Str->Addr->Prop}{Φ:fU}{e:Expr}{m:EM}{p p' pos pos':Pos}
theorem Aa(hc:X.calm=true)(hg:Gl X "list")(hm:X.mg "list"=none)(hg':Gl X "reversed")(hm':X.mg "reversed"=none)(hs:starEach [e] X.env=[(false,eval e X.env)])(he:bj X κ Φ e m) :
  bj X κ Φ (.Call (.Name "list" p) [.Call (.Name "reversed" p') [e] [] pos'] [] pos) (m1 ur m):=
 jE (r:=fun x H1 Q=>∃ l xs,x=.ref l/\L2.Rd H1 l (.lst xs)/\∀ p,H1 p=none->Q (.ref p) (upd H1 p (.lst xs.reverse))) (fun ta pa=>qu hc hg hm hg' hm' hs pa) he fun dx x α Z Ω H Q S rx g=>by
  unfold ur at g;split at g
  ·rename_i ds hd
   obtain⟨a,ws,rfl,q1,q2⟩:=bp S rx hd;exact⟨a,ws,rfl,q1,eg S q2.reverse g⟩
  ·exact g.elim
end
section
variable{P:Program}{w:World}{K:PySem.W.Frag}{mg:Str->Option Value}{base:Heap}{T:aX}{k:Nat}
theorem Ab(W:bN P w K mg base T k){x qual:Str}{st:Stmt}{f:Addr}{fd:FuncData}(F:tI K x qual st f fd){N ps td:List Str}{c:SM}{hk:Stmt->Option SM}(hs:bW N ps (af st)=true)(hc:cz (kU hk T td 60 (af st) N 30) (aS st)=some c)
    (hh:∀ (X:Cx),GoodO X (bh mg) T k (af st) N->(∀ x∈cY,X.mg x=none)->∀ st' c',hk st'=some c'->k9 X (bh mg) iY st' c') :
    bU P w K mg base dR (k + 1) f fd ps (cL (bh mg) (bB N.length ps.length c)):=by
  refine F.ok (dG hs) (fun vs H Q E h => ?_) fun cdv A outer s H vs Q E hr h => ?_
  · obtain⟨α,Z,Ω,ds,S,r,g⟩:=h
    rw[r.length];unfold bB at g;split at g
    · rename_i hl;exact hl
    · exact g.elim
  · obtain⟨α,Z,Ω,ds,S,r,g⟩:=h
    have Sc:=dG hs
    have G:dk (bZ dR P w K mg base N qual (af st) f cdv A outer s H E).i8 (bh mg) T k (af st) N:=
      { scope:=rfl,names:=rfl,calm:=rfl,room:=hr,cR:=W.cR,own:=PassesOwn.never,Eg:=fun _ _ _=>.inl rfl,nS:=Sc.nd,kind:=Sc.kind,i8:=fun _ _ _ h=>h,fld:=W.fld,cst:=W.cst
        iF:=fun x F h=>⟨W.iF x F h⟩,fn:=fun x F h=>⟨W.fn x F h⟩,met:=fun m C F h=>⟨W.met m C F h⟩,cls:=fun C F h=>let ⟨j,h1,h2⟩:=W.cls C F h;⟨j,h1,⟨h2⟩⟩,clo:=W.clo }
    refine⟨CB (bh mg) iY α Z H c (aR N.length ds) Ω,dw (sT G (hh _ G.toGoodO W.cR) 30 60) hc α Z H (aR N.length ds) Ω,α,Z,ek S r,?_⟩;unfold bB at g;split at g
    · cases q:c (aR N.length ds) Ω with
      | rt d ak=>rw[q]at g;exact fun v H' α' Z' gr st r=>g v H' α' Z' gr st r
      | nx ρ ak=>rw[q]at g;exact fun σ H' α' Z' S'=>g .non H' α' Z' S'.gr S'.st (aT rfl)
      | bk ρ ak=>rw[q]at g;exact g.elim
      | ct ρ ak=>rw[q]at g;exact g.elim
      | exc x ak=>rw[q]at g;exact g
      | bad=>rw[q]at g;exact g.elim
    · exact g.elim
end
section
variable{X:Cx}{κ:Str->Addr->Prop}{Φ:fU}{e:Expr}{es:List Expr}{as:AM}{p pos:Pos}{T:aX}{k:Nat}{sc:Scope}{N:List Str}
theorem uu{j:Nat}{x:Str}{F:bg}{f:Addr}{fd:FuncData}{ps:List Str}{ds:List Value}{rj:List V}{Dd:List D}(F1:bU X.prog X.w X.K X.mg X.base dR j f fd ps (cL κ F))(hr:bP j X.A)(hg:Gl X x)(hm:X.mg x=some (.ref f))(hk:PySem.W.keepIn X.K (.ref f)=true)(hb:Binds X.K fd ps ds)(hd:Vals rj ds)(hD:∀ α Z H,aK (au α Z H) Dd rj)(hdb:(x == ("__debug__":Str))=false)
  (he:starEach (e::es) X.env=(false,eval e X.env)::starEach es X.env) (hpl:(backTo pos (starEach es X.env)).any (·.1)=false) (ha:pN X κ Φ (e::es) as) :
  bj X κ Φ (.Call (.Name x p) (e::es) [] pos) (mN (fun xs Ω=>aL F (xs++Dd) Ω) as):=by
 intro aE Z0 H0 ρ Ω;refine PE.imp (jy F1 hr hg hm hk hb hd rE (ha aE Z0 H0 ρ Ω) hdb he hpl) ?_;rintro σ H Q ⟨α,Z,S,g⟩;refine⟨α,Z,S,oP.use g fun xs ag _ vs H1 α1 Z1 g1 s1 r1 k1 => ?_⟩
 exact⟨α1,Z1,ag,xs++Dd,s1,r1.append (hD _ _ _),bQ.ok0 k1⟩
noncomputable def Gr:Stmt->Option Expr
 | .Return (some e) _=>some e
 | _=>none
theorem xi{st:Stmt}{x:Expr}(h:Gr st=some x):∃ p,st=.Return (some x) p:=by
 cases st with
 | Return v p=>
  cases v with
  | none=>cases h
  | some e=>cases h;exact⟨p,rfl⟩
 | _=>cases h
def LQ(f:Expr)(p:Pos)(as:List Expr)(ks:List Keyword):Option (Str×Expr):=match f,as,ks with
 | .Name l _,[e],[]=>some (l,e)
 | _,_,_=>none
def Jv:Expr->Option (Str×Expr)
 | .Call f as ks p=>LQ f p as ks
 | _=>none
theorem nO{x:Expr}{l:Str}{e:Expr}(h:Jv x=some (l,e)):∃ q p,x=.Call (.Name l q) [e] [] p:=by
 cases x with
 | Call f as ks p=>
  cases f with
  | Name l' q=>
   cases as with
   | nil=>cases h
   | cons a r=>
    cases r with
    | nil=>
     cases ks with
     | nil=>cases h;exact⟨q,p,rfl⟩
     | cons _ _=>cases h
    | cons _ _=>cases h
  | _=>cases h
 | _=>cases h
theorem kW{α β:Type}{o:Option α}{f:α->Option β}{b:β}(h:o.bind f=some b):∃ a,o=some a/\f a=some b:=Option.bind_eq_some_iff.mp h
def Bd(T:aX)(sc:Scope)(N:List Str)(st:Stmt):Option SM:=(Gr st).bind fun x=>(Jv x).bind fun u=>(Jv u.2).bind fun v=>
 if u.1 == ("list":Str) && v.1 == ("reversed":Str) && rV sc u.1 && rV sc v.1 then (cq T 60 sc N v.2).map (fun m=>aW (m1 ur m)) else none
theorem xj(G:GoodO X κ T k sc N)(st:Stmt)(c:SM)(h:Bd T sc N st=some c):k9 X κ Φ st c:=by
 obtain⟨x,v1,ga⟩:=kW h;obtain⟨⟨l,y⟩,v2,gb⟩:=kW ga;obtain⟨⟨r,e⟩,v3,g⟩:=kW gb;obtain⟨p0,rfl⟩:=xi v1;obtain⟨p1,p2,rfl⟩:=nO v2;obtain⟨p3,p4,rfl⟩:=nO v3;dsimp only at g;split at g
 ·rename_i hc
  simp only[Bool.and_eq_true]at hc;obtain⟨⟨⟨h1,h2⟩,h3⟩,h4⟩:=hc;obtain rfl:=eq_of_beq h1;obtain rfl:=eq_of_beq h2;obtain⟨m,hm,rfl⟩:=bX g;have E:=gG 60 X sc N _ m G hm;exact sy (Aa G.calm (G.gl h3) (G.cR _ (by decide)) (G.gl h4) (G.cR _ (by decide)) (by rw[bV E.2.2];rfl) (E.1 Φ))
 ·cases g
end
section
variable{P:Program}{w:World}{K:PySem.W.Frag}{mg:Str->Option Value}{base:Heap}{T:aX}{k:Nat}
noncomputable def Gs:Stmt->Option Expr
 | .Raise (some e) none _=>some e
 | _=>none
theorem xk{st:Stmt}{x:Expr}(h:Gs st=some x):∃ p,st=.Raise (some x) none p:=by
 cases st with
 | Raise v u p=>
  cases v with
  | none=>cases h
  | some e=>
   cases u with
   | none=>cases h;exact⟨p,rfl⟩
   | some _=>cases h
 | _=>cases h
def sU(T:aX)(sc:Scope)(N:List Str)(C fld:Str)(mv:EM)(st:Stmt):Option SM:=(Gs st).bind fun x=>(Jv x).bind fun u=>
 if u.1 == C && rV sc u.1 && !(isStar u.2) then (cq T 60 sc N u.2).map (fun m=>nN C fld mv m) else none
theorem qT{N:List Str}{qual:Str}{scope:Scope}{f:Addr}{cd:Value}{A:Around}{outer:List Env}{s0:Shared}{H0:Hp}{E:XK}
  {C N0 fI c:Addr} {LM:FuncData} {stI:Stmt} {f7 fld sf pn cn:Str} {ve:Expr} {mv:EM} (D:vm K mg C N0 fI c LM stI f7 fld sf pn ve) (hr:bP (k + 2) (A.deeper (envOfC qual scope s0.heap.objs.size f cd))) (hm:mg cn=some (.ref C)) (hdb:(cn == ("__debug__":Str))=false)
  (G:GoodO (bZ (jz P w) P w K mg base N qual scope f cd A outer s0 H0 E) (bh mg) T k scope N)
  (yH:∀ (A':Around) (ot:List Env) (s':Shared) (e:Addr) (H1:Hp) (E':XK),bP k (A'.deeper (envOfC f7 (af stI) s'.heap.objs.size fI (.ref c)))->bj ((bZ dR P w K mg base [sf,pn] f7 (af stI) fI (.ref c) A' ot s' H1 E').i8.mk1 e) (bh mg) iY ve mv)
  (st:Stmt) (c':SM) (h:sU T scope N cn fld mv st=some c'):k9 (bZ (jz P w) P w K mg base N qual scope f cd A outer s0 H0 E) (bh mg) (ic (bh mg) E) st c':=by
 obtain⟨x,v1,ga⟩:=kW h;obtain⟨⟨l,arg⟩,v2,g⟩:=kW ga;obtain⟨p0,rfl⟩:=xk v1;obtain⟨p1,p2,rfl⟩:=nO v2;dsimp only at g;split at g
 ·rename_i hc
  simp only[Bool.and_eq_true,Bool.not_eq_true']at hc;obtain⟨⟨h1,h2⟩,h3⟩:=hc;obtain rfl:=eq_of_beq h1;obtain⟨m,q,rfl⟩:=bX g;have Ea:=gG 60 _ scope N _ m G q;exact uo D hr (G.gl h2) hm hm (Ea.1 _) yH (by rw[bV h3];rfl) hdb
 ·cases g
end
section
variable{P:Program}{w:World}{K:PySem.W.Frag}{mg:Str->Option Value}{base:Heap}
theorem CN{k:Nat}{f:Addr}{fd:FuncData}{ps:List Str}{κ:Str->Addr->Prop}:bU P w K mg base dR k f fd ps (cL κ (fun _ _=>.bad)):=
 ⟨fun _ _ _ _ ⟨_,_,_,_,_,_,g⟩=>g.elim,fun _ _ _ _ _ _ _ _ _ _ _ _ _ ⟨_,_,_,_,_,_,g⟩=>g.elim⟩
end
section
variable{X:Cx}{κ:Str->Addr->Prop}{T:aX}{k j:Nat}{sc:Scope}{N:List Str}{f:Addr}{fd:FuncData}{ps:List Str}{MG:bg}{E':XK}{x a y:Str}{p pa py cpos pos:Pos}
theorem CO(G:GoodO X κ T k sc N)(F:bU X.prog X.w X.K X.mg X.base (jz X.prog X.w) k f fd ps (l_ κ MG))(hg:rV sc x=true)(hm:X.mg x=some (.ref f))(hk:PySem.W.keepIn X.K (.ref f)=true)(hb:Binds X.K fd ps [])(CM:Passes (jz X.prog X.w) X E')(hdb:(x == ("__debug__":Str))=false)(ha:cq T 60 sc N (.Name a pa)=some (aa j)) :
  bj X κ (ic κ E') (.Call (.Name x p) [.Name a pa] [] cpos) (mN MG (U (aa j) ah)):=
 uq F G.room (G.gl hg) hm hk hb CM hdb rfl rfl (ku ((gG 60 X sc N _ _ G ha).1 _) mY rfl)
theorem Gu{i:Nat}(G:GoodO X κ T k sc N)(F:bU X.prog X.w X.K X.mg X.base (jz X.prog X.w) k f fd ps (l_ κ MG))(hg:rV sc x=true)(hm:X.mg x=some (.ref f))(hk:PySem.W.keepIn X.K (.ref f)=true)(hb:Binds X.K fd ps [])(CM:Passes (jz X.prog X.w) X E')(hdb:(x == ("__debug__":Str))=false)(ha:cq T 60 sc N (.Name a pa)=some (aa j))
  (hN:N.Nodup) (hi:N[i]?=some y) (hy:sc.names.lookup y=some .local):iZ X κ (ic κ E') [.Assign [.Name y py] (.Call (.Name x p) [.Name a pa] [] cpos) pos] (ao (ax i (mN MG (U (aa j) ah))) aj):=
 oZ (sD (by rw[G.names];exact hN) (by rw[G.names];exact hi) (.inl (by rw[G.scope];exact hy)) (.inr (by rw[G.scope];exact hy)) rfl (CO G F hg hm hk hb CM hdb ha)) sx
end
end Mir
namespace Mir
open PySem L2
variable [aA]
section
variable{Ω ak:ay}{ρ:aP}
theorem CP{mc me:EM}{τ:aP}{src:Src}{ds:List D}(I:Nat->List D->ay->Prop)(hs:∀ i acc Ω,I i acc Ω->gT src Ω=some ds)(he:∀ i d acc Ω,ds[i]?=some d->I i acc Ω->∃ y ak,me ([some d]++τ) Ω=.ok y ak/\I (i + 1) (acc++[y]) ak) :
  ∀ (f i:Nat) (acc:List D) Ω,I i acc Ω->ds.length - i < f->i<=ds.length->acc.length + ds.length<=100000 + i->∃ ys ak,sv true mc me 0 τ src f i acc Ω=.ok ys ak/\I ds.length ys ak:=by
 intro f
 induction f with
 | zero=>intro i acc Ω h0 hf;omega
 | succ f ih=>
  intro i acc Ω h0 hf hi ha;simp only[sv,hs i acc Ω h0]
  by_cases hlt:i < ds.length
  ·have hd:ds[i]?=some ds[i]:=List.getElem?_eq_getElem hlt
   rw[hd];have ht:ni 0 ds[i]=some [some ds[i]]:=rfl;obtain⟨y,ag,e1,h1⟩:=he i ds[i] acc Ω hd h0;have hc:ib true mc ([some ds[i]]++τ) Ω=.ok true Ω:=rfl;simp only[ht];rw[if_pos (ba (n:=acc.length + 1) (by omega)),hc]
   dsimp only;rw[e1];dsimp only;exact ih (i + 1) (acc++[y]) ag h1 (by omega) hlt (by rw[List.length_append];simp;omega)
  ·have hd:ds[i]?=none:=List.getElem?_eq_none (by omega)
   rw[hd];have:i=ds.length:=by omega
   subst this;exact⟨acc,Ω,rfl,h0⟩
theorem sV{me mc:EM}{mi:IM}{cap:List Nat}{src:Src}{ds:List D}(I:Nat->List D->ay->Prop)(hi:mi ρ Ω=.ok src ak)(h0:I 0 [] ak)(hs:∀ i acc Ω,I i acc Ω->gT src Ω=some ds)(he:∀ i d acc Ω,ds[i]?=some d->I i acc Ω->∃ y ak,me ([some d]++dc cap ρ) Ω=.ok y ak/\I (i + 1) (acc++[y]) ak)(hl:ds.length<=90000) :
  ∃ ys aw,bq me true mc mi 0 cap ρ Ω=.ok (.ref aw.length) (aw++[.lst ys])/\I ds.length ys aw:=by
 obtain⟨ys,aw,e2,h2⟩:=CP (mc:=mc) I hs he fuel 0 [] ak h0 (by unfold fuel;omega) (Nat.zero_le _) (by simp;omega)
 refine⟨ys,aw,?_,h2⟩;unfold bq;rw[hi];dsimp only;rw[e2];rfl
def Ac(Ω:ay)(j:Nat)(row:List Str):Prop:=Ω[j]?=some (.lst (row.map .str))
def jk(Ω:ay)(js:List Nat)(rs:List (List Str)):Prop:=aK (Ac Ω) js rs
structure Rw(Ω:ay)(k:Nat)(js:List Nat)(rs:List (List Str)):Prop where
 ce:Ω[k]?=some (.lst (js.map .ref))
 al:jk Ω js rs
section
variable{k:Nat}{js:List Nat}{rs:List (List Str)}{row:List Str}{n:Str}
theorem jk.keep:∀ {js:List Nat} {rs:List (List Str)},jk Ω js rs->∀ {fp:List Nat},aq fp Ω ak->(∀ j∈js,j∉fp)->jk ak js rs
 | _,_,.nil,_,_,_=>.nil
 | _,_,.cons r t,fp,K,h=>.cons (K.get _ _ r (h _ (by simp))) (jk.keep t K fun j hj=>h j (by simp[hj]))
theorem Rw.keep(R:Rw Ω k js rs)(K:aq [] Ω ak):Rw ak k js rs:=⟨K.get _ _ R.ce (by simp),R.al.keep K (by simp)⟩
theorem Rw.sW(R:Rw Ω k js rs){fp:List Nat}(K:aq fp Ω ak)(hk:k∉fp)(hj:∀ j∈js,j∉fp):Rw ak k js rs:=⟨K.get _ _ R.ce hk,R.al.keep K hj⟩
theorem jk.len(h:jk Ω js rs):rs.length=js.length:=aK.length h
theorem Rw.len(R:Rw Ω k js rs):rs.length=js.length:=R.al.len
theorem jk.at{i:Nat}{row:List Str}(h:jk Ω js rs)(hr:rs[i]?=some row):∃ j,js[i]?=some j/\Ω[j]?=some (.lst (row.map .str)):=aK.Cg (R:=Ac Ω) h hr
theorem jk.at'{i j:Nat}(h:jk Ω js rs)(hj:js[i]?=some j):∃ row,rs[i]?=some row/\Ω[j]?=some (.lst (row.map .str)):=aK.get (R:=Ac Ω) h hj
theorem jk.lt(h:jk Ω js rs):∀ j∈js,j < Ω.length:=fun j hj=>by
 obtain⟨i,hi⟩:=List.mem_iff_getElem?.mp hj;obtain⟨row,_,h2⟩:=h.at' hi;exact eF h2
theorem kX{js:List Nat}{i:Nat}{d:D}(h:(js.map D.ref)[i]?=some d):∃ j,js[i]?=some j/\d=.ref j:=by
 rw[List.getElem?_map]at h;obtain⟨x,h1,h2⟩:=Option.map_eq_some_iff.mp h;exact⟨x,h1,h2.symm⟩
def Jw:SM:=(ao (dh (m2 (aD .In) (aa 1) (cf (aa 3) false (ae (.int 1)) true (ae .non))) (ao (aW (aa 2)) aj) aj) aj)
def pA:SM:=(ao (cF (ji [2,3]) (ub (aa 0)) Jw) (ao (aW (ae .non)) aj))
theorem xo{j:Nat}(h:Ω[j]?=some (.lst (row.map .str))):ia (.ref j) (some 1) none Ω=.ok (.ref Ω.length) (Ω++[.lst (row.tail.map .str)]):=by
 have e:cW (row.map D.str) (some 1) none=row.tail.map .str:=by
  have:=mT (row.map D.str) 1;rw[show((1:Nat):Int)=1 by rfl]at this
  rw[this,← List.map_drop,List.drop_one]
 simp only[ia,az h,eR,e]
theorem CQ{j i:Nat}(h:Ω[j]?=some (.lst (row.map .str))):∃ ak,aq [] Ω ak/\Jw [some (.ref k),some (.str n),some (.int i),some (.ref j)] Ω=if n∈row.tail then .rt (.int i) ak else .nx [some (.ref k),some (.str n),some (.int i),some (.ref j)] ak:=by
 have hs:=xo h;have g1:(Ω++[Cell.lst (row.tail.map .str)])[Ω.length]?=some (.lst (row.tail.map .str)):=aF;have K1:aq [] Ω (Ω++[Cell.lst (row.tail.map .str)]):=aq.app;generalize Ω++[Cell.lst (row.tail.map .str)]=ag at *;have hi:=xa (w:=n) g1;refine⟨ag,K1,?_⟩
 by_cases hm:n∈row.tail
 ·rw[if_pos hm,decide_eq_true hm]at *
  simp[Jw,hs,hi,-sN]
 ·rw[if_neg hm,decide_eq_false hm]at *
  simp[Jw,hs,hi,-sN]
theorem xq(R:Rw Ω k js rs)(hl:rs.length<=1000):∃ d ak,bB 4 2 pA [.ref k,.str n] Ω=.ok d ak/\aq [] Ω ak/\((d=.non/\∀ r∈rs,n∉r.tail)\/∃ i:Nat,d=.int i/\∃ r,rs[i]?=some r/\n∈r.tail):=by
 rw[bY (by rfl)]
 have e0:aR 4 [D.ref k,.str n]=[some (.ref k),some (.str n),none,none]:=rfl;rw[e0];have hL:=R.len
 have gH:ub (aa 0) [some (.ref k),some (.str n),none,none] Ω=.ok (.Lr (.ref k)) Ω:=by
  unfold ub;simp[az R.ce]
 unfold pA;rw[ai,dN,gH,eQ]
 refine cM (R:=fun r=>∃ d ak,fV (sq r _)=.ok d ak/\aq [] Ω ak/\((d=.non/\∀ r∈rs,n∉r.tail)\/∃ i:Nat,d=.int i/\∃ r,rs[i]?=some r/\n∈r.tail)) (ds:=cX 0 (js.map .ref))
  (fun i ρ aw=>∃ a2 a3,ρ=[some (.ref k),some (.str n),a2,a3]/\(∀ r∈rs.take i,n∉r.tail)/\aq [] Ω aw) ?_ ?_ ?_ fuel 0 _ _ (by rw[iw];unfold fuel;simp;omega) (Nat.zero_le _) ⟨none,none,rfl,by simp,aq.refl⟩
 ·rintro i ρ aw ⟨_,_,_,_,K⟩
  show(eH aw (.ref k)).map (cX 0)=_
  rw[aN,az (R.keep K).ce];rfl
 ·rintro i d ρ aw hd ⟨a2,a3,rfl,hz,K⟩
  obtain⟨d',hd',rfl⟩:=jA _ 0 i d hd;obtain⟨j,hj,rfl⟩:=kX hd';obtain⟨row,hr,hrow⟩:=(R.keep K).al.at' hj;rw[Nat.zero_add];refine⟨[some (.ref k),some (.str n),some (.int i),some (.ref j)],rfl,?_⟩;obtain⟨aV,K3,e⟩:=CQ (k:=k) (n:=n) (i:=i) hrow;rw[e]
  by_cases hm:n∈row.tail
  ·rw[if_pos hm]
   exact⟨.int i,aV,rfl,K.trans K3,.inr ⟨i,rfl,row,hr,hm⟩⟩
  ·rw[if_neg hm]
   refine⟨_,_,rfl,fun r hr' => ?_,K.trans K3⟩
   rw[List.take_succ,hr]at hr';simp at hr';rcases hr' with h | rfl
   ·exact hz r h
   ·exact hm
 ·rintro ρ aw ⟨a2,a3,rfl,hz,K⟩
  rw[iw,List.length_map,← hL,List.take_length]at hz;exact⟨.non,aw,rfl,K,.inl ⟨rfl,hz⟩⟩
def Gv(PB:bg):SM:=(ao (dh (eI (aa 1) (m2 (aD .Is) (mN (aL PB) (U (aa 0) (U (m2 aM (aa 1) (ae (.int 0))) ah))) (ae .non))) (ao (aW (m2 aM (aa 1) (ae (.int 0)))) aj) aj) aj)
def Ad(PB:bg):SM:=(ao (cF (bA 1) (bf (aa 0)) (Gv PB)) (ao (aW (ae .non)) aj))
theorem gI{j:Nat}{ds:List D}(h:Ω[j]?=some (.lst ds)):eV Ω (.ref j)=some (!ds.isEmpty):=by simp only[eV,h]
theorem CS{j:Nat}(R:Rw Ω k js rs)(hl:rs.length<=1000)(h:Ω[j]?=some (.lst (row.map .str))):∃ ak,aq [] Ω ak/\Gv (bB 4 2 pA) [some (.ref k),some (.ref j)] Ω=match freeOf rs row with | some m=>.rt (.str m) ak | none=>.nx [some (.ref k),some (.ref j)] ak:=by
 cases row with
 | nil=>
  have ht:=gI h;refine⟨Ω,aq.refl,?_⟩;simp[Gv,freeOf,ht]
 | cons m t=>
  have ht:=gI h;have ht:eV Ω (.ref j)=some true:=ht;have hix:aM (.ref j) (.int 0) Ω=.ok (.str m) Ω:=bH h (L2.bK (j:=0) rfl);obtain⟨d,ag,e1,K1,hc⟩:=xq (n:=m) R hl;have h1:=K1.get _ _ h (by simp)
  have LR:aM (.ref j) (.int 0) ag=.ok (.str m) ag:=bH h1 (L2.bK (j:=0) rfl);refine⟨ag,K1,?_⟩;generalize bB 4 2 pA=PB at *;rcases hc with ⟨rfl,hz⟩ | ⟨i,rfl,r,hr,hz⟩
  ·rw[cP (by rintro⟨r,hr,hm⟩;exact hz r hr hm)]
   simp[Gv,ht,hix,e1,LR]
  ·rw[dZ ⟨r,List.mem_of_getElem? hr,hz⟩]
   simp[Gv,ht,hix,e1]
theorem CT(R:Rw Ω k js rs)(hl:rs.length<=1000):∃ ak,bB 2 1 (Ad (bB 4 2 pA)) [.ref k] Ω=.ok (wa (free rs)) ak/\aq [] Ω ak:=by
 rw[bY (by rfl)]
 have e0:aR 2 [D.ref k]=[some (.ref k),none]:=rfl;rw[e0];have hL:=R.len;have gH:bf (aa 0) [some (.ref k),none] Ω=.ok (.seq (.ref k)) Ω:=by simp[bc (x:=.ref k) (by rw[aN,az R.ce])]
 unfold Ad;rw[ai,dN,gH,eQ]
 refine cM (R:=fun r=>∃ ak,fV (sq r _)=.ok (wa (free rs)) ak/\aq [] Ω ak) (ds:=js.map .ref)
  (fun i ρ aw=>∃ a1,ρ=[some (.ref k),a1]/\(rs.take i).findSome? (freeOf rs)=none/\aq [] Ω aw) ?_ ?_ ?_ fuel 0 _ _ (by unfold fuel;simp;omega) (Nat.zero_le _) ⟨none,rfl,rfl,aq.refl⟩
 ·rintro i ρ aw ⟨_,_,_,K⟩
  rw[cx,aN,az (R.keep K).ce]
 ·rintro i d ρ aw hd ⟨a1,rfl,hz,K⟩
  obtain⟨j,hj,rfl⟩:=kX hd;have R2:=R.keep K;obtain⟨row,hr,hrow⟩:=R2.al.at' hj;refine⟨[some (.ref k),some (.ref j)],rfl,?_⟩;obtain⟨aV,K3,e⟩:=CS R2 hl hrow;rw[e];have ht:rs.take (i + 1)=rs.take i++[row]:=by rw[List.take_succ,hr];rfl
  cases hf:freeOf rs row with
  | some m=>
   refine⟨aV,?_,K.trans K3⟩
   have:free rs=some m:=by
    unfold free
    have hd:rs=rs.take i++(row::rs.drop (i + 1)):=by
     have hlt:i < rs.length:=(List.getElem?_eq_some_iff.mp hr).1;rw[List.getElem?_eq_getElem hlt]at hr;cases hr;rw[← List.drop_eq_getElem_cons hlt,List.take_append_drop]
    conv=>lhs;arg 2;rw[hd]
    rw[List.findSome?_append,hz,List.findSome?_cons,hf];rfl
   rw[this];rfl
  | none=>
   refine⟨_,rfl,?_,K.trans K3⟩;rw[ht,List.findSome?_append,hz,List.findSome?_cons,hf];rfl
 ·rintro ρ aw ⟨a1,rfl,hz,K⟩
  rw[List.length_map,← hL,List.take_length]at hz;refine⟨aw,?_,K⟩;unfold free;rw[hz];rfl
end
end
section
variable{Ω ak:ay}{ρ:aP}{k:Nat}{js:List Nat}{rs:List (List Str)}{row:List Str}{n:Str}
theorem jk.snoc{j:Nat}(h:jk Ω js rs)(h1:Ω[j]?=some (.lst (row.map .str))):jk Ω (js++[j]) (rs++[row]):=aK.append (R:=Ac Ω) h (.cons h1 .nil)
theorem gQ{ds:List D}(h:Ω[k]?=some (.lst ds)):aZ .list [.ref k] Ω=.ok (.ref Ω.length) (Ω++[.lst ds]):=by
 show oS [.ref k] Ω=_
 simp only[oS,aN,az h];rfl
theorem iN{me mc:EM}{mi:IM}{cap:List Nat}{f:List Str->List Str}{P:Nat->Prop}(hi:mi ρ Ω=.ok (.seq (.ref k)) Ω)(R:Rw Ω k js rs)(hl:rs.length<=1000)
  (he:∀ j row ag,aq [] Ω ag->j∈js->row∈rs->ag[j]?=some (.lst (row.map .str))->∃ j' aw,me ([some (.ref j)]++dc cap ρ) ag=.ok (.ref j') aw/\aq [] ag aw/\aw[j']?=some (.lst ((f row).map .str))/\P j') :
  ∃ fO aw,bq me true mc mi 0 cap ρ Ω=.ok (.ref aw.length) (aw++[.lst (fO.map .ref)])/\aq [] Ω aw/\jk aw fO (rs.map f)/\∀ j∈fO,P j:=by
 have hL:=R.len
 obtain⟨ys,aw,e,fO,rfl,h1,h2,h3⟩:=sV (me:=me) (mc:=mc) (cap:=cap) (ds:=js.map .ref) (fun i acc aw=>∃ fO,acc=fO.map .ref/\jk aw fO ((rs.take i).map f)/\aq [] Ω aw/\∀ j∈fO,P j) hi ⟨[],rfl,.nil,aq.refl,by simp⟩
  (fun i acc aw h=>by
   obtain⟨_,_,_,K,_⟩:=h;rw[cx,aN,az (R.keep K).ce])
  (fun i d acc ag hd h=>by
   obtain⟨fO,rfl,h1,K,h3⟩:=h;obtain⟨j,hj,rfl⟩:=kX hd;obtain⟨row,hr,hrow⟩:=(R.keep K).al.at' hj;obtain⟨j',aw,e,K2,h4,h5⟩:=he j row ag K (List.mem_of_getElem? hj) (List.mem_of_getElem? hr) hrow;refine⟨.ref j',aw,e,fO++[j'],by simp,?_,K.trans K2,?_⟩
   ·rw[List.take_succ,hr,List.map_append]
    exact(h1.keep K2 (by simp)).snoc h4
   ·intro x hx
    rcases List.mem_append.mp hx with h | h
    ·exact h3 x h
    ·rw[List.mem_singleton.mp h];exact h5) (by simp;omega)
 refine⟨fO,aw,e,h2,?_,h3⟩;rw[List.length_map,← hL,List.take_length]at h1;exact h1
def kY(i:Nat):EM:=bq (mN (aZ .list) (U (aa 0) ah)) true (ae .non) (bf (aa i)) 0 []
theorem nP{i:Nat}(hi:ρ[i]?=some (some (.ref k)))(R:Rw Ω k js rs)(hl:rs.length<=1000):∃ fO k' ak,kY i ρ Ω=.ok (.ref k') ak/\aq [] Ω ak/\Rw ak k' fO rs/\(∀ j∈fO,Ω.length<=j)/\Ω.length<=k'/\k'∉fO:=by
 have gH:bf (aa i) ρ Ω=.ok (.seq (.ref k)) Ω:=by
  rw[cw,jL,hi,sH,aO];exact bc (by rw[aN,az R.ce])
 obtain⟨fO,aw,e,K,h1,h2⟩:=iN (me:=mN (aZ .list) (U (aa 0) ah)) (mc:=ae .non) (cap:=[]) (f:=fun r=>r) (P:=fun j=>Ω.length<=j) gH R hl (fun j row ag K _ _ h=>by
  refine⟨ag.length,ag++[.lst (row.map .str)],?_,aq.app,aF,K.len⟩;have:=gQ h;simp[dc,this])
 rw[List.map_id']at h1;refine⟨fO,aw.length,_,e,K.trans aq.app,⟨aF,h1.keep (fp:=[]) aq.app (by simp)⟩,h2,K.len,fun h => ?_⟩
 have:=h1.lt _ h;omega
def stC:EM:=(A4 (m2 (aD .Eq) (cf (aa 0) true (ae .non) false (ae (.int 1))) (mN cQ (U (aa 1) ah))) (cf (aa 0) false (ae (.int 1)) true (ae .non)) (aa 0))
theorem CU{j:Nat}(h:Ω[j]?=some (.lst (row.map .str))):ia (.ref j) none (some 1) Ω=.ok (.ref Ω.length) (Ω++[.lst ((row.take 1).map .str)]):=nL (n:=1) h
theorem CV{j:Nat}(h:Ω[j]?=some (.lst (row.map .str))):∃ j' ak,stC [some (.ref j),some (.str n)] Ω=.ok (.ref j') ak/\aq [] Ω ak/\ak[j']?=some (.lst ((br n row).map .str))/\(j'=j\/Ω.length<=j'):=by
 have s1:=CU h;have g1:(Ω++[Cell.lst ((row.take 1).map .str)])[Ω.length]?=some (.lst ((row.take 1).map .str)):=aF;have K1:aq [] Ω (Ω++[Cell.lst ((row.take 1).map .str)]):=aq.app;generalize Ω++[Cell.lst ((row.take 1).map .str)]=ag at *;have g2:(ag++[Cell.lst [.str n]])[ag.length]?=some (.lst ([n].map .str)):=aF;have K2:aq [] ag (ag++[Cell.lst [.str n]]):=aq.app;have Ae:=K2.get _ _ g1 (by simp)
 have h2:=K2.get _ _ (K1.get _ _ h (by simp)) (by simp)
 have hq:=z9 Ae g2
 have e0:(m2 (aD .Eq) (cf (aa 0) true (ae .non) false (ae (.int 1))) (mN cQ (U (aa 1) ah))) [some (.ref j),some (.str n)] Ω=.ok (.bl (decide (row.take 1=[n]))) (ag++[Cell.lst [.str n]]):=by
  simp[s1,ba,hq,-nG]
 generalize ag++[Cell.lst [.str n]]=aw at *;have K:=K1.trans K2;have s2:=xo h2;unfold stC;rw[qP,e0,jO,c9,jN,aO]
 by_cases hq:row.take 1=[n]
 ·rw[if_pos (by rw[decide_eq_true hq])]
  refine⟨aw.length,aw++[.lst (row.tail.map .str)],?_,K.trans aq.app,?_,.inr K.len⟩
  ·simp[s2]
  ·unfold br;rw[if_pos hq];exact aF
 ·rw[if_neg (by rw[decide_eq_false hq];simp)]
  refine⟨j,aw,by simp,K,?_,.inl rfl⟩
  unfold br;rw[if_neg hq];exact h2
def FnAt(FN:bg):Prop:=∀ Ω k js rs,Rw Ω k js rs->rs.length<=1000->∃ ak,FN [.ref k] Ω=.ok (wa (free rs)) ak/\aq [] Ω ak
theorem Be:FnAt (bB 2 1 (Ad (bB 4 2 pA))):=fun _ _ _ _ R hl=>CT R hl
def tM:EM:=(mN (aZ .any) (U (aa 1) ah))
def stM:EM:=(bq stC true (ae .non) (bf (aa 1)) 0 [3])
def bM(st:SM)(FN:bg):SM:=(ao (ax 3 (mN (aL FN) (U (aa 1) ah)))
 (ao (dh (m2 (aD .Is) (aa 3) (ae .non))
 (ao st
 aj)
 aj)
 (ao (ft (bE eY bu (aa 2) (U (aa 3) ah)))
 (ao (ax 1 stM)
 aj))))
def uv(st:SM)(FN:bg):SM:=
 (ao (ax 1 (kY 0))
 (ao (ax 2 (mN cQ ah))
 (ao (kI tM (bM st FN))
 (ao (aW (aa 2))
 aj))))
theorem jT(R:Rw Ω k js rs):aZ .any [.ref k] Ω=.ok (.bl ((rs.map fun r => !r.isEmpty).any id)) Ω:=by
 show kB .any [.ref k] Ω=_
 unfold kB;rw[jP];have h:=xb (n:=6) (rs:=js) (L:=rs) R.ce R.al;have:bD (d0 Ω 8) [.ref k]=some [LL rs]:=by simp[h]
 rw[this,sM];have:oU .any [LL rs]=.ok (false,.bl ((rs.map fun r => !r.isEmpty).any id)):=by simp[LL,any_rows,-List.any_map]
 rw[this,w8]
theorem Bf{st:SM}{FN:bg}(hF:FnAt FN){R0:D}{q:Nat}{a3:Option D}{pre:List Str}(R:Rw Ω k js rs)(hr:rs.length<=1000)(hf:free rs=some n)(hq:Ω[q]?=some (.lst (pre.map .str)))(Gw:q≠k)(Bg:q∉js)(hp:pre.length<=900) :
  ∃ k' fO ak,bM st FN [some R0,some (.ref k),some (.ref q),a3] Ω=.nx [some R0,some (.ref k'),some (.ref q),some (.str n)] ak/\Rw ak k' fO (rs.map (br n))/\ak[q]?=some (.lst ((pre++[n]).map .str))/\q≠k'/\q∉fO/\aq [q] Ω ak:=by
 obtain⟨ag,e1,K1⟩:=hF Ω k js rs R hr;rw[hf]at e1;have q1:=K1.get _ _ hq (by simp)
 have R1:=R.keep K1;have hap:=dm (d:=.str n) q1 (by simp;omega)
 have hL:=cJ q1;have K2:aq [q] ag (ag.set q (.lst (pre.map .str++[.str n]))):=aq.set (by simp)
 have q2:(ag.set q (.lst (pre.map .str++[.str n])))[q]?=some (.lst ((pre++[n]).map .str)):=by rw[cB q1];simp
 generalize ag.set q (.lst (pre.map .str++[.str n]))=aw at *;have R2:Rw aw k js rs:=R1.sW K2 (by simpa using Ne.symm Gw) (fun j hj h=>Bg (by rw[← List.mem_singleton.mp h];exact hj))
 have gH:bf (aa 1) [some R0,some (.ref k),some (.ref q),some (.str n)] aw=.ok (.seq (.ref k)) aw:=by
  rw[cw];exact bc (by rw[aN,az R2.ce])
 have ql:=eF q2
 obtain⟨fO,aV,e3,K3,h3,h4⟩:=iN (ρ:=[some R0,some (.ref k),some (.ref q),some (.str n)]) (me:=stC) (mc:=ae .non) (cap:=[3]) (f:=br n) (P:=fun j=>j≠q) gH R2 hr (fun j row aV K hj _ h=>by
  obtain⟨j',eX,e,K4,h4,h5⟩:=CV (n:=n) h;refine⟨j',eX,e,K4,h4,?_⟩;rcases h5 with rfl | h5
  ·exact fun z=>Bg (z▸hj)
  ·have:=K.len
   omega)
 have Ob:=K3.len;refine⟨aV.length,fO,aV++[.lst (fO.map .ref)],?_,⟨aF,h3.keep (fp:=[]) aq.app (by simp)⟩,sQ (K3.get _ _ q2 (by simp)),by omega,fun h=>h4 q h rfl,?_⟩
 ·have e3':stM [some R0,some (.ref k),some (.ref q),some (.str n)] aw=.ok (.ref aV.length) (aV++[.lst (fO.map .ref)]):=e3
  have r1:(ax 3 (mN (aL FN) (U (aa 1) ah))) [some R0,some (.ref k),some (.ref q),a3] Ω=.nx [some R0,some (.ref k),some (.ref q),some (.str n)] ag:=by simp[e1,wa]
  have r2:(dh (m2 (aD .Is) (aa 3) (ae .non)) (ao st aj) aj) [some R0,some (.ref k),some (.ref q),some (.str n)] ag=.nx [some R0,some (.ref k),some (.ref q),some (.str n)] ag:=by simp
  have r3:(ft (bE eY bu (aa 2) (U (aa 3) ah))) [some R0,some (.ref k),some (.ref q),some (.str n)] ag=.nx [some R0,some (.ref k),some (.ref q),some (.str n)] aw:=by
   rw[fN,da (x:=.ref q) (ak:=ag) (by simp) hL]
   simp[hap]
  unfold bM;rw[ai,r1,aJ,ai,r2,aJ,ai,r3,aJ,ai,cu,e3'];rfl
 ·exact((kS.up K1).trans K2).trans (kS.up (K3.trans aq.app))
theorem xr{st:SM}{FN:bg}(hF:FnAt FN){R0:D}{rs:List (List Str)}{o:List Str}(M:Mg rs o) :
  ∀ (Ω:ay) (pre:List Str) (q k:Nat) (js:List Nat) (a3:Option D) (m:Nat),Rw Ω k js rs->Ω[q]?=some (.lst (pre.map .str))->q≠k->q∉js->rs.length<=1000->pre.length + o.length<=900->o.length < m ->
   ∃ a1 pB ak,c7 tM (bM st FN) m [some R0,some (.ref k),some (.ref q),a3] Ω=.nx [some R0,a1,some (.ref q),pB] ak/\ak[q]?=some (.lst ((pre++o).map .str))/\aq [q] Ω ak:=by
 induction M with
 | @done rs h=>
  intro Ω pre q k js a3 m R hq _ _ _ _ hm;obtain⟨m,rfl⟩:∃ k,m=k + 1:=⟨m - 1,by simp at hm;omega⟩
  refine⟨some (.ref k),a3,Ω,?_,by rw[List.append_nil];exact hq,aq.refl⟩
  have e:=jT R;rw[any_false h]at e;have e':tM [some R0,some (.ref k),some (.ref q),a3] Ω=.ok (.bl false) Ω:=by simp[tM,e]
  simp only[c7,e'];rfl
 | @step rs n o h hf _ ih=>
  intro Ω pre q k js a3 m R hq Gw Bg hr hp hm;obtain⟨m,rfl⟩:∃ k,m=k + 1:=⟨m - 1,by simp at hm;omega⟩
  rw[List.length_cons]at hp hm;obtain⟨k',fO,ag,e1,R1,q1,h1,h2,K1⟩:=Bf (st:=st) hF (R0:=R0) (a3:=a3) R hr hf hq Gw Bg (by omega)
  obtain⟨a1,pB,aw,e2,q2,K2⟩:=ih ag (pre++[n]) q k' fO (some (.str n)) m R1 q1 h1 h2 (by simpa using hr) (by simp;omega) (by omega)
  refine⟨a1,pB,aw,?_,by rw[q2];simp,K1.trans K2⟩
  have e:=jT R;rw[any_true h]at e;have e':tM [some R0,some (.ref k),some (.ref q),a3] Ω=.ok (.bl true) Ω:=by simp[tM,e]
  simp only[c7,e']
  show(match bM st FN [some R0,some (.ref k),some (.ref q),a3] Ω with | .nx bL ak=>c7 tM (bM st FN) m bL ak | .ct bL ak=>c7 tM (bM st FN) m bL ak | .bk bL ak=>.nx bL ak | r=>r)=_
  rw[e1];exact e2
def CW(MG:bg):Prop:=∀ (Ω:ay) (k:Nat) (js:List Nat) (rs:List (List Str)) (o:List Str),Rw Ω k js rs->Mg rs o->rs.length<=1000->o.length<=900->∃ q ak,MG [.ref k] Ω=.ok (.ref q) ak/\ak[q]?=some (.lst (o.map .str))/\Ω.length<=q/\aq [] Ω ak
theorem Gx{st:SM}{FN:bg}(hF:FnAt FN):CW (bB 4 1 (uv st FN)):=by
 intro Ω k js rs o R M hr ho;rw[bY (by rfl)]
 have e0:aR 4 [D.ref k]=[some (.ref k),none,none,none]:=rfl;rw[e0];obtain⟨fO,k',ag,e1,K1,R1,h1,h2,h3⟩:=nP (ρ:=[some (.ref k),none,none,none]) (i:=0) rfl R hr;have r1:(ax 1 (kY 0)) [some (.ref k),none,none,none] Ω=.nx [some (.ref k),some (.ref k'),none,none] ag:=by rw[cu,e1];rfl
 have K2:aq [] ag (ag++[Cell.lst []]):=aq.app;have q2:(ag++[Cell.lst []])[ag.length]?=some (.lst (([]:List Str).map .str)):=aF;have r2:(ax 2 (mN cQ ah)) [some (.ref k),some (.ref k'),none,none] ag=.nx [some (.ref k),some (.ref k'),some (.ref ag.length),none] (ag++[Cell.lst []]):=by simp[ba]
 have lk:=eF R1.ce;have lj:=R1.al.lt;obtain⟨a1,a3,aV,e3,q3,K3⟩:=xr (st:=st) hF (R0:=.ref k) M (ag++[Cell.lst []]) [] ag.length k' fO none fuel (R1.keep K2) q2 (by omega) (fun h=>by have:=lj _ h;omega) hr (by simpa using ho) (by unfold fuel;omega)
 refine⟨ag.length,aV,?_,q3,K1.len,aq.new (K1.trans K2) K3 (by simpa using K1.len)⟩
 unfold uv;rw[ai,r1,aJ,ai,r2,aJ,ai];unfold kI;rw[e3];rfl
end
theorem Af:∃ μ,dC μ (pureOf (bB 8 3 l9)):=by
 have h:∀ c t m:Int,∃ r,0<=t->t < 100000->0 < m->0<=r/\r < m/\pureOf (bB 8 3 l9) [.int c,.int t,.int m]=.ok (false,.int r):=fun c t m=>by
  by_cases hh:0<=t/\t < 100000/\0 < m
  ·obtain⟨r,h1,h2,h3⟩:=z6 (c:=c) hh.1 hh.2.1 hh.2.2
   exact⟨r,fun _ _ _=>⟨h1,h2,h3⟩⟩
  ·exact⟨0,fun a b c=>absurd ⟨a,b,c⟩ hh⟩
 exact⟨fun c t m=>(h c t m).choose,fun c t m=>(h c t m).choose_spec⟩
def nQ:SM:=
 (ao (dh (m2 (aD .Lt) (aa 1) (mN (aZ .len) (U (aa 0) ah)))
 (ao (aW (m2 aM (aa 0) (aa 1)))
 aj)
 aj)
 (ao (aW (ae (.int 0)))
 aj))
theorem Gy(ns:List Int):CG (SC ns)=true:=by
 show(ns.map D.int).all eM=true
 rw[List.all_eq_true];intro d hd;obtain⟨i,_,rfl⟩:=List.mem_map.mp hd;rfl
theorem xu:mV (fun ns k=>ns.getD k 0) (pureOf (bB 2 2 nQ)):=by
 intro ns k
 have hpl:[SC ns,D.int k].all CG=true:=by
  simp only[List.all_cons,Gy,List.all_nil];rfl
 have e0:aR 2 [SC ns,D.int k]=[some (SC ns),some (.int k)]:=rfl
 have hlen:aZ .len [SC ns] []=.ok (.int ns.length) []:=by
  show av.ok (D.int ((ns.map D.int).length:Nat)) []=_
  rw[List.length_map]
 refine l7 (ak:=[]) hpl ?_ rfl;rw[bY (by rfl),e0]
 by_cases h:k < ns.length
 ·have hi:(k:Int) < (ns.length:Int):=by omega
  have e:L2.i_ (ns.map D.int) (k:Int)=some (.int (ns.getD k 0)):=L2.bK (by simp[h])
  have hx:aM (SC ns) (.int k) []=.ok (.int (ns.getD k 0)) []:=by
   unfold aM;rw[gO,gO,jS]
   show k7 (ixs [] (some (ns.map D.int)) (.int k)) _=_
   rw[qQ e];rfl
  simp[nQ,hlen,hi,hx,-List.getD_eq_getElem?_getD]
 ·have hi:¬ (k:Int) < (ns.length:Int):=by omega
  have e:ns.getD k 0=0:=by rw[List.getD_eq_getElem?_getD,List.getElem?_eq_none (by omega)];rfl
  show _=av.ok (D.int (ns.getD k 0)) []
  rw[e];simp[nQ,hlen,hi]
section
variable{Ω ak:ay}{ρ:aP}{F:List D->Out Rs}{μ:Int->Int->Int->Int}{c:Int}{m:Nat}
def xv:SM:=(ao (ax 8 (m2 (aI .Add) (aa 8) (m2 aM (aa 2) (m2 (aI .Mod) (m2 (aI .Add) (m2 aM (aa 4) (aa 9)) (m2 (aI .Mult) (aa 3) (mN (aZ .int) (U (m2 (aD .Eq) (aa 9) (aa 6)) ah)))) (ae (.int 26))))))
 aj)
def jC:EM:=(bq (m2 aM (aa 1) (aa 0)) true (ae .non) (bf (cf (aa 4) true (ae .non) false (m2 (aI .Add) (aa 3) (ae (.int 1))))) 0 [2])
def jI(F:List D->Out Rs):SM:=(dh (eI (m2 (aD .Eq) (mN (aU F) (U (aa 0) (U (ae (.int 10)) (U (ae (.int 4)) ah)))) (ae (.int 1))) (m2 (aD .Lt) (aa 1) (ae (.int 9))))
 (ao (ax 8 (bE wt kG (ae (.str "")) (U jC ah)))
 aj)
 aj)
def pC(F:List D->Out Rs):SM:=
 (ao (ax 8 (ae (.str "")))
 (ao (cF (bA 9) (bG (U (aa 5) ah)) xv)
 (ao (jI F)
 (ao (ft (bE eY bu (aa 7) (U (aa 8) ah)))
 aj))))
def Gz(F:List D->Out Rs):EM:=(bq (mN (aU F) (U (aa 1) (U (aa 0) (U (ae (.int 26)) ah)))) true (ae .non) (bG (U (ae (.int 8)) ah)) 0 [0])
def Ag(F:List D->Out Rs):SM:=
 (ao (ax 2 (ae (.str "abcdefghijklmnopqrstuvwxyz")))
 (ao (ax 4 (Gz F))
 (ao (ax 5 (m2 (aI .Add) (ae (.int 1)) (mN (aU F) (U (aa 0) (U (ae (.int 8)) (U (ae (.int 8)) ah))))))
 (ao (ax 6 (mN (aU F) (U (aa 0) (U (ae (.int 9)) (U (aa 5) ah)))))
 (ao (ax 7 (mN cQ ah))
 (ao (cF (bA 3) (bG (U (aa 1) ah)) (pC F))
 (ao (ax 10 (mN (aU F) (U (aa 0) (U (ae (.int 11)) (U (aa 1) ah)))))
 (ao (aW (m2 (aI .Add) (cf (aa 7) false (aa 10) true (ae .non)) (cf (aa 7) true (ae .non) false (aa 10))))
 aj))))))))
abbrev NV(c:Int)(m k b sz at' q:Nat)(a8 a9:Option D):aP:=[some (.int c),some (.int m),some (.str abc),some (.int k),some (.ref b),some (.int sz),some (.int at'),some (.ref q),a8,a9,none]
theorem CY(hμ:dC μ F){k at' sz i b q:Nat}{z:Str}(hb:Ω[b]?=some (.lst (bs μ c)))(hk:k < 1000)(hi:i < 8)(hz:z.length<=100) :
  xv (NV c m k b sz at' q (some (.str z)) (some (.int i))) Ω=.nx (NV c m k b sz at' q (some (.str (z++gc (97 + ((μ c i 26 + if i=at' then (k:Int) else 0) % 26).toNat)))) (some (.int i))) Ω:=by
 have e:L2.i_ (bs μ c) (i:Int)=some (.int (μ c i 26)):=L2.bK (by simp[bs,hi])
 have hx1:=bH hb e;have h64:lx (k:Int)=true:=jB (by omega) (by omega)
 have hs:∀ q,small (z.length + (gc q).length)=true:=fun q=>ba (by rw[kn];omega)
 have hx:=sd (q:=(μ c i 26 + if i=at' then (k:Int) else 0) % 26) (Int.emod_nonneg _ (by omega)) (Int.emod_lt_of_pos _ (by omega))
 have hmul:(k:Int) * (if ((i:Int) == (at':Int))=true then 1 else 0)=if i=at' then (k:Int) else 0:=by
  by_cases h:i=at'
  ·subst h;simp
  ·have:((i:Int) == (at':Int))=false:=by simp;omega
   rw[this];simp[h]
 have r1:(mN (aZ .int) (U (m2 (aD .Eq) (aa 9) (aa 6)) ah)) (NV c m k b sz at' q (some (.str z)) (some (.int i))) Ω=.ok (.int (if ((i:Int) == (at':Int))=true then 1 else 0)) Ω:=by
  have:aZ .int [.bl ((i:Int) == (at':Int))] Ω=.ok (.int (if ((i:Int) == (at':Int))=true then 1 else 0)) Ω:=by
   show kB .int [.bl ((i:Int) == (at':Int))] Ω=_
   unfold kB;rw[jP];simp
  simp[NV,-beq_iff_eq]at this ⊢;exact this
 have r2:(m2 (aI .Mult) (aa 3) (mN (aZ .int) (U (m2 (aD .Eq) (aa 9) (aa 6)) ah))) (NV c m k b sz at' q (some (.str z)) (some (.int i))) Ω=.ok (.int (if i=at' then (k:Int) else 0)) Ω:=by
  rw[c8,show aa 3 (NV c m k b sz at' q (some (.str z)) (some (.int i))) Ω=.ok (.int k) Ω from rfl,aO,r1,aO,← hmul]
  generalize (if ((i:Int) == (at':Int))=true then (1:Int) else 0)=u
  simp[h64]
 have r3:(m2 (aI .Add) (m2 aM (aa 4) (aa 9)) (m2 (aI .Mult) (aa 3) (mN (aZ .int) (U (m2 (aD .Eq) (aa 9) (aa 6)) ah)))) (NV c m k b sz at' q (some (.str z)) (some (.int i))) Ω=.ok (.int (μ c i 26 + if i=at' then (k:Int) else 0)) Ω:=by
  rw[c8,show m2 aM (aa 4) (aa 9) (NV c m k b sz at' q (some (.str z)) (some (.int i))) Ω=.ok (.int (μ c i 26)) Ω from hx1,aO,r2,aO]
  simp
 generalize (μ c i 26 + if i=at' then (k:Int) else 0)=u at *
 have r4:(m2 aM (aa 2) (m2 (aI .Mod) (m2 (aI .Add) (m2 aM (aa 4) (aa 9)) (m2 (aI .Mult) (aa 3) (mN (aZ .int) (U (m2 (aD .Eq) (aa 9) (aa 6)) ah)))) (ae (.int 26)))) (NV c m k b sz at' q (some (.str z)) (some (.int i))) Ω=.ok (.str (gc (97 + (u % 26).toNat))) Ω:=by
  rw[c8,show aa 2 (NV c m k b sz at' q (some (.str z)) (some (.int i))) Ω=.ok (.str abc) Ω from rfl,aO,c8,r3]
  simp[hx]
 generalize (97 + (u % 26).toNat)=v at *;have hs':=hs v;unfold xv;rw[ai,cu,c8,show aa 8 (NV c m k b sz at' q (some (.str z)) (some (.int i))) Ω=.ok (.str z) Ω from rfl,aO,r4,aO]
 simp[hs']
theorem xy(hμ:dC μ F){k at' sz b q:Nat}{a9:Option D}(hb:Ω[b]?=some (.lst (bs μ c)))(hk:k < 1000)(hsz:sz<=8)(hat:at' < sz) :
  ∃ (z:Str) (nU:Option D),z.length=sz/\z.cps.toList[at']?=some (97 + ((μ c at' 26 + k) % 26).toNat) /\
   eO (bA 9) (.ints 0 sz) xv fuel 0 (NV c m k b sz at' q (some (.str "")) a9) Ω=.nx (NV c m k b sz at' q (some (.str z)) nU) Ω:=by
 refine cM (R:=fun r=>∃ (z:Str) (nU:Option D),z.length=sz/\z.cps.toList[at']?=some (97 + ((μ c at' 26 + k) % 26).toNat)/\r=.nx (NV c m k b sz at' q (some (.str z)) nU) Ω) (ds:=intsFrom 0 sz)
  (fun i ρ aw=>∃ (z:Str) (nU:Option D),z.length=i/\(at' < i->z.cps.toList[at']?=some (97 + ((μ c at' 26 + k) % 26).toNat))/\ρ=NV c m k b sz at' q (some (.str z)) nU/\aw=Ω) (fun _ _ _ _=>rfl) ?_ ?_ fuel 0 _ _ (by rw[cp];unfold fuel;omega) (Nat.zero_le _) ⟨"",a9,by decide,fun h=>by omega,rfl,rfl⟩
 ·rintro i d ρ aw hd ⟨z,nU,hz,pD,rfl,rfl⟩
  obtain⟨rfl,hlt⟩:=dI hd;rw[show(0:Int) + (i:Int)=(i:Int) by omega]
  refine⟨NV c m k b sz at' q (some (.str z)) (some (.int i)),rfl,?_⟩;rw[CY hμ hb hk (by omega) (by omega)]
  refine⟨_,_,by rw[Str.length_append,kn];omega,fun hai => ?_,rfl,rfl⟩
  rw[Str.cps_append,Array.toList_append]
  by_cases ha:at' < i
  ·rw[List.getElem?_append_left (by rw[← str_len];omega)]
   exact pD ha
  ·obtain rfl:at'=i:=by omega
   rw[List.getElem?_append_right (by rw[← str_len];omega),← str_len,hz,Nat.sub_self,if_pos rfl]
   rfl
 ·rintro ρ aw ⟨z,nU,hz,pD,rfl,rfl⟩
  rw[cp]at hz pD;exact⟨z,nU,hz,pD hat,rfl⟩
theorem join_ones(f:Nat->Nat)(k:Nat)(hk:k < 1000):∃ S:Str,S.length=k + 1/\mL .join (.str "") (.tup [L1 ((List.range (k + 1)).map fun i=>gc (f i))])=.ok (false,.str S):=by
 let ys:List Str:=(List.range (k + 1)).map fun (i:Nat)=>gc (f i)
 have gen:∀ xs:List Str,fP (xs.map .str)=some xs:=fun xs=>by
  induction xs with
  | nil=>rfl
  | cons x xs ih=>simp[fP,ih]
 have hst:=gen ys;have hyl:ys.length=k + 1:=by simp[ys]
 have hsum:(ys.map (·.length)).sum=k + 1:=by
  have:ys.map (·.length)=List.replicate ys.length 1:=by
   apply List.eq_replicate_iff.mpr;refine⟨by simp,fun b hb => ?_⟩
   obtain⟨y,hy,rfl⟩:=List.mem_map.mp hb;obtain⟨i,_,rfl⟩:=List.mem_map.mp hy;exact kn
  rw[this,hyl];simp
 have hjl:(Txt.join "" ys).length=k + 1:=by
  show(Builtin.Str.glued "" ys).length=_
  rw[size_glued,hsum,show("":Str).length=0 by decide];simp
 refine⟨Txt.join "" ys,hjl,?_⟩
 show mL .join (.str "") (.tup [.lst (ys.map .str)])=_
 unfold mL;simp only[hst];rw[if_pos];rw[Bool.and_eq_true,decide_eq_true_eq,decide_eq_true_eq];exact⟨by decide,by omega⟩
theorem GA(hμ:dC μ F){k at' sz b q:Nat}{z:Str}{a9:Option D}(hb:Ω[b]?=some (.lst (bs μ c)))(hm:m<=24)(hk:k < m)(hz:z.length<=8)(pD:z.cps.toList[at']?=some (97 + ((μ c at' 26 + k) % 26).toNat)) :
  ∃ (z':Str) (ak:ay),Nm μ c m at' k z'/\jI F (NV c m k b sz at' q (some (.str z)) a9) Ω=.nx (NV c m k b sz at' q (some (.str z')) a9) ak/\aq [] Ω ak:=by
 obtain⟨w0,w1,hw1⟩:=hμ c 10 4 (by omega) (by omega) (by omega)
 by_cases hj:μ c 10 4=1/\m < 9
 ·have hm9:(m:Int) < 9:=by omega
  have LS:cW (bs μ c) none (some ((k:Int) + 1))=(List.range (k + 1)).map fun (i:Nat)=>.int (μ c i 26):=by
   rw[show(k:Int) + 1=((k + 1:Nat):Int) by omega,v_,bs,← List.map_take,List.take_range,Nat.min_eq_left (by omega)]
  have hsl:ia (.ref b) none (some ((k:Int) + 1)) Ω=.ok (.ref Ω.length) (Ω++[.lst ((List.range (k + 1)).map fun (i:Nat)=>.int (μ c i 26))]):=by
   simp only[ia,az hb,eR,LS]
  have g1:(Ω++[Cell.lst ((List.range (k + 1)).map fun (i:Nat)=>D.int (μ c i 26))])[Ω.length]?=some (.lst ((List.range (k + 1)).map fun (i:Nat)=>.int (μ c i 26))):=aF
  have K1:aq [] Ω (Ω++[Cell.lst ((List.range (k + 1)).map fun (i:Nat)=>D.int (μ c i 26))]):=aq.app
  generalize Ω++[Cell.lst ((List.range (k + 1)).map fun (i:Nat)=>D.int (μ c i 26))]=ag at *
  have gH:(bf (cf (aa 4) true (ae .non) false (m2 (aI .Add) (aa 3) (ae (.int 1))))) (NV c m k b sz at' q (some (.str z)) a9) Ω=.ok (.seq (.ref Ω.length)) ag:=by
   have:=bc (x:=.ref Ω.length) (Ω:=ag) (by rw[aN,az g1])
   simp[hsl,this]
  have hc:=c_ (me:=m2 aM (aa 1) (aa 0)) (nc:=true) (mc:=ae .non) (cap:=[2]) (p:=fun _=>true) (g:=fun d=>match d with | .int j=>.str (gc (97 + j.toNat)) | _=>.non) gH (by rw[cx,aN,az g1]) (fun d hd=>rfl) (fun d hd _=>by
   obtain⟨i,hi,rfl⟩:=List.mem_map.mp hd;have hi0:i < k + 1:=by simpa using hi
   have hi':i < 8:=by omega
   obtain⟨q0,q1,_⟩:=hμ c i 26 (by omega) (by omega) (by omega)
   have hab:=sd q0 q1;simp[dc,hab]) (by simp;omega)
  rw[List.filter_eq_self.mpr (by simp),List.map_map]at hc
  have hmm:((List.range (k + 1)).map ((fun d:D=>match d with | .int j=>D.str (gc (97 + j.toNat)) | _=>.non) ∘ fun (i:Nat)=>D.int (μ c i 26)))=((List.range (k + 1)).map fun i=>gc (97 + (μ c (i:Nat) 26).toNat)).map .str:=by
   rw[List.map_map];rfl
  rw[hmm]at hc;obtain⟨S,hS,hjn⟩:=join_ones (fun i=>97 + (μ c (i:Nat) 26).toNat) k (by omega)
  have g2:(ag++[Cell.lst (((List.range (k + 1)).map fun i=>gc (97 + (μ c (i:Nat) 26).toNat)).map .str)])[ag.length]?=some (.lst (((List.range (k + 1)).map fun i=>gc (97 + (μ c (i:Nat) 26).toNat)).map .str)):=aF
  have K2:aq [] ag (ag++[Cell.lst (((List.range (k + 1)).map fun i=>gc (97 + (μ c (i:Nat) 26).toNat)).map .str)]):=aq.app
  generalize ((List.range (k + 1)).map fun i=>gc (97 + (μ c (i:Nat) 26).toNat))=ys at *
  generalize ag++[Cell.lst (ys.map .str)]=aw at *;have hr:=cA (n:=7) g2;have hc':jC (NV c m k b sz at' q (some (.str z)) a9) Ω=.ok (.ref ag.length) aw:=hc;refine⟨S,aw,⟨by omega,by rw[if_pos hj];exact hS⟩,?_,K1.trans K2⟩
  have ra:(ax 8 (bE wt kG (ae (.str "")) (U jC ah))) (NV c m k b sz at' q (some (.str z)) a9) Ω=.nx (NV c m k b sz at' q (some (.str S)) a9) aw:=by
   rw[cu,da (x:=.str "") (ak:=Ω) rfl rfl,fu,hc'];simp only[aO,jK,kG,jQ,nz,hr,gP,hjn,zX];rfl
  have rt:(eI (m2 (aD .Eq) (mN (aU F) (U (aa 0) (U (ae (.int 10)) (U (ae (.int 4)) ah)))) (ae (.int 1))) (m2 (aD .Lt) (aa 1) (ae (.int 9)))) (NV c m k b sz at' q (some (.str z)) a9) Ω=.ok (.bl true) Ω:=by
   simp[hw1,hj.1,hm9]
  unfold jI;rw[cS,rt];simp only[jO,c9,jN,eQ,if_true,ai,ra,aJ,kR]
 ·refine⟨z,Ω,⟨hz,by rw[if_neg hj];exact pD⟩,?_,aq.refl⟩
  by_cases h1:μ c 10 4=1
  ·have hm9:¬ (m:Int) < 9:=fun h=>hj ⟨h1,by omega⟩
   simp[jI,hw1,h1,hm9]
  ·have hb:(μ c 10 4 == 1)=false:=by simpa using h1
   simp[jI,hw1,hb]
theorem Ah(hμ:dC μ F){k at' sz b q:Nat}{ws:List Str}{a8 a9:Option D}(hb:Ω[b]?=some (.lst (bs μ c)))(hq:Ω[q]?=some (.lst (ws.map .str)))(hm:m<=24)(hk:k < m)(hsz:sz<=8)(hat:at' < sz)(hw:ws.length<=900) :
  ∃ (z:Str) (LU nU:Option D) (ak:ay),Nm μ c m at' k z/\pC F (NV c m k b sz at' q a8 a9) Ω=.nx (NV c m k b sz at' q LU nU) ak/\ak[q]?=some (.lst ((ws++[z]).map .str))/\aq [q] Ω ak:=by
 obtain⟨z,nU,hz,pD,e⟩:=xy (m:=m) (q:=q) (a9:=a9) hμ hb (k:=k) (by omega) hsz hat
 obtain⟨z',ag,hn,e1,K1⟩:=GA (sz:=sz) (q:=q) (a9:=nU) hμ hb hm hk (by omega) pD
 have hin:hW (sz:Int)=true:=dH (by omega) (by omega)
 have q1:=K1.get _ _ hq (by simp)
 have hap:=dm (d:=.str z') q1 (by simp;omega)
 have hL:=cJ q1;refine⟨z',some (.str z'),nU,ag.set q (.lst (ws.map .str++[.str z'])),hn,?_,by rw[cB q1];simp,(kS.up K1).trans (aq.set (by simp))⟩
 have r1:(ax 8 (ae (.str ""))) (NV c m k b sz at' q a8 a9) Ω=.nx (NV c m k b sz at' q (some (.str "")) a9) Ω:=rfl
 have r2:(cF (bA 9) (bG (U (aa 5) ah)) xv) (NV c m k b sz at' q (some (.str "")) a9) Ω=.nx (NV c m k b sz at' q (some (.str z)) nU) Ω:=by
  rw[dN];have:bG (U (aa 5) ah) (NV c m k b sz at' q (some (.str "")) a9) Ω=.ok (.ints 0 sz) Ω:=by simp[hin]
  rw[this,eQ,e]
 have r4:(ft (bE eY bu (aa 7) (U (aa 8) ah))) (NV c m k b sz at' q (some (.str z')) nU) ag=.nx (NV c m k b sz at' q (some (.str z')) nU) (ag.set q (.lst (ws.map .str++[.str z']))):=by
  rw[fN,da (x:=.ref q) (ak:=ag) (by simp) hL]
  simp[hap]
 unfold pC;rw[ai,r1,aJ,ai,r2,aJ,ai,e1,aJ,ai,r4];rfl
def GB(N:bg):Prop:=∀ (Ω:ay) (c:Int) (m:Nat),2<=m->m<=24->∃ (xs:List Str) (q:Nat) (ak:ay),xs.Nodup/\xs.length=m/\N [.int c,.int m] Ω=.ok (.ref q) ak/\ak[q]?=some (.lst (xs.map .str))/\aq [] Ω ak
def GC(N:bg):Prop:=∀ (Ω:ay) (c:Int) (m:Nat),2<=m->m<=24->∃ (xs:List Str) (q:Nat) (ak:ay),(xs.Nodup/\∀ x∈xs,x≠"")/\xs.length=m/\N [.int c,.int m] Ω=.ok (.ref q) ak/\ak[q]?=some (.lst (xs.map .str))/\aq [] Ω ak
theorem Ai{at' k:Nat}{z:Str}(h:Nm μ c m at' k z):z≠"":=by
 rintro rfl;obtain⟨_,h⟩:=h;split at h
 ·exact absurd h (Nat.zero_ne_add_one k)
 ·rw[show(Str.ofString "").cps.toList=[] from rfl]at h
  simp at h
theorem xB(hμ:dC μ F):GC (bB 11 2 (Ag F)):=by
 intro Ω c m hm2 hm;rw[bY (by rfl)]
 have e0:aR 11 [D.int c,.int m]=[some (.int c),some (.int m),none,none,none,none,none,none,none,none,none]:=rfl;rw[e0];obtain⟨a0,a1,ha⟩:=hμ c 8 8 (by omega) (by omega) (by omega)
 obtain⟨b0,b1,hb⟩:=hμ c 9 (1 + μ c 8 8) (by omega) (by omega) (by omega)
 obtain⟨t0,t1,ht⟩:=hμ c 11 (m:Int) (by omega) (by omega) (by omega)
 obtain⟨sz,hsz⟩:∃ sz:Nat,(sz:Int)=1 + μ c 8 8:=⟨(1 + μ c 8 8).toNat,by omega⟩
 obtain⟨at',hat⟩:∃ at':Nat,(at':Int)=μ c 9 (1 + μ c 8 8):=⟨(μ c 9 (1 + μ c 8 8)).toNat,by omega⟩
 obtain⟨tn,htn⟩:∃ tn:Nat,(tn:Int)=μ c 11 (m:Int):=⟨(μ c 11 (m:Int)).toNat,by omega⟩
 have LV:hW 8=true:=dH (by omega) (by omega)
 have hin:hW (m:Int)=true:=dH (by omega) (by omega)
 have hbs:=c_ (Ω:=Ω) (ak:=Ω) (ρ:=[some (.int c),some (.int m),some (.str abc),none,none,none,none,none,none,none,none]) (me:=mN (aU F) (U (aa 1) (U (aa 0) (U (ae (.int 26)) ah)))) (nc:=true) (mc:=ae .non) (mi:=bG (U (ae (.int 8)) ah)) (cap:=[0]) (src:=.ints 0 8) (ds:=intsFrom 0 8) (p:=fun _=>true) (g:=fun d=>match d with | .int j=>.int (μ c j 26) | _=>.non)
  (by simp[LV]) rfl (fun d hd=>rfl) (fun d hd _=>by
   obtain⟨i,hi⟩:=List.mem_iff_getElem?.mp hd;obtain⟨rfl,hlt⟩:=dI hi;obtain⟨_,_,q⟩:=hμ c (0 + (i:Int)) 26 (by omega) (by omega) (by omega)
   generalize (0 + (i:Int))=j at *;simp[dc,q]) (by rw[cp];omega)
 rw[List.filter_eq_self.mpr (by simp),lY,List.map_map]at hbs
 have hbs:Gz F [some (.int c),some (.int m),some (.str abc),none,none,none,none,none,none,none,none] Ω=.ok (.ref Ω.length) (Ω++[.lst (bs μ c)]):=hbs;have g1:(Ω++[Cell.lst (bs μ c)])[Ω.length]?=some (.lst (bs μ c)):=aF;have K1:aq [] Ω (Ω++[Cell.lst (bs μ c)]):=aq.app;have r1:(ax 2 (ae (.str "abcdefghijklmnopqrstuvwxyz"))) [some (.int c),some (.int m),none,none,none,none,none,none,none,none,none] Ω=.nx [some (.int c),some (.int m),some (.str abc),none,none,none,none,none,none,none,none] Ω:=rfl
 have r2:(ax 4 (Gz F)) [some (.int c),some (.int m),some (.str abc),none,none,none,none,none,none,none,none] Ω=.nx [some (.int c),some (.int m),some (.str abc),none,some (.ref Ω.length),none,none,none,none,none,none] (Ω++[Cell.lst (bs μ c)]):=by
  rw[cu,hbs];rfl
 have NX:=eF g1;generalize Ω++[Cell.lst (bs μ c)]=ag at *
 have r3:(ax 5 (m2 (aI .Add) (ae (.int 1)) (mN (aU F) (U (aa 0) (U (ae (.int 8)) (U (ae (.int 8)) ah)))))) [some (.int c),some (.int m),some (.str abc),none,some (.ref Ω.length),none,none,none,none,none,none] ag=.nx [some (.int c),some (.int m),some (.str abc),none,some (.ref Ω.length),some (.int sz),none,none,none,none,none] ag:=by
  rw[hsz];simp[ha]
 have r4:(ax 6 (mN (aU F) (U (aa 0) (U (ae (.int 9)) (U (aa 5) ah))))) [some (.int c),some (.int m),some (.str abc),none,some (.ref Ω.length),some (.int sz),none,none,none,none,none] ag=.nx [some (.int c),some (.int m),some (.str abc),none,some (.ref Ω.length),some (.int sz),some (.int at'),none,none,none,none] ag:=by
  rw[hat,hsz];simp[hb]
 have g2:(ag++[Cell.lst []])[ag.length]?=some (.lst (([]:List Str).map .str)):=aF;have K2:aq [] ag (ag++[Cell.lst []]):=aq.app;have r5:(ax 7 (mN cQ ah)) [some (.int c),some (.int m),some (.str abc),none,some (.ref Ω.length),some (.int sz),some (.int at'),none,none,none,none] ag=.nx [some (.int c),some (.int m),some (.str abc),none,some (.ref Ω.length),some (.int sz),some (.int at'),some (.ref ag.length),none,none,none] (ag++[Cell.lst []]):=by simp[ba]
 have Ae:=K2.get _ _ g1 (by simp)
 have Qj:=K1.trans K2;generalize Qk:ag++[Cell.lst []]=aw at *
 have hL:∃ (ws:List Str) (a3 a8 a9:Option D) (aV:ay),ws.length=m/\(∀ j z,ws[j]?=some z->Nm μ c m at' j z)/\eO (bA 3) (.ints 0 m) (pC F) fuel 0 [some (.int c),some (.int m),some (.str abc),none,some (.ref Ω.length),some (.int sz),some (.int at'),some (.ref ag.length),none,none,none] aw=.nx [some (.int c),some (.int m),some (.str abc),a3,some (.ref Ω.length),some (.int sz),some (.int at'),some (.ref ag.length),a8,a9,none] aV/\aV[ag.length]?=some (.lst (ws.map .str))/\aq [ag.length] aw aV:=by
  refine cM (R:=fun r=>∃ (ws:List Str) (a3 a8 a9:Option D) (aV:ay),ws.length=m/\(∀ j z,ws[j]?=some z->Nm μ c m at' j z)/\r=.nx [some (.int c),some (.int m),some (.str abc),a3,some (.ref Ω.length),some (.int sz),some (.int at'),some (.ref ag.length),a8,a9,none] aV/\aV[ag.length]?=some (.lst (ws.map .str))/\aq [ag.length] aw aV) (ds:=intsFrom 0 m)
   (fun i ρ aV=>∃ (ws:List Str) (a3 a8 a9:Option D),ws.length=i/\(∀ j z,ws[j]?=some z->Nm μ c m at' j z)/\ρ=[some (.int c),some (.int m),some (.str abc),a3,some (.ref Ω.length),some (.int sz),some (.int at'),some (.ref ag.length),a8,a9,none]/\aV[ag.length]?=some (.lst (ws.map .str))/\aq [ag.length] aw aV) (fun _ _ _ _=>rfl) ?_ ?_ fuel 0 _ _ (by rw[cp];unfold fuel;omega) (Nat.zero_le _) ⟨[],none,none,none,rfl,fun j z h=>by simp at h,rfl,g2,aq.refl⟩
  ·rintro i d ρ aV hd ⟨ws,a3,a8,a9,hw,hnm,rfl,hq,K⟩
   obtain⟨rfl,hlt⟩:=dI hd;rw[show(0:Int) + (i:Int)=(i:Int) by omega]
   refine⟨NV c m i Ω.length sz at' ag.length a8 a9,rfl,?_⟩;obtain⟨z,LU,nU,eX,hz,e,hq',K'⟩:=Ah (a8:=a8) (a9:=a9) hμ (K.get _ _ Ae (by simp;omega)) hq hm hlt (show sz<=8 by omega) (show at' < sz by omega) (by omega)
   rw[e];refine⟨ws++[z],some (.int i),LU,nU,by rw[List.length_append,List.length_singleton];omega,fun j y hj => ?_,rfl,hq',K.trans K'⟩
   by_cases hjl:j < ws.length
   ·rw[List.getElem?_append_left hjl]at hj
    exact hnm j y hj
   ·rw[List.getElem?_append_right (by omega)]at hj
    have hj0:j - ws.length=0:=by
     have:=(List.getElem?_eq_some_iff.mp hj).1;simp at this;omega
    rw[hj0]at hj;have hy:z=y:=by simpa using hj
    subst hy;obtain rfl:j=i:=by omega
    exact hz
  ·rintro ρ aV ⟨ws,a3,a8,a9,hw,hnm,rfl,hq,K⟩
   rw[cp]at hw;exact⟨ws,a3,a8,a9,aV,hw,hnm,rfl,hq,K⟩
 obtain⟨ws,a3,a8,a9,aV,hw,hnm,eL,hq,K3⟩:=hL
 have hnd:ws.Nodup:=by
  refine List.pairwise_iff_getElem.mpr fun i j hi hj hij heq => ?_
  have:=FF (m:=m) (by omega) (by omega) hm (hnm i _ (List.getElem?_eq_getElem hi)) (hnm j _ (List.getElem?_eq_getElem hj)) heq
  omega
 have hperm:(ws.drop tn++ws.take tn).Perm ws:=by
  have:=(List.perm_append_comm (l₁:=ws.drop tn) (l₂:=ws.take tn));rwa[List.take_append_drop]at this
 have r6:(cF (bA 3) (bG (U (aa 1) ah)) (pC F)) [some (.int c),some (.int m),some (.str abc),none,some (.ref Ω.length),some (.int sz),some (.int at'),some (.ref ag.length),none,none,none] aw=.nx [some (.int c),some (.int m),some (.str abc),a3,some (.ref Ω.length),some (.int sz),some (.int at'),some (.ref ag.length),a8,a9,none] aV:=by
  rw[dN];have:bG (U (aa 1) ah) [some (.int c),some (.int m),some (.str abc),none,some (.ref Ω.length),some (.int sz),some (.int at'),some (.ref ag.length),none,none,none] aw=.ok (.ints 0 m) aw:=by simp[hin]
  rw[this,eQ,eL]
 have r7:(ax 10 (mN (aU F) (U (aa 0) (U (ae (.int 11)) (U (aa 1) ah))))) [some (.int c),some (.int m),some (.str abc),a3,some (.ref Ω.length),some (.int sz),some (.int at'),some (.ref ag.length),a8,a9,none] aV=.nx [some (.int c),some (.int m),some (.str abc),a3,some (.ref Ω.length),some (.int sz),some (.int at'),some (.ref ag.length),a8,a9,some (.int tn)] aV:=by
  rw[htn];simp[ht]
 have s1:=xf (i:=tn) hq;have g3:(aV++[Cell.lst ((ws.drop tn).map .str)])[aV.length]?=some (.lst ((ws.drop tn).map .str)):=aF;have K4:aq [] aV (aV++[Cell.lst ((ws.drop tn).map .str)]):=aq.app;have Ql:=K4.get _ _ hq (by simp)
 generalize aV++[Cell.lst ((ws.drop tn).map .str)]=eX at *;have s2:=nL (n:=tn) Ql;have g4:(eX++[Cell.lst ((ws.take tn).map .str)])[eX.length]?=some (.lst ((ws.take tn).map .str)):=aF;have K5:aq [] eX (eX++[Cell.lst ((ws.take tn).map .str)]):=aq.app;have Qm:=K5.get _ _ g3 (by simp)
 generalize eX++[Cell.lst ((ws.take tn).map .str)]=CZ at *;have hsm:small (((ws.drop tn).map D.str).length + ((ws.take tn).map D.str).length)=true:=ba (by simp;omega)
 refine⟨ws.drop tn++ws.take tn,CZ.length,CZ++[.lst ((ws.drop tn).map .str++(ws.take tn).map .str)],⟨hperm.nodup_iff.mpr hnd,fun x hx=>by
  obtain⟨j,hj⟩:=List.mem_iff_getElem?.mp (hperm.mem_iff.mp hx);exact Ai (hnm j x hj)⟩,by rw[hperm.length_eq];exact hw,?_,by rw[List.map_append];exact aF,aq.new Qj (K3.trans (kS.up ((K4.trans K5).trans aq.app))) (by simpa using K1.len)⟩
 unfold Ag;rw[ai,r1,aJ,ai,r2,aJ,ai,r3,aJ,ai,r4,aJ,ai,r5,aJ,ai,r6,aJ,ai,r7,aJ]
 have rr:(m2 (aI .Add) (cf (aa 7) false (aa 10) true (ae .non)) (cf (aa 7) true (ae .non) false (aa 10))) [some (.int c),some (.int m),some (.str abc),a3,some (.ref Ω.length),some (.int sz),some (.int at'),some (.ref ag.length),a8,a9,some (.int tn)] aV=.ok (.ref CZ.length) (CZ++[.lst ((ws.drop tn).map .str++(ws.take tn).map .str)]):=by
  simp only[c8,kT,jL,List.getElem?_cons_zero,List.getElem?_cons_succ,sH,aO,nJ,nI,nK,s1,s2,pq,sP,az Qm,az g4,sO];rw[if_pos hsm];rfl
 rw[ai,dM,rr];rfl
theorem GD(hμ:dC μ F):GB (bB 11 2 (Ag F)):=fun Ω c m h1 h2=>by
 obtain⟨xs,q,ak,h,r⟩:=xB hμ Ω c m h1 h2;exact⟨xs,q,ak,h.1,r⟩
end
section
variable{Ω ak:ay}{ρ:aP}{F C:List D->Out Rs}{μ:Int->Int->Int->Int}{κ:List Int->Nat->Int}{c:Int}{m:Nat}
def Jx(F:List D->Out Rs):EM:=(mN (aU F) (U (aa 0) (U (m2 (aI .Add) (aa 1) (aa 5)) (U (mN (aZ .len) (U (aa 3) ah)) ah))))
def xC(F:List D->Out Rs):SM:=(ao (ft (bE eY bu (aa 4) (U (bE eY gC (aa 3) (U (Jx F) ah)) ah))) aj)
def C0(F:List D->Out Rs):SM:=
 (ao (ax 3 (mN (aZ .list) (U (aa 2) ah)))
 (ao (ax 4 (mN cQ ah))
 (ao (cF (bA 5) (bG (U (mN (aZ .len) (U (aa 2) ah)) ah)) (xC F))
 (ao (aW (aa 4))
 aj))))
theorem uw{k n:Nat}{ds:List D}{d:D}{i:Int}(h:Ω[k]?=some (.lst ds))(hi:L2.uF ds.length i=some n)(hd:ds[n]?=some d)(LW:hW i=true):gC (.ref k) [.int i] Ω=.ok d (Ω.set k (.lst (ds.eraseIdx n))):=by
 simp only[gC,nH h,LW,if_true,hi,hd]
theorem C1(hμ:dC μ F){t:Int}{x p f i:Nat}{ps fs:List Str}(hp:Ω[p]?=some (.lst (ps.map .str)))(hf:Ω[f]?=some (.lst (fs.map .str)))(hpf:p≠f)(ht:0<=t)(ht':t < 1000)(hi:i < 1000)(hl:0 < ps.length)(hl':ps.length<=900)(hfl:fs.length<=900) :
  ∃ (q:Nat) (hq:q < ps.length) (ak:ay),xC F [some (.int c),some (.int t),some (.ref x),some (.ref p),some (.ref f),some (.int i)] Ω=.nx [some (.int c),some (.int t),some (.ref x),some (.ref p),some (.ref f),some (.int i)] ak/\ak[p]?=some (.lst ((ps.eraseIdx q).map .str))/\ak[f]?=some (.lst ((fs++[ps[q]]).map .str))/\aq [p,f] Ω ak:=by
 obtain⟨m0,m1,hm⟩:=hμ c (t + (i:Int)) (ps.length:Int) (by omega) (by omega) (by omega)
 generalize μ c (t + (i:Int)) (ps.length:Int)=q at *;have hq:q.toNat < ps.length:=by omega
 have hix:L2.uF (ps.map D.str).length q=some q.toNat:=by
  unfold L2.uF;rw[if_pos m0,if_pos (by simpa using m1)]
 have LW:hW q=true:=dH (by omega) (by omega)
 have hd:(ps.map D.str)[q.toNat]?=some (.str ps[q.toNat]):=by simp[hq]
 have GF:=uw hp hix hd LW;rw[lZ]at GF;have hlen:=dO hp;rw[List.length_map]at hlen
 have e1:Jx F [some (.int c),some (.int t),some (.ref x),some (.ref p),some (.ref f),some (.int i)] Ω=.ok (.int q) Ω:=by
  simp[Jx,hlen,hm]
 have K1:aq [p,f] Ω (Ω.set p (.lst ((ps.eraseIdx q.toNat).map .str))):=aq.set (by simp)
 have p1:(Ω.set p (.lst ((ps.eraseIdx q.toNat).map .str)))[p]?=some (.lst ((ps.eraseIdx q.toNat).map .str)):=cB hp;have f1:(Ω.set p (.lst ((ps.eraseIdx q.toNat).map .str)))[f]?=some (.lst (fs.map .str)):=er hf (Ne.symm hpf)
 have e2:(bE eY gC (aa 3) (U (Jx F) ah)) [some (.int c),some (.int t),some (.ref x),some (.ref p),some (.ref f),some (.int i)] Ω=.ok (.str ps[q.toNat]) (Ω.set p (.lst ((ps.eraseIdx q.toNat).map .str))):=by
  rw[da (x:=.ref p) (ak:=Ω) (by simp) (cJ hp),fu,e1]
  exact GF
 generalize Ω.set p (.lst ((ps.eraseIdx q.toNat).map .str))=ag at *;have hap:=dm (d:=.str ps[q.toNat]) f1 (by simp;omega)
 refine⟨q.toNat,hq,ag.set f (.lst (fs.map .str++[.str ps[q.toNat]])),?_,er p1 hpf,by rw[cB f1];simp,K1.trans (aq.set (by simp))⟩
 unfold xC;rw[ai,fN,da (x:=.ref f) (ak:=Ω) (by simp) (cJ hf),fu,e2]
 simp only[aO,jK,hap,eQ,aJ,kR]
def Aj(S:bg):Prop:=∀ (Ω:ay) (c t:Int) (x:Nat) (xs:List Str),0<=t->t < 1000->xs.length<=900->Ω[x]?=some (.lst (xs.map .str))->∃ (ys:List Str) (q:Nat) (ak:ay),ys.Perm xs/\S [.int c,.int t,.ref x] Ω=.ok (.ref q) ak/\ak[q]?=some (.lst (ys.map .str))/\aq [] Ω ak
theorem GG(hμ:dC μ F):Aj (bB 6 3 (C0 F)):=by
 intro Ω c t x xs ht ht' hx hX;rw[bY (by rfl)]
 have e0:aR 6 [D.int c,.int t,.ref x]=[some (.int c),some (.int t),some (.ref x),none,none,none]:=rfl;rw[e0];have hl:=gQ hX;have g1:(Ω++[Cell.lst (xs.map .str)])[Ω.length]?=some (.lst (xs.map .str)):=aF;have K1:aq [] Ω (Ω++[Cell.lst (xs.map .str)]):=aq.app;have Qn:=K1.get _ _ hX (by simp)
 have r1:(ax 3 (mN (aZ .list) (U (aa 2) ah))) [some (.int c),some (.int t),some (.ref x),none,none,none] Ω=.nx [some (.int c),some (.int t),some (.ref x),some (.ref Ω.length),none,none] (Ω++[Cell.lst (xs.map .str)]):=by simp[hl]
 have xl:=eF hX;generalize Ω++[Cell.lst (xs.map .str)]=ag at *;have g2:(ag++[Cell.lst []])[ag.length]?=some (.lst (([]:List Str).map .str)):=aF;have K2:aq [] ag (ag++[Cell.lst []]):=aq.app;have r2:(ax 4 (mN cQ ah)) [some (.int c),some (.int t),some (.ref x),some (.ref Ω.length),none,none] ag=.nx [some (.int c),some (.int t),some (.ref x),some (.ref Ω.length),some (.ref ag.length),none] (ag++[Cell.lst []]):=by simp[ba]
 have Ae:=K2.get _ _ g1 (by simp)
 have hX2:=K2.get _ _ Qn (by simp)
 have pl:=eF g1;generalize ag++[Cell.lst []]=aw at *;have hlen:=dO hX2;rw[List.length_map]at hlen;have hin:hW (xs.length:Int)=true:=dH (by omega) (by omega)
 have hL:∃ (fs:List Str) (a5:Option D) (aV:ay),fs.Perm xs/\eO (bA 5) (.ints 0 xs.length) (xC F) fuel 0 [some (.int c),some (.int t),some (.ref x),some (.ref Ω.length),some (.ref ag.length),none] aw=.nx [some (.int c),some (.int t),some (.ref x),some (.ref Ω.length),some (.ref ag.length),a5] aV/\aV[ag.length]?=some (.lst (fs.map .str))/\aq [Ω.length,ag.length] aw aV:=by
  refine cM (R:=fun r=>∃ (fs:List Str) (a5:Option D) (aV:ay),fs.Perm xs/\r=.nx [some (.int c),some (.int t),some (.ref x),some (.ref Ω.length),some (.ref ag.length),a5] aV/\aV[ag.length]?=some (.lst (fs.map .str))/\aq [Ω.length,ag.length] aw aV) (ds:=intsFrom 0 xs.length)
   (fun i ρ aV=>∃ (ps fs:List Str) (a5:Option D),(fs++ps).Perm xs/\fs.length=i/\ρ=[some (.int c),some (.int t),some (.ref x),some (.ref Ω.length),some (.ref ag.length),a5]/\aV[Ω.length]?=some (.lst (ps.map .str))/\aV[ag.length]?=some (.lst (fs.map .str))/\aq [Ω.length,ag.length] aw aV) (fun _ _ _ _=>rfl) ?_ ?_ fuel 0 _ _ (by rw[cp];unfold fuel;omega) (Nat.zero_le _) ⟨xs,[],none,by simp,rfl,rfl,Ae,g2,aq.refl⟩
  ·rintro i d ρ aV hd ⟨ps,fs,a5,hp,hfl,rfl,h1,h2,K⟩
   obtain⟨rfl,hlt⟩:=dI hd;rw[show(0:Int) + (i:Int)=(i:Int) by omega]
   have hpl:fs.length + ps.length=xs.length:=by have:=hp.length_eq;rwa[List.length_append]at this
   refine⟨[some (.int c),some (.int t),some (.ref x),some (.ref Ω.length),some (.ref ag.length),some (.int i)],rfl,?_⟩;obtain⟨q,hq,eX,e,h3,h4,K'⟩:=C1 (c:=c) (x:=x) hμ h1 h2 (by omega) ht ht' (show i < 1000 by omega) (by omega) (by omega) (by omega)
   rw[e];refine⟨ps.eraseIdx q,fs++[ps[q]],some (.int i),?_,by rw[List.length_append,List.length_singleton];omega,rfl,h3,h4,K.trans K'⟩
   refine List.Perm.trans ?_ hp;rw[List.append_assoc];exact List.Perm.append_left fs (ko ps q hq)
  ·rintro ρ aV ⟨ps,fs,a5,hp,hfl,rfl,h1,h2,K⟩
   rw[cp]at hfl
   have hps:ps=[]:=by
    have:=hp.length_eq;rw[List.length_append]at this;exact List.eq_nil_of_length_eq_zero (by omega)
   subst hps;exact⟨fs,a5,aV,by simpa using hp,rfl,h2,K⟩
 obtain⟨fs,a5,aV,hp,eL,h2,K3⟩:=hL;refine⟨fs,ag.length,aV,hp,?_,h2,aq.new (K1.trans K2) K3 (by simp;omega)⟩
 have r3:(cF (bA 5) (bG (U (mN (aZ .len) (U (aa 2) ah)) ah)) (xC F)) [some (.int c),some (.int t),some (.ref x),some (.ref Ω.length),some (.ref ag.length),none] aw=.nx [some (.int c),some (.int t),some (.ref x),some (.ref Ω.length),some (.ref ag.length),a5] aV:=by
  rw[dN];have:bG (U (mN (aZ .len) (U (aa 2) ah)) ah) [some (.int c),some (.int t),some (.ref x),some (.ref Ω.length),some (.ref ag.length),none] aw=.ok (.ints 0 xs.length) aw:=by simp[hlen,hin]
  rw[this,eQ,eL]
 unfold C0;rw[ai,r1,aJ,ai,r2,aJ,ai,r3];rfl
def Oc:EM:=(m2 aM (aa 2) (aa 0))
def LX(F:List D->Out Rs):EM:=(m2 (aD .Lt) (mN (aU F) (U (aa 1) (U (m2 (aI .Add) (ae (.int 1)) (aa 0)) (U (ae (.int 4)) ah)))) (aa 3))
def LY:IM:=(bG (U (mN (aZ .len) (U (aa 1) ah)) ah))
def C3(F:List D->Out Rs):SM:=
 (ao (ax 2 (m2 (aI .Add) (ae (.int 1)) (mN (aU F) (U (aa 0) (U (ae (.int 0)) (U (ae (.int 4)) ah))))))
 (ao (aW (bq Oc false (LX F) LY 0 [0,1,2]))
 aj))
def GH(P:bg):Prop:=∀ (Ω:ay) (c:Int) (x:Nat) (xs:List Str),xs.length<=900->Ω[x]?=some (.lst (xs.map .str))->∃ ys:List Str,ys.Sublist xs/\P [.int c,.ref x] Ω=.ok (.ref Ω.length) (Ω++[.lst (ys.map .str)])
theorem GI(hμ:dC μ F):GH (bB 3 2 (C3 F)):=by
 intro Ω c x xs hx hX;rw[bY (by rfl)]
 have e0:aR 3 [D.int c,.ref x]=[some (.int c),some (.ref x),none]:=rfl;rw[e0];obtain⟨a0,a1,ha⟩:=hμ c 0 4 (by omega) (by omega) (by omega)
 have hin:hW (xs.length:Int)=true:=dH (by omega) (by omega)
 have hlen:=dO hX;rw[List.length_map]at hlen
 have hc:=c_ (Ω:=Ω) (ak:=Ω) (ρ:=[some (.int c),some (.ref x),some (.int (1 + μ c 0 4))]) (me:=Oc) (nc:=false) (mc:=LX F) (mi:=LY) (cap:=[0,1,2]) (src:=.ints 0 xs.length) (ds:=intsFrom 0 xs.length)
  (p:=fun d=>match d with | .int j=>decide (μ c (1 + j) 4 < 1 + μ c 0 4) | _=>false) (g:=fun d=>match d with | .int j=>.str (xs.getD j.toNat "") | _=>.non)
  (by simp[LY,hlen,hin]) rfl (fun d hd=>by
   obtain⟨i,hi⟩:=List.mem_iff_getElem?.mp hd;obtain⟨rfl,hlt⟩:=dI hi;obtain⟨_,_,q⟩:=hμ c (1 + (0 + (i:Int))) 4 (by omega) (by omega) (by omega)
   generalize (0 + (i:Int))=j at *;simp[ib,LX,dc,q]) (fun d hd _=>by
   obtain⟨i,hi⟩:=List.mem_iff_getElem?.mp hd;obtain⟨rfl,hlt⟩:=dI hi;rw[show(0:Int) + (i:Int)=(i:Int) by omega]
   have e:L2.i_ (xs.map D.str) (i:Int)=some (.str (xs.getD i "")):=L2.bK (by simp[hlt])
   exact bH hX e) (by rw[cp];omega)
 refine⟨((List.range xs.length).filter fun (i:Nat)=>decide (μ c (1 + (i:Int)) 4 < 1 + μ c 0 4)).map fun i=>xs.getD i "",tW xs "" _,?_⟩
 rw[lY,List.filter_map,List.map_map]at hc;have e1:(ax 2 (m2 (aI .Add) (ae (.int 1)) (mN (aU F) (U (aa 0) (U (ae (.int 0)) (U (ae (.int 4)) ah)))))) [some (.int c),some (.ref x),none] Ω=.nx [some (.int c),some (.ref x),some (.int (1 + μ c 0 4))] Ω:=by simp[ha]
 unfold C3;rw[ai,e1,aJ,ai,dM,hc];simp only[eQ,Gd,z4,List.map_map];rfl
def LZ(F C:List D->Out Rs)(S N:bg):SM:=
 (ao (aW (mN (aL S) (U (mN (aU C) (U (aa 0) (U (ae (.int 2)) ah))) (U (ae (.int 0)) (U (mN (aL N) (U (mN (aU C) (U (aa 0) (U (ae (.int 1)) ah))) (U (aa 2) ah))) ah)))))
 aj)
def Ak(F C:List D->Out Rs)(S N:bg):SM:=
 (ao (ax 1 (mN (aU C) (U (aa 0) (U (ae (.int 0)) ah))))
 (ao (ax 2 (m2 (aI .Add) (ae (.int 2)) (mN (aU F) (U (aa 1) (U (ae (.int 0)) (U (ae (.int 7)) ah))))))
 (ao (dh (m2 (aD .Eq) (mN (aU F) (U (aa 1) (U (ae (.int 1)) (U (ae (.int 12)) ah)))) (ae (.int 5)))
 (ao (ax 2 (ae (.int 24)))
 aj)
 aj)
 (LZ F C S N))))
theorem C4{S N:bg}{P:List Str->Prop}(hP:∀ xs ys:List Str,ys.Perm xs->P xs->P ys)(hμ:dC μ F)(pz:mV κ C)(hS:Aj S)(hN:∀ (Ω:ay) (c:Int) (m:Nat),2<=m->m<=24->∃ (xs:List Str) (q:Nat) (ak:ay),P xs/\xs.length=m/\N [.int c,.int m] Ω=.ok (.ref q) ak/\ak[q]?=some (.lst (xs.map .str))/\aq [] Ω ak) :
  ∀ (Ω:ay) ns,∃ (xs:List Str) (q:Nat) (ak:ay),P xs/\2<=xs.length/\xs.length<=24/\(bB 3 1 (Ak F C S N)) [SC ns] Ω=.ok (.ref q) ak/\ak[q]?=some (.lst (xs.map .str))/\aq [] Ω ak:=by
 intro Ω ns;rw[bY (by rfl)]
 have e0:aR 3 [SC ns]=[some (SC ns),none,none]:=rfl;rw[e0];obtain⟨a0,a1,ha⟩:=hμ (κ ns 0) 0 7 (by omega) (by omega) (by omega)
 obtain⟨b0,b1,hb⟩:=hμ (κ ns 0) 1 12 (by omega) (by omega) (by omega)
 have k0:C [SC ns,.int 0]=.ok (false,.int (κ ns 0)):=pz ns 0;have k1:C [SC ns,.int 1]=.ok (false,.int (κ ns 1)):=pz ns 1;have k2:C [SC ns,.int 2]=.ok (false,.int (κ ns 2)):=pz ns 2
 have main:∀ m:Nat,2<=m->m<=24->∃ (xs:List Str) (q:Nat) (ak:ay),P xs/\2<=xs.length/\xs.length<=24/\fV (LZ F C S N [some (SC ns),some (.int (κ ns 0)),some (.int m)] Ω)=.ok (.ref q) ak/\ak[q]?=some (.lst (xs.map .str))/\aq [] Ω ak:=by
  intro m h2 Qo;obtain⟨xs,q,ag,x1,x2,x3,x4,K1⟩:=hN Ω (κ ns 1) m h2 Qo;obtain⟨ys,q',aw,y1,y2,y3,K2⟩:=hS ag (κ ns 2) 0 q xs (by omega) (by omega) (by omega) x4
  refine⟨ys,q',aw,hP _ _ y1 x1,by rw[y1.length_eq];omega,by rw[y1.length_eq];omega,?_,y3,K1.trans K2⟩
  simp[LZ,k1,k2,x3,y2]
 have r1:(ax 1 (mN (aU C) (U (aa 0) (U (ae (.int 0)) ah)))) [some (SC ns),none,none] Ω=.nx [some (SC ns),some (.int (κ ns 0)),none] Ω:=by simp[k0]
 have r2:(ax 2 (m2 (aI .Add) (ae (.int 2)) (mN (aU F) (U (aa 1) (U (ae (.int 0)) (U (ae (.int 7)) ah)))))) [some (SC ns),some (.int (κ ns 0)),none] Ω=.nx [some (SC ns),some (.int (κ ns 0)),some (.int (2 + μ (κ ns 0) 0 7))] Ω:=by simp[ha]
 by_cases h5:μ (κ ns 0) 1 12=5
 ·obtain⟨xs,q,ak,x1,x2,x3,x4,x5⟩:=main 24 (by omega) (by omega)
  refine⟨xs,q,ak,x1,x2,x3,?_,x5⟩;rw[← x4];have r3:(dh (m2 (aD .Eq) (mN (aU F) (U (aa 1) (U (ae (.int 1)) (U (ae (.int 12)) ah)))) (ae (.int 5))) (ao (ax 2 (ae (.int 24))) aj) aj) [some (SC ns),some (.int (κ ns 0)),some (.int (2 + μ (κ ns 0) 0 7))] Ω=.nx [some (SC ns),some (.int (κ ns 0)),some (.int 24)] Ω:=by simp[hb,h5]
  unfold Ak;rw[ai,r1,aJ,ai,r2,aJ,ai,r3,aJ];rfl
 ·obtain⟨xs,q,ak,x1,x2,x3,x4,x5⟩:=main (2 + μ (κ ns 0) 0 7).toNat (by omega) (by omega)
  refine⟨xs,q,ak,x1,x2,x3,?_,x5⟩;rw[show(((2 + μ (κ ns 0) 0 7).toNat:Nat):Int)=2 + μ (κ ns 0) 0 7 by omega]at x4
  rw[← x4];have Qp:(μ (κ ns 0) 1 12 == 5)=false:=by simpa using h5
  have r3:(dh (m2 (aD .Eq) (mN (aU F) (U (aa 1) (U (ae (.int 1)) (U (ae (.int 12)) ah)))) (ae (.int 5))) (ao (ax 2 (ae (.int 24))) aj) aj) [some (SC ns),some (.int (κ ns 0)),some (.int (2 + μ (κ ns 0) 0 7))] Ω=.nx [some (SC ns),some (.int (κ ns 0)),some (.int (2 + μ (κ ns 0) 0 7))] Ω:=by simp[hb,Qp]
  unfold Ak;rw[ai,r1,aJ,ai,r2,aJ,ai,r3,aJ]
def L4(C:List D->Out Rs)(P:bg):EM:=(mN (aL P) (U (mN (aU C) (U (aa 2) (U (m2 (aI .Add) (ae (.int 3)) (aa 0)) ah))) (U (aa 1) ah)))
def L5(C:List D->Out Rs)(P:bg):SM:=
 (ao (aW (bq (L4 C P) true (ae .non) (bG (U (mN (aZ .min) (U (aa 4) (U (aa 2) ah))) ah)) 0 [1,0]))
 aj)
def C5(F C:List D->Out Rs)(P:bg):SM:=
 (ao (ax 3 (mN (aU C) (U (aa 0) (U (ae (.int 0)) ah))))
 (ao (ax 4 (m2 (aI .Add) (ae (.int 1)) (mN (aU F) (U (aa 3) (U (ae (.int 2)) (U (ae (.int 6)) ah))))))
 (ao (dh (eI (m2 (aD .Eq) (mN (aU F) (U (aa 3) (U (ae (.int 3)) (U (ae (.int 8)) ah)))) (ae (.int 3))) (m2 (aD .Lt) (mN (aZ .len) (U (aa 1) ah)) (ae (.int 9))))
 (ao (ax 4 (ae (.int 12)))
 aj)
 aj)
 (L5 C P))))
theorem GJ{j m:Int}(h0:1<=j)(hm:1<=m):∃ r:Int,aZ .min [.int j,.int m] Ω=.ok (.int r) Ω/\1<=r/\r<=m:=by
 refine⟨if m < j then m else j,?_,?_,?_⟩
 ·show kB .min [.int j,.int m] Ω=_
  unfold kB;rw[jP];simp
 ·split<;>omega
 ·split<;>omega
def Bh(W:bg):Prop:=∀ (Ω:ay) ns (x:Nat) (xs:List Str) (m:Nat),1<=m->m<=12->xs.length<=24->Ω[x]?=some (.lst (xs.map .str))->∃ (rs:List (List Str)) (k:Nat) (js:List Nat) (ak:ay),((∀ r∈rs,r.Sublist xs)/\1<=rs.length/\js.Nodup/\(∀ j∈js,Ω.length<=j)/\k∉js/\Ω.length<=k)/\rs.length<=m/\W [SC ns,.ref x,.int m] Ω=.ok (.ref k) ak/\Rw ak k js rs/\aq [] Ω ak
theorem C6{P:bg}(hμ:dC μ F)(pz:mV κ C)(hP:GH P):Bh (bB 5 3 (C5 F C P)):=by
 intro Ω ns x xs mm hm1 hmm hx hX;rw[bY (by rfl)]
 have e0:aR 5 [SC ns,.ref x,.int mm]=[some (SC ns),some (.ref x),some (.int mm),none,none]:=rfl;rw[e0];obtain⟨a0,a1,ha⟩:=hμ (κ ns 0) 2 6 (by omega) (by omega) (by omega)
 obtain⟨b0,b1,hb⟩:=hμ (κ ns 0) 3 8 (by omega) (by omega) (by omega)
 have k0:C [SC ns,.int 0]=.ok (false,.int (κ ns 0)):=pz ns 0;have hlen:=dO hX;rw[List.length_map]at hlen
 have main:∀ n:Int,1<=n->n<=12->∃ (rs:List (List Str)) (k:Nat) (js:List Nat) (ak:ay),((∀ r∈rs,r.Sublist xs)/\1<=rs.length/\js.Nodup/\(∀ j∈js,Ω.length<=j)/\k∉js/\Ω.length<=k)/\rs.length<=mm/\fV (L5 C P [some (SC ns),some (.ref x),some (.int mm),some (.int (κ ns 0)),some (.int n)] Ω)=.ok (.ref k) ak/\Rw ak k js rs/\aq [] Ω ak:=by
  intro n h0 h12;obtain⟨n',hm,hn0,hnm⟩:=GJ (Ω:=Ω) (m:=(mm:Int)) h0 (by omega)
  have hin:hW n'=true:=dH (by omega) (by omega)
  have gH:(bG (U (mN (aZ .min) (U (aa 4) (U (aa 2) ah))) ah)) [some (SC ns),some (.ref x),some (.int mm),some (.int (κ ns 0)),some (.int n)] Ω=.ok (.ints 0 n'.toNat) Ω:=by simp[hm,hin]
  obtain⟨ys,aw,e,js,rs,rfl,h1,h2,h3,hjn,hjl,K⟩:=sV (me:=L4 C P) (mc:=ae .non) (cap:=[1,0]) (ds:=intsFrom 0 n'.toNat) (fun i acc aw=>∃ js rs,acc=js.map .ref/\jk aw js rs/\rs.length=i/\(∀ r∈rs,r.Sublist xs)/\js.Nodup/\(∀ j∈js,Ω.length<=j)/\aq [] Ω aw) gH ⟨[],[],rfl,.nil,rfl,by simp,by simp,by simp,aq.refl⟩
   (fun _ _ _ _=>rfl) (fun i d acc aw hd h=>by
    obtain⟨js,rs,rfl,h1,h2,h3,hjn,hjl,K⟩:=h;obtain⟨rfl,hlt⟩:=dI hd;have kk:C [SC ns,.int (3 + (i:Int))]=.ok (false,.int (κ ns (3 + i))):=by have:=pz ns (3 + i);rwa[show((3 + i:Nat):Int)=3 + (i:Int) by omega]at this
    obtain⟨ys,hy,e⟩:=hP aw (κ ns (3 + i)) x xs (by omega) (K.get _ _ hX (by simp))
    rw[show(0:Int) + (i:Int)=(i:Int) by omega]
    refine⟨.ref aw.length,aw++[.lst (ys.map .str)],by simp[L4,dc,kk,e],js++[aw.length],rs++[ys],by simp,(h1.keep (fp:=[]) aq.app (by simp)).snoc aF,by simp[h2],?_,?_,?_,K.trans aq.app⟩
    ·intro r hr
     rcases List.mem_append.mp hr with h | h
     ·exact h3 r h
     ·rw[List.mem_singleton.mp h];exact hy
    ·refine List.nodup_append.mpr ⟨hjn,by simp,fun a ha b hb => ?_⟩
     rw[List.mem_singleton.mp hb];have:=h1.lt a ha;omega
    ·intro j hj
     rcases List.mem_append.mp hj with h | h
     ·exact hjl j h
     ·rw[List.mem_singleton.mp h];exact K.len) (by rw[cp];omega)
  rw[cp]at h2;refine⟨rs,aw.length,js,aw++[.lst (js.map .ref)],⟨h3,by omega,hjn,hjl,fun h=>(by have:=h1.lt _ h;omega),K.len⟩,by omega,?_,⟨aF,h1.keep (fp:=[]) aq.app (by simp)⟩,K.trans aq.app⟩
  unfold L5;rw[ai,dM,e];rfl
 have r1:(ax 3 (mN (aU C) (U (aa 0) (U (ae (.int 0)) ah)))) [some (SC ns),some (.ref x),some (.int mm),none,none] Ω=.nx [some (SC ns),some (.ref x),some (.int mm),some (.int (κ ns 0)),none] Ω:=by simp[k0]
 have r2:(ax 4 (m2 (aI .Add) (ae (.int 1)) (mN (aU F) (U (aa 3) (U (ae (.int 2)) (U (ae (.int 6)) ah)))))) [some (SC ns),some (.ref x),some (.int mm),some (.int (κ ns 0)),none] Ω=.nx [some (SC ns),some (.ref x),some (.int mm),some (.int (κ ns 0)),some (.int (1 + μ (κ ns 0) 2 6))] Ω:=by simp[ha]
 have r3:∃ n:Int,1<=n/\n<=12/\(dh (eI (m2 (aD .Eq) (mN (aU F) (U (aa 3) (U (ae (.int 3)) (U (ae (.int 8)) ah)))) (ae (.int 3))) (m2 (aD .Lt) (mN (aZ .len) (U (aa 1) ah)) (ae (.int 9)))) (ao (ax 4 (ae (.int 12))) aj) aj) [some (SC ns),some (.ref x),some (.int mm),some (.int (κ ns 0)),some (.int (1 + μ (κ ns 0) 2 6))] Ω=.nx [some (SC ns),some (.ref x),some (.int mm),some (.int (κ ns 0)),some (.int n)] Ω:=by
  by_cases h3:μ (κ ns 0) 3 8=3
  ·by_cases h9:(xs.length:Int) < 9
   ·exact⟨12,by omega,by omega,by simp[hb,h3,hlen,h9]⟩
   ·exact⟨1 + μ (κ ns 0) 2 6,by omega,by omega,by simp[hb,h3,hlen,h9]⟩
  ·have hb3:(μ (κ ns 0) 3 8 == 3)=false:=by simpa using h3
   exact⟨1 + μ (κ ns 0) 2 6,by omega,by omega,by simp[hb,hb3]⟩
 obtain⟨n,n0,n1,r3⟩:=r3;obtain⟨rs,k,js,ak,x1,x2,x3,x4,x5⟩:=main n n0 n1;refine⟨rs,k,js,ak,x1,x2,?_,x4,x5⟩;rw[← x3];unfold C5;rw[ai,r1,aJ,ai,r2,aJ,ai,r3,aJ]
end
section
variable{Ω ak:ay}{ρ:aP}{k:Nat}{js:List Nat}{rs:List (List Str)}{row:List Str}{n:Str}
def GK:SM:=(ao (dh (m2 (aD .NotIn) (aa 3) (aa 1))
 (ao (ft (bE eY bu (aa 1) (U (aa 3) ah)))
 aj)
 aj)
 aj)
def L6:SM:=(ao (cF (bA 3) (bf (aa 2)) GK) aj)
def C7:SM:=
 (ao (ax 1 (mN cQ ah))
 (ao (cF (bA 2) (bf (aa 0)) L6)
 (ao (aW (aa 1))
 aj)))
theorem C8{q j:Nat}{ws:List Str}{a3:Option D}(hq:Ω[q]?=some (.lst (ws.map .str)))(hj:Ω[j]?=some (.lst (row.map .str)))(Bg:q≠j)(hn:ws.Nodup)(hl:ws.length + row.length<=900) :
  ∃ (us:List Str) (pB:Option D) (ak:ay),L6 [some (.ref k),some (.ref q),some (.ref j),a3] Ω=.nx [some (.ref k),some (.ref q),some (.ref j),pB] ak/\us.Nodup/\(∀ x,x∈us↔x∈ws\/x∈row)/\us.length<=ws.length + row.length/\ak[q]?=some (.lst (us.map .str))/\aq [q] Ω ak:=by
 have gH:bf (aa 2) [some (.ref k),some (.ref q),some (.ref j),a3] Ω=.ok (.seq (.ref j)) Ω:=by
  rw[cw];exact bc (by rw[aN,az hj])
 unfold L6;rw[ai,dN,gH,eQ]
 refine cM (R:=fun r=>∃ (us:List Str) (pB:Option D) (ak:ay),sq r _=.nx [some (.ref k),some (.ref q),some (.ref j),pB] ak/\us.Nodup/\(∀ x,x∈us↔x∈ws\/x∈row)/\us.length<=ws.length + row.length/\ak[q]?=some (.lst (us.map .str))/\aq [q] Ω ak) (ds:=row.map .str)
  (fun i ρ aw=>∃ (us:List Str) (pB:Option D),ρ=[some (.ref k),some (.ref q),some (.ref j),pB]/\us.Nodup/\(∀ x,x∈us↔x∈ws\/x∈row.take i)/\us.length<=ws.length + i/\aw[q]?=some (.lst (us.map .str))/\aq [q] Ω aw) ?_ ?_ ?_ fuel 0 _ _ (by unfold fuel;simp;omega) (Nat.zero_le _) ⟨ws,a3,rfl,hn,by simp,by simp,hq,aq.refl⟩
 ·rintro i ρ aw ⟨_,_,_,_,_,_,_,K⟩
  rw[cx,aN,az (K.get _ _ hj (by simpa using Ne.symm Bg))]
 ·rintro i d ρ aw hd ⟨us,pB,rfl,hu,hm,El,h1,K⟩
  rw[List.getElem?_map]at hd;obtain⟨x,hx,rfl⟩:=Option.map_eq_some_iff.mp hd;have Sr:i < row.length:=(List.getElem?_eq_some_iff.mp hx).1;refine⟨[some (.ref k),some (.ref q),some (.ref j),some (.str x)],rfl,?_⟩;have hin:=iM (w:=x) h1;have ht:row.take (i + 1)=row.take i++[x]:=by rw[List.take_succ,hx];rfl
  by_cases Jy:x∈us
  ·have e:GK [some (.ref k),some (.ref q),some (.ref j),some (.str x)] aw=.nx [some (.ref k),some (.ref q),some (.ref j),some (.str x)] aw:=by
    simp[GK,hin,Jy,-el]
   rw[e];refine⟨us,_,rfl,hu,fun y => ?_,by omega,h1,K⟩
   rw[ht,hm,List.mem_append,List.mem_singleton];constructor
   ·rintro(h | h)
    ·exact .inl h
    ·exact .inr (.inl h)
   ·rintro(h | h | h)
    ·exact .inl h
    ·exact .inr h
    ·subst h;exact(hm y).mp Jy
  ·have hap:=dm (d:=.str x) h1 (by simp;omega)
   have hL:=cJ h1
   have e:GK [some (.ref k),some (.ref q),some (.ref j),some (.str x)] aw=.nx [some (.ref k),some (.ref q),some (.ref j),some (.str x)] (aw.set q (.lst (us.map .str++[.str x]))):=by
    have ea:(ft (bE eY bu (aa 1) (U (aa 3) ah))) [some (.ref k),some (.ref q),some (.ref j),some (.str x)] aw=.nx [some (.ref k),some (.ref q),some (.ref j),some (.str x)] (aw.set q (.lst (us.map .str++[.str x]))):=by
     rw[fN,da (x:=.ref q) (ak:=aw) (by simp) hL]
     simp[hap]
    unfold GK;rw[ai,cS];have ec:(m2 (aD .NotIn) (aa 3) (aa 1)) [some (.ref k),some (.ref q),some (.ref j),some (.str x)] aw=.ok (.bl true) aw:=by simp[hin,Jy,-el]
    rw[ec];simp only[jO,c9,jN,eQ,if_true,ai,ea,aJ,kR]
   rw[e];refine⟨us++[x],_,rfl,?_,fun y => ?_,by simp;omega,by rw[cB h1];simp,K.trans (aq.set (by simp))⟩
   ·rw[List.nodup_append]
    refine⟨hu,by simp,fun a ha b hb hab => ?_⟩
    rw[List.mem_singleton.mp hb]at hab;exact Jy (hab▸ha)
   ·rw[ht,List.mem_append,hm,List.mem_append,List.mem_singleton,or_assoc]
 ·rintro ρ aw ⟨us,pB,rfl,hu,hm,El,h1,K⟩
  rw[List.length_map]at hm El;rw[List.take_length]at hm;exact⟨us,pB,aw,rfl,hu,hm,El,h1,K⟩
def C9(A:bg):Prop:=∀ (Ω:ay) (k:Nat) (js:List Nat) (rs:List (List Str)),Rw Ω k js rs->rs.length<=12->(∀ r∈rs,r.length<=24)->∃ (us:List Str) (q:Nat) (ak:ay),us.Nodup/\(∀ x,x∈us↔∃ r∈rs,x∈r)/\A [.ref k] Ω=.ok (.ref q) ak/\ak[q]?=some (.lst (us.map .str))/\aq [] Ω ak
theorem GL:C9 (bB 4 1 C7):=by
 intro Ω k js rs R hl hr;rw[bY (by rfl)]
 have e0:aR 4 [D.ref k]=[some (.ref k),none,none,none]:=rfl;rw[e0];have hL:=R.len;have g1:(Ω++[Cell.lst []])[Ω.length]?=some (.lst (([]:List Str).map .str)):=aF;have K1:aq [] Ω (Ω++[Cell.lst []]):=aq.app;have r1:(ax 1 (mN cQ ah)) [some (.ref k),none,none,none] Ω=.nx [some (.ref k),some (.ref Ω.length),none,none] (Ω++[Cell.lst []]):=by simp[ba]
 have R1:=R.keep K1;have kl:=eF R.ce;have jl:=R.al.lt;generalize Ω++[Cell.lst []]=ag at *
 have gH:bf (aa 0) [some (.ref k),some (.ref Ω.length),none,none] ag=.ok (.seq (.ref k)) ag:=by
  rw[cw];exact bc (by rw[aN,az R1.ce])
 have kp:∀ aw,aq [Ω.length] ag aw->Rw aw k js rs:=fun aw K=>R1.sW K (by simp;omega) (fun j hj h=>by have:=jl j hj;have:=List.mem_singleton.mp h;omega)
 unfold C7;rw[ai,r1,aJ,ai,dN,gH,eQ]
 refine cM (R:=fun r=>∃ (us:List Str) (q:Nat) (ak:ay),us.Nodup/\(∀ x,x∈us↔∃ r∈rs,x∈r)/\fV (sq r _)=.ok (.ref q) ak/\ak[q]?=some (.lst (us.map .str))/\aq [] Ω ak) (ds:=js.map .ref)
  (fun i ρ aw=>∃ (us:List Str) (a2 a3:Option D),ρ=[some (.ref k),some (.ref Ω.length),a2,a3]/\us.Nodup/\(∀ x,x∈us↔∃ r∈rs.take i,x∈r)/\us.length<=24 * i/\aw[Ω.length]?=some (.lst (us.map .str))/\aq [Ω.length] ag aw) ?_ ?_ ?_ fuel 0 _ _ (by unfold fuel;simp;omega) (Nat.zero_le _) ⟨[],none,none,rfl,List.nodup_nil,by simp,by simp,g1,aq.refl⟩
 ·rintro i ρ aw ⟨_,_,_,_,_,_,_,_,K⟩
  rw[cx,aN,az (kp _ K).ce]
 ·rintro i d ρ aw hd ⟨us,a2,a3,rfl,hu,hm,El,h1,K⟩
  obtain⟨j,hj,rfl⟩:=kX hd;obtain⟨row,Em,hrow⟩:=(kp _ K).al.at' hj;have hil:i < rs.length:=(List.getElem?_eq_some_iff.mp Em).1;have hrl:=hr row (List.mem_of_getElem? Em);refine⟨[some (.ref k),some (.ref Ω.length),some (.ref j),a3],rfl,?_⟩;have:=jl j (List.mem_of_getElem? hj);obtain⟨vs,pB,aV,e,v1,v2,v3,v4,K3⟩:=C8 (k:=k) (a3:=a3) h1 hrow (by omega) hu (by omega)
  rw[e];refine⟨vs,some (.ref j),pB,rfl,v1,fun x => ?_,by omega,v4,K.trans K3⟩
  rw[v2,hm,List.take_succ,Em];simp only[List.mem_append,Option.toList_some,List.mem_singleton];constructor
  ·rintro(⟨r,hr,hx⟩ | hx)
   ·exact⟨r,.inl hr,hx⟩
   ·exact⟨row,.inr rfl,hx⟩
  ·rintro⟨r,hr | rfl,hx⟩
   ·exact .inl ⟨r,hr,hx⟩
   ·exact .inr hx
 ·rintro ρ aw ⟨us,a2,a3,rfl,hu,hm,El,h1,K⟩
  rw[List.length_map,← hL,List.take_length]at hm;exact⟨us,Ω.length,aw,hu,hm,rfl,h1,aq.new K1 K (by simp)⟩
theorem qU{rs:List (List Str)}{o:List Str}(M:Mg rs o):∀ r∈rs,r.Sublist o:=by
 induction M with
 | done h=>intro r hr;rw[h r hr];exact List.nil_sublist _
 | @step rs n o hne hf _ ih=>
  intro r hr;have h:=ih _ (List.mem_map.mpr ⟨r,hr,rfl⟩);unfold br at h;split at h
  ·rename_i he
   cases r with
   | nil=>simp at he
   | cons x t=>
    have:x=n:=by simpa using he
    subst this;exact h.cons_cons _
  ·exact h.cons _
theorem sorted_strs{xs:List Str}(h:xs.length < 64):fE (xs.map .str)=.ok ((xs.mergeSort bz).map .str):=by
 unfold fE;rw[if_neg (by simp;omega)]
 cases xs with
 | nil=>simp[ja]
 | cons x xs=>
  have:ja ((x::xs).map .str)=none:=rfl
  have gen:∀ xs:List Str,fP (xs.map .str)=some xs:=fun xs=>by
   induction xs with
   | nil=>rfl
   | cons x xs ih=>simp[fP,ih]
  rw[this,gen]
theorem sorted_ints{xs:List Int}(h:xs.length < 64):fE (xs.map .int)=.ok ((xs.mergeSort fun a b=>decide (a<=b)).map .int):=by
 unfold fE;rw[if_neg (by simp;omega)]
 have gen:∀ xs:List Int,ja (xs.map .int)=some xs:=fun xs=>by
  induction xs with
  | nil=>rfl
  | cons x xs ih=>simp[ja,ih]
 rw[gen]
theorem kZ{xs:List Str}(hk:Ω[k]?=some (.lst (xs.map .str)))(h:xs.length < 64):fk [.ref k] Ω=.ok (.ref Ω.length) (Ω++[.lst ((xs.mergeSort bz).map .str)]):=by
 simp only[fk,az hk,sorted_strs h,eR]
end
section
variable{Ω ak:ay}{ρ:aP}{k:Nat}{js:List Nat}{rs:List (List Str)}{row:List Str}{n:Str}
def Jz:EM:=(wg (iD (m1 (dJ .list) (aa 0))) (iD (mN (aZ .all) (U (bq (m1 (dJ .str) (aa 0)) true (ae .non) (bf (aa 0)) 0 []) ah))))
def GN(A:bg):EM:=(m2 (aD .NotEq) (mN fk (U (aa 0) ah)) (mN fk (U (mN (aL A) (U (aa 1) ah)) ah)))
def L7:EM:=(bq (bE eY bF (aa 1) (U (aa 0) ah)) true (ae .non) (bf (aa 2)) 0 [0])
def L8:SM:=(ao (ax 3 L7)
 (ao (dh (m2 (aD .NotEq) (aa 3) (mN fk (U (aa 3) ah)))
 (ao (aW (ae (.bl false)))
 aj)
 aj)
 aj))
def Al(A:bg):SM:=
 (ao (dh Jz
 (ao (aW (ae (.bl false)))
 aj)
 aj)
 (ao (dh (GN A)
 (ao (aW (ae (.bl false)))
 aj)
 aj)
 (ao (cF (bA 2) (bf (aa 1)) L8)
 (ao (aW (ae (.bl true)))
 aj))))
theorem sX{j:Nat}{t:Ty}{ds:List D}(h:Ω[j]?=some (.lst ds)):dJ t (.ref j) Ω=.ok (.bl (t == .list)) Ω:=by
 unfold dJ;rw[zT];simp only[Cz,h];rfl
theorem GO{α:Type}{m:Nat}(xs:List α):bD (d0 Ω m) (xs.map fun _=>D.bl true)=some (xs.map fun _=>D.bl true):=nE (fun _=>CI) xs
theorem C_{f:Nat}{o:List Str}{a1 a2 a3:Option D}(hf:Ω[f]?=some (.lst (o.map .str)))(hl:o.length<=900):∃ ak,Jz [some (.ref f),a1,a2,a3] Ω=.ok (.bl false) ak/\aq [] Ω ak:=by
 have gH:bf (aa 0) [some (.ref f),a1,a2,a3] Ω=.ok (.seq (.ref f)) Ω:=by
  rw[cw];exact bc (by rw[aN,az hf])
 have hc:=c_ (me:=m1 (dJ .str) (aa 0)) (nc:=true) (mc:=ae .non) (cap:=[]) (ds:=o.map .str) (p:=fun _=>true) (g:=fun _=>.bl true) gH (by rw[cx,aN,az hf]) (fun d hd=>rfl) (fun d hd _=>by
  obtain⟨x,_,rfl⟩:=List.mem_map.mp hd;simp[dc]) (by simp;omega)
 rw[List.filter_eq_self.mpr (by simp),List.map_map]at hc
 have g1:(Ω++[Cell.lst (o.map ((fun _=>D.bl true) ∘ D.str))])[Ω.length]?=some (.lst (o.map ((fun _=>D.bl true) ∘ D.str))):=aF
 have K1:aq [] Ω (Ω++[Cell.lst (o.map ((fun _=>D.bl true) ∘ D.str))]):=aq.app
 generalize Ω++[Cell.lst (o.map ((fun _=>D.bl true) ∘ D.str))]=ag at *
 have hall:aZ .all [.ref Ω.length] ag=.ok (.bl true) ag:=by
  show kB .all [.ref Ω.length] ag=_
  unfold kB;rw[jP];have hr:=iK (n:=7) g1 (GO o);have:bD (d0 ag 8) [.ref Ω.length]=some [.lst (o.map fun _=>D.bl true)]:=by rw[nB,hr];rfl
  rw[this,sM,w9,rZ (p:=fun _=>true)]
  have:(o.map fun _=>true).all id=true:=by simp
  show fh ag (.ok (false,.bl ((o.map fun _=>true).all id)))=_
  rw[this,w8]
 have hi:=sX (t:=.list) hf;refine⟨ag,?_,K1⟩
 have e1:(iD (m1 (dJ .list) (aa 0))) [some (.ref f),a1,a2,a3] Ω=.ok (.bl false) Ω:=by
  rw[sJ,A_,show aa 0 [some (.ref f),a1,a2,a3] Ω=.ok (.ref f) Ω from rfl,aO,hi]
  rfl
 have e2:(iD (mN (aZ .all) (U (bq (m1 (dJ .str) (aa 0)) true (ae .non) (bf (aa 0)) 0 []) ah))) [some (.ref f),a1,a2,a3] Ω=.ok (.bl false) ag:=by
  rw[sJ,Ba,fu,hc,aO,jK,aO,aO,hall];rfl
 unfold Jz;rw[CH,e1,aO,c9,sI,e2]
end
end Mir
namespace Mir
open PySem
inductive Sk:List (List Str)->Prop
 | stuck {rs}:(∃ r∈rs,r≠[])->free rs=none->Sk rs
 | step {rs n}:(∃ r∈rs,r≠[])->free rs=some n->Sk (rs.map (br n))->Sk rs
noncomputable def tot(rs:List (List Str)):Nat:=(rs.map List.length).sum
theorem mf(n:Str)(r:List Str):(br n r).length<=r.length:=by
 unfold br;split
 ·rw[List.length_tail];omega
 ·omega
theorem xD(n:Str):∀ rs:List (List Str),tot (rs.map (br n))<=tot rs
 | []=>Nat.le_refl _
 | r::rs=>by
  have h1:=mf n r;have h2:=xD n rs;simp only[tot,List.map_cons,List.sum_cons]at *;omega
theorem qV{n:Str}:∀ {rs:List (List Str)},(∃ r∈rs,∃ t,r=n::t)->tot (rs.map (br n)) < tot rs
 | [],⟨r,h,_⟩=>by simp at h
 | r0::rs,⟨r,h,t,e⟩=>by
  have h1:=mf n r0;have h2:=xD n rs;rcases List.mem_cons.mp h with rfl | h
  ·subst e
   have h3:(br n (n::t)).length=t.length:=by unfold br;rw[if_pos (by simp)];rfl
   simp only[tot,List.map_cons,List.sum_cons,List.length_cons]at *;omega
  ·have h3:=qV ⟨r,h,t,e⟩
   simp only[tot,List.map_cons,List.sum_cons]at *;omega
theorem xE:∀ (m:Nat) (rs:List (List Str)),tot rs < m->(∃ o,Mg rs o/\o.length<=tot rs)\/Sk rs:=by
 intro m
 induction m with
 | zero=>intro rs h;omega
 | succ m ih=>
  intro rs h
  by_cases hn:∃ r∈rs,r≠[]
  ·cases hf:free rs with
   | none=>exact .inr (.stuck hn hf)
   | some n=>
    have hl:=qV (fJ hf).1;rcases ih (rs.map (br n)) (by omega) with ⟨o,M,h2⟩ | S
    ·exact .inl ⟨n::o,.step hn hf M,by simp;omega⟩
    ·exact .inr (.step hn hf S)
  ·refine .inl ⟨[],.done fun r hr => ?_,by simp⟩
   by_cases q:r=[]
   ·exact q
   ·exact absurd ⟨r,hr,q⟩ hn
section
variable{f:Str->Str}{rs:List (List Str)}
def iO(f:Str->Str)(rs:List (List Str)):Prop:=∀ a b,(∃ r∈rs,a∈r)->(∃ r∈rs,b∈r)->f a=f b->a=b
theorem qW(hi:iO f rs){r:List Str}(hr:r∈rs):freeOf (rs.map (List.map f)) (r.map f)=(freeOf rs r).map f:=by
 cases r with
 | nil=>rfl
 | cons n t=>
  have hn:∃ r∈rs,n∈r:=⟨_,hr,by simp⟩
  by_cases h:∃ t∈rs,n∈t.tail
  ·rw[dZ h,List.map_cons,dZ]
   ·rfl
   ·obtain⟨t,h1,h2⟩:=h
    exact⟨t.map f,List.mem_map_of_mem h1,by rw[← List.map_tail];exact List.mem_map_of_mem h2⟩
  ·rw[cP h,List.map_cons,cP]
   ·rfl
   ·rintro⟨t',h1,h2⟩
    obtain⟨t,h3,rfl⟩:=List.mem_map.mp h1;rw[← List.map_tail]at h2;obtain⟨b,h4,h5⟩:=List.mem_map.mp h2;exact h ⟨t,h3,by rw[← hi b n ⟨t,h3,List.mem_of_mem_tail h4⟩ hn h5];exact h4⟩
theorem k6(hi:iO f rs):free (rs.map (List.map f))=(free rs).map f:=by
 unfold free;rw[List.findSome?_map]
 have:∀ (ts:List (List Str)),(∀ t∈ts,t∈rs)->ts.findSome? (freeOf (rs.map (List.map f)) ∘ List.map f)=(ts.findSome? (freeOf rs)).map f:=by
  intro ts
  induction ts with
  | nil=>intro _;rfl
  | cons t ts ih=>
   intro h;rw[List.findSome?_cons,List.findSome?_cons,Function.comp_apply,qW hi (h t (by simp))]
   cases freeOf rs t with
   | none=>exact ih fun t ht=>h t (by simp[ht])
   | some b=>rfl
 exact this rs fun _ h=>h
theorem ux{n:Str}{r:List Str}(hi:∀ b∈r,f b=f n->b=n):br (f n) (r.map f)=(br n r).map f:=by
 cases r with
 | nil=>unfold br;simp
 | cons b t=>
  unfold br
  by_cases h:b=n
  ·subst h;simp
  ·have h2:f b≠f n:=fun q=>h (hi b (by simp) q)
   simp[h,h2]
theorem mj{n:Str}(hi:iO f rs)(hn:∃ r∈rs,n∈r):(rs.map (List.map f)).map (br (f n))=(rs.map (br n)).map (List.map f):=by
 rw[List.map_map,List.map_map];refine List.map_congr_left fun r hr => ?_
 exact ux fun b hb q=>hi b n ⟨r,hr,hb⟩ hn q
theorem mn{n a:Str}{r:List Str}(h:a∈br n r):a∈r:=by
 unfold br at h;split at h
 ·exact List.mem_of_mem_tail h
 ·exact h
theorem iO.step{n:Str}(hi:iO f rs):iO f (rs.map (br n)):=fun a b ha hb q=>by
 obtain⟨r,h1,h2⟩:=ha;obtain⟨r',h3,h4⟩:=hb;obtain⟨s,h5,rfl⟩:=List.mem_map.mp h1;obtain⟨s',h6,rfl⟩:=List.mem_map.mp h3;exact hi a b ⟨s,h5,mn h2⟩ ⟨s',h6,mn h4⟩ q
theorem qX(h:∃ r∈rs,r≠[]):∃ r∈rs.map (List.map f),r≠[]:=by
 obtain⟨r,h1,h2⟩:=h;exact⟨r.map f,List.mem_map_of_mem h1,by simpa using h2⟩
theorem Mg.map{o:List Str}(M:Mg rs o):iO f rs->Mg (rs.map (List.map f)) (o.map f):=by
 induction M with
 | done h=>
  intro _;refine .done fun r hr => ?_
  obtain⟨s,h1,rfl⟩:=List.mem_map.mp hr;rw[h s h1];rfl
 | step h hf _ ih=>
  intro hi;obtain⟨⟨r,hr,t,rfl⟩,_⟩:=fJ hf;refine .step (qX h) (by rw[k6 hi,hf];rfl) ?_
  rw[mj hi ⟨_,hr,by simp⟩]
  exact ih hi.step
theorem Sk.map(S:Sk rs):iO f rs->Sk (rs.map (List.map f)):=by
 induction S with
 | stuck h hf=>exact fun hi=>.stuck (qX h) (by rw[k6 hi,hf];rfl)
 | step h hf _ ih=>
  intro hi;obtain⟨⟨r,hr,t,rfl⟩,_⟩:=fJ hf;refine .step (qX h) (by rw[k6 hi,hf];rfl) ?_
  rw[mj hi ⟨_,hr,by simp⟩]
  exact ih hi.step
end
structure eG(w:List Str)(rs:List (List Str)):Prop where
 nd:w.Nodup
 mem:∀ a,a∈w↔∃ r∈rs,a∈r
 sub:∀ r∈rs,∀ (i j:Nat) (a b:Str),r[i]?=some a->r[j]?=some b->i < j->w.idxOf a < w.idxOf b
noncomputable def ig(p:List Str)(r:List Str):List Str:=r.filter fun n=>decide (n∉p)
theorem step_filter{n:Str}{r:List Str}(h:n∉r.tail):br n r=r.filter fun a=>decide (a≠n):=by
 cases r with
 | nil=>rfl
 | cons b t=>
  have ht:t.filter (fun a=>decide (a≠n))=t:=List.filter_eq_self.mpr fun a ha=>by
   have h:n∉t:=h;exact decide_eq_true fun q=>h (q▸ha)
  unfold br
  by_cases hb:b=n
  ·subst hb
   rw[if_pos (by simp),List.filter_cons_of_neg (by simp),ht]
   rfl
  ·rw[if_neg (by simpa using hb),List.filter_cons_of_pos (by simpa using hb),ht]
theorem xF{n:Str}{p r:List Str}(h:n∉(ig p r).tail):br n (ig p r)=ig (p++[n]) r:=by
 rw[step_filter h];unfold ig;rw[List.filter_filter];refine List.filter_congr fun a _ => ?_
 by_cases h1:a=n<;>by_cases h2:a∈p<;>simp[h1,h2]
theorem pE{rs:List (List Str)}{o:List Str}(M:Mg rs o):∀ (i:Nat) (n:Str) (p0:List Str) (Bi:List (List Str)),rs=Bi.map (ig p0)->o[i]?=some n->free (Bi.map (ig (p0++o.take i)))=some n:=by
 induction M with
 | done h=>intro i n p0 Bi _ e;simp at e
 | @step rs m o h hf _ ih=>
  intro i n p0 Bi e hn;subst e;cases i with
  | zero=>simp at hn;subst hn;simpa using hf
  | succ i=>
   have e2:(Bi.map (ig p0)).map (br m)=Bi.map (ig (p0++[m])):=by
    rw[List.map_map];refine List.map_congr_left fun r hr => ?_
    exact xF ((fJ hf).2 _ (List.mem_map_of_mem hr))
   have:=ih i n (p0++[m]) Bi e2 (by simpa using hn)
   rw[List.append_assoc]at this;simpa using this
theorem qY{rs:List (List Str)}{n:Str}(h:free rs=some n):∃ (i:Nat) (r:List Str),rs[i]?=some r/\freeOf rs r=some n/\∀ (j:Nat) (s:List Str),j < i->rs[j]?=some s->freeOf rs s=none:=by
 unfold free at h
 have:∀ (ts:List (List Str)),ts.findSome? (freeOf rs)=some n->∃ (i:Nat) (r:List Str),ts[i]?=some r/\freeOf rs r=some n/\∀ (j:Nat) (s:List Str),j < i->ts[j]?=some s->freeOf rs s=none:=by
  intro ts
  induction ts with
  | nil=>intro h;cases h
  | cons t ts ih=>
   intro h;rw[List.findSome?_cons]at h;cases q:freeOf rs t with
   | some m=>
    rw[q]at h;cases h;exact⟨0,t,rfl,q,fun j s hj=>by omega⟩
   | none=>
    rw[q]at h;obtain⟨i,r,h1,h2,h3⟩:=ih h;refine⟨i + 1,r,by simpa using h1,h2,fun j s hj hs => ?_⟩
    cases j with
    | zero=>simp at hs;rw[← hs];exact q
    | succ j=>exact h3 j s (by omega) (by simpa using hs)
 exact this rs h
theorem pF{rs:List (List Str)}{r:List Str}{n:Str}(h:freeOf rs r=some n):∃ t,r=n::t:=by
 cases r with
 | nil=>cases h
 | cons x t=>
  by_cases hb:∃ t∈rs,x∈t.tail
  ·rw[dZ hb]at h;cases h
  ·rw[cP hb]at h;cases h;exact⟨t,rfl⟩
theorem uy{w:List Str}{rs:List (List Str)}(hw:eG w rs)(hr:∀ r∈rs,r.Nodup){i:Nat}{y:Str}(hy:w[i]?=some y) :
  (∃ r∈rs,∃ t,ig (w.take i) r=y::t)/\∀ r∈rs,y∉(ig (w.take i) r).tail:=by
 have hiy:w.idxOf y=i:=by
  obtain⟨hl,e⟩:=List.getElem?_eq_some_iff.mp hy;subst e;exact List.Nodup.idxOf_getElem hw.nd i hl
 have key:∀ r∈rs,y∈r->∃ t,ig (w.take i) r=y::t/\y∉t:=by
  intro r hr' hm;obtain⟨a,b,rfl⟩:=List.append_of_mem hm
  have ha:∀ x∈a,x∈w.take i:=by
   intro x hx;obtain⟨j,hj⟩:=List.mem_iff_getElem?.mp hx;have hjl:=(List.getElem?_eq_some_iff.mp hj).1;have h1:=hw.sub _ hr' j a.length x y (by rw[List.getElem?_append_left hjl];exact hj) (by simp) hjl
   rw[hiy]at h1;have hxw:x∈w:=(hw.mem x).mpr ⟨_,hr',by simp[hx]⟩
   have h2:=List.idxOf_lt_length_of_mem hxw;rw[List.mem_take_iff_getElem];exact⟨w.idxOf x,by omega,List.getElem_idxOf h2⟩
  have hnd:=hr _ hr';rw[List.nodup_append]at hnd;obtain⟨_,hb,hab⟩:=hnd
  have hyp:y∉w.take i:=fun q=>by
   rw[List.mem_take_iff_getElem]at q;obtain⟨j,hj,e⟩:=q;have:=List.Nodup.idxOf_getElem hw.nd j (by omega)
   rw[e,hiy]at this;omega
  refine⟨ig (w.take i) b,?_,fun q=>(List.nodup_cons.mp hb).1 (List.mem_filter.mp q).1⟩
  unfold ig;rw[List.filter_append,List.filter_eq_nil_iff.mpr (fun x hx=>by simpa using ha x hx),List.nil_append,List.filter_cons_of_pos (by simpa using hyp)]
 refine⟨?_,fun r hr' hm => ?_⟩
 ·obtain⟨r,h1,h2⟩:=(hw.mem y).mp (List.mem_of_getElem? hy)
  obtain⟨t,h3,_⟩:=key r h1 h2;exact⟨r,h1,t,h3⟩
 ·have hm':y∈r:=(List.mem_filter.mp (List.mem_of_mem_tail hm)).1
  obtain⟨t,h3,h4⟩:=key r hr' hm';rw[h3]at hm;exact h4 hm
theorem xG:∀ (L:List Str) (i:Nat) (n:Str),L[i]?=some n->L.idxOf n<=i
 | [],i,n,h=>by simp at h
 | x::L,0,n,h=>by simp at h;subst h;simp
 | x::L,i + 1,n,h=>by
  have:=xG L i n (by simpa using h)
  rw[List.idxOf_cons];cases x == n<;>simp<;>omega
noncomputable def eJ(rs:List (List Str)):List Str:=rs.map fun r=>r.headD ""
theorem Am{w o:List Str}{rs:List (List Str)}(M:Mg rs o)(hw:eG w rs)(hr:∀ r∈rs,r.Nodup){i:Nat}{n y:Str}(hn:o[i]?=some n)(hy:w[i]?=some y)(hp:o.take i=w.take i)(hne:n≠y)(hn0:n≠"")(GP:y≠"") :
  n∈eJ (rs.map (ig (o.take i)))/\y∈eJ (rs.map (ig (o.take i)))/\(eJ (rs.map (ig (o.take i)))).idxOf n < (eJ (rs.map (ig (o.take i)))).idxOf y:=by
 have hf:free (rs.map (ig (o.take i)))=some n:=by
  have:=pE M i n [] rs (by
   have:ig []=fun r=>r:=by funext r;unfold ig;simp
   rw[this,List.map_id']) hn
  simpa using this
 obtain⟨⟨r,hr1,t,ht⟩,hy2⟩:=uy hw hr hy;rw[← hp]at ht hy2;generalize hL:rs.map (ig (o.take i))=L at *
 have Qq:∀ s∈L,y∉s.tail:=by
  intro s hs;rw[← hL]at hs;obtain⟨r,h1,rfl⟩:=List.mem_map.mp hs;exact hy2 r h1
 have hyf:∀ s∈L,s.headD ""=y->freeOf L s=some y:=by
  intro s hs e;cases s with
  | nil=>exact absurd (show ""=y from e) (Ne.symm GP)
  | cons x t=>
   simp at e;subst e;exact cP (by rintro⟨u,h1,h2⟩;exact Qq u h1 h2)
 obtain⟨i0,r0,e0,f0,m0⟩:=qY hf;obtain⟨t0,rfl⟩:=pF f0;have hnm:n∈eJ L:=List.mem_map.mpr ⟨_,List.mem_of_getElem? e0,rfl⟩
 have Od:y∈eJ L:=by
  refine List.mem_map.mpr ⟨y::t,?_,rfl⟩;rw[← hL,← ht];exact List.mem_map_of_mem hr1
 refine⟨hnm,Od,?_⟩;have h1:(eJ L)[i0]?=some n:=by unfold eJ;rw[List.getElem?_map,e0];rfl
 have h2:(eJ L).idxOf n<=i0:=xG _ _ _ h1;have Oe:=List.idxOf_lt_length_of_mem Od;have h3:(eJ L)[(eJ L).idxOf y]?=some y:=by rw[List.getElem?_eq_getElem Oe,List.getElem_idxOf Oe]
 generalize (eJ L).idxOf y=i1 at *
 have h4:∃ s,L[i1]?=some s/\s.headD ""=y:=by
  unfold eJ at h3;rw[List.getElem?_map]at h3;obtain⟨s,h5,h6⟩:=Option.map_eq_some_iff.mp h3;exact⟨s,h5,h6⟩
 obtain⟨s,h5,h6⟩:=h4;have h7:=hyf s (List.mem_of_getElem? h5) h6;rcases Nat.lt_trichotomy i1 i0 with q | q | q
 ·rw[m0 i1 s q h5]at h7;cases h7
 ·subst q
  rw[e0]at h5;cases h5;rw[f0]at h7;cases h7;exact absurd rfl hne
 ·omega
theorem iP:∀ (xs ys:List Str),xs.Nodup->(∀ x∈xs,x∈ys)->xs.length<=ys.length
 | [],_,_,_=>Nat.zero_le _
 | x::xs,ys,hn,hs=>by
  have hx:=hs x (by simp)
  have hn':=List.nodup_cons.mp hn
  have:=iP xs (ys.erase x) hn'.2 fun y hy=>by
   have hne:y≠x:=fun q=>hn'.1 (q▸hy)
   exact(List.mem_erase_of_ne hne).mpr (hs y (by simp[hy]))
  rw[List.length_erase_of_mem hx]at this;have:=List.length_pos_of_mem hx;simp only[List.length_cons];omega
abbrev lg:=Str×Str×Nat
structure uG(left:List (List Str))(met:List Str)(steps:List lg)(name:Str):Prop where
 sec:steps.map (·.2.1)=met
 fst:steps.map (·.1)=(met++[name]).tail
 Dc:∀ s∈steps,∃ t,left[s.2.2]?=some (s.1::t)/\s.2.1∈t
 nd:met.Nodup
 hds:∀ m∈met++[name],∃ r∈left,∃ t,r=m::t
section
variable{left:List (List Str)}{met:List Str}{steps:List lg}{name h:Str}{t:List Str}{p:Nat}
theorem uG.step(c:uG left met steps name)(hn:name∉met)(hp:left[p]?=some (h::t))(ht:name∈t):uG left (met++[name]) (steps++[(h,name,p)]) h where
 sec:=by rw[List.map_append,c.sec];rfl
 fst:=by
  rw[List.map_append,c.fst];cases met<;>simp
 Dc:=fun s hs=>by
  rcases List.mem_append.mp hs with hs | hs
  ·exact c.Dc s hs
  ·rw[List.mem_singleton.mp hs];exact⟨t,hp,ht⟩
 nd:=List.nodup_append.mpr ⟨c.nd,by simp,fun a ha b hb=>by rw[List.mem_singleton.mp hb];exact fun q=>hn (q▸ha)⟩
 hds:=fun m hm=>by
  rcases List.mem_append.mp hm with hm | hm
  ·exact c.hds m hm
  ·rw[List.mem_singleton.mp hm];exact⟨_,List.mem_of_getElem? hp,t,rfl⟩
theorem uG.le(c:uG left met steps name):met.length<=left.length:=by
 have h1:=iP met (left.map fun r=>r.headD "") c.nd fun m hm=>by
  obtain⟨r,h1,t,rfl⟩:=c.hds m (by simp[hm])
  exact List.mem_map.mpr ⟨_,h1,rfl⟩
 simpa using h1
theorem uG.len(c:uG left met steps name):steps.length=met.length:=by rw[← c.sec,List.length_map]
structure sY(left:List (List Str))(ss:List lg):Prop where
 ex:∃ n R,ss.map (·.1)=n::R/\ss.map (·.2.1)=R++[n]/\(n::R).Nodup
 Dc:∀ s∈ss,∃ t,left[s.2.2]?=some (s.1::t)/\s.2.1∈t
theorem uG.ring(c:uG left met steps name)(hm:name∈met):sY left (steps.drop (met.idxOf name)).reverse:=by
 have hj:=List.idxOf_lt_length_of_mem hm;have hg:met[met.idxOf name]=name:=List.getElem_idxOf hj;have hd:met.drop (met.idxOf name)=name::met.drop (met.idxOf name + 1):=by rw[List.drop_eq_getElem_cons hj,hg]
 generalize met.idxOf name=j at *;have hnd:(name::met.drop (j + 1)).Nodup:=by rw[← hd];exact c.nd.sublist (List.drop_sublist _ _)
 have h1:(steps.drop j).map (·.1)=met.drop (j + 1)++[name]:=by
  rw[List.map_drop,c.fst,List.drop_tail,List.drop_append_of_le_length (by omega)]
 have h2:(steps.drop j).map (·.2.1)=name::met.drop (j + 1):=by rw[List.map_drop,c.sec,hd]
 refine⟨⟨name,(met.drop (j + 1)).reverse,?_,?_,?_⟩,fun s hs=>c.Dc s (List.mem_of_mem_drop (List.mem_reverse.mp hs))⟩
 ·rw[List.map_reverse,h1,List.reverse_append];rfl
 ·rw[List.map_reverse,h2,List.reverse_cons]
 ·have:=List.nodup_cons.mp hnd
  exact List.nodup_cons.mpr ⟨by simpa using this.1,List.pairwise_reverse.mpr (this.2.imp Ne.symm)⟩
end
open L2
variable [aA]
noncomputable def bJ(s:lg):D:=.tup [.str s.1,.str s.2.1,.int s.2.2]
def An(PB:bg):Prop:=∀ (Ω:ay) (k:Nat) (js:List Nat) (rs:List (List Str)) (n:Str),Rw Ω k js rs->rs.length<=1000->∃ d ak,PB [.ref k,.str n] Ω=.ok d ak/\aq [] Ω ak/\((d=.non/\∀ r∈rs,n∉r.tail)\/∃ i:Nat,d=.int i/\∃ r,rs[i]?=some r/\n∈r.tail)
theorem GQ:An (bB 4 2 pA):=fun _ _ _ _ _ R hl=>xq R hl
section
variable{Ω ak:ay}{ρ:aP}{k:Nat}{js:List Nat}{rs:List (List Str)}{row:List Str}{n:Str}
def L9:EM:=(bq (m2 aM (aa 0) (ae (.int 0))) false (aa 0) (bf (aa 0)) 0 [])
def tR:EM:=(m2 (aD .NotIn) (aa 2) (aa 3))
def hR:EM:=(m2 aM (m2 aM (aa 0) (aa 5)) (ae (.int 0)))
def bR(PB:bg):SM:=
 (ao (ft (bE eY bu (aa 3) (U (aa 2) ah)))
 (ao (ax 5 (mN (aL PB) (U (aa 0) (U (aa 2) ah))))
 (ao (ft (bE eY bu (aa 4) (U (mN ky (U hR (U (aa 2) (U (aa 5) ah)))) ah)))
 (ao (ax 2 hR)
 aj))))
def Ao(PB:bg):SM:=
 (ao (ax 1 L9)
 (ao (ax 2 (m2 aM (aa 1) (ae (.int 0))))
 (ao (ax 3 (mN cQ ah))
 (ao (ax 4 (mN cQ ah))
 (ao (kI tR (bR PB))
 (ao (aW (m1 ur (cf (aa 4) false (bE eY bF (aa 3) (U (aa 2) ah)) true (ae .non))))
 aj))))))
theorem pG{p:Nat}{h:Str}{t:List Str}(R:Rw Ω k js rs)(hp:rs[p]?=some (h::t)){a1 a2 a3 a4:Option D}:hR [some (.ref k),a1,a2,a3,a4,some (.int p)] Ω=.ok (.str h) Ω:=by
 obtain⟨j,hj,hrow⟩:=R.al.at hp;have h1:aM (.ref k) (.int p) Ω=.ok (.ref j) Ω:=bH R.ce (L2.bK (by rw[List.getElem?_map,hj];rfl))
 have h2:aM (.ref j) (.int 0) Ω=.ok (.str h) Ω:=bH hrow (L2.bK (j:=0) rfl);simp[hR,h1,h2]
theorem GR{PB:bg}(hP:An PB){R1 a5:Option D}{qm qs:Nat}{met:List Str}{steps:List lg}{name:Str}(R:Rw Ω k js rs)(hl:rs.length<=1000)(hm:Ω[qm]?=some (.lst (met.map .str)))(hq:Ω[qs]?=some (.lst (steps.map bJ)))
  (d1:qm≠qs) (d2:qm≠k) (d3:qs≠k) (d4:qm∉js) (d5:qs∉js) (hb:∃ r∈rs,name∈r.tail) (l1:met.length<=1000) (l2:steps.length<=1000) :
  ∃ (p:Nat) (h:Str) (t:List Str) (ak:ay),rs[p]?=some (h::t)/\name∈t/\bR PB [some (.ref k),R1,some (.str name),some (.ref qm),some (.ref qs),a5] Ω=.nx [some (.ref k),R1,some (.str h),some (.ref qm),some (.ref qs),some (.int p)] ak /\
   Rw ak k js rs/\ak[qm]?=some (.lst ((met++[name]).map .str))/\ak[qs]?=some (.lst ((steps++[(h,name,p)]).map bJ))/\aq [qm,qs] Ω ak:=by
 have a1:=dm (d:=.str name) hm (by simp;omega)
 have i1:=cJ hm;have K1:aq [qm] Ω (Ω.set qm (.lst (met.map .str++[.str name]))):=aq.set (by simp)
 have m1:(Ω.set qm (.lst (met.map .str++[.str name])))[qm]?=some (.lst ((met++[name]).map .str)):=by rw[cB hm];simp
 have q1:(Ω.set qm (.lst (met.map .str++[.str name])))[qs]?=some (.lst (steps.map bJ)):=K1.get _ _ hq (by simpa using Ne.symm d1)
 have r1:(ft (bE eY bu (aa 3) (U (aa 2) ah))) [some (.ref k),R1,some (.str name),some (.ref qm),some (.ref qs),a5] Ω=.nx [some (.ref k),R1,some (.str name),some (.ref qm),some (.ref qs),a5] (Ω.set qm (.lst (met.map .str++[.str name]))):=by
  rw[fN,da (x:=.ref qm) (ak:=Ω) (by simp) i1]
  simp[a1]
 generalize Ω.set qm (.lst (met.map .str++[.str name]))=ag at *;have JA:Rw ag k js rs:=R.sW K1 (by simpa using Ne.symm d2) (fun j hj h=>d4 (by rw[← List.mem_singleton.mp h];exact hj))
 obtain⟨d,aw,e2,K2,hd⟩:=hP ag k js rs name JA hl;rcases hd with ⟨_,hz⟩ | ⟨p,rfl,r,hp,hn⟩
 ·obtain⟨r,h1,h2⟩:=hb
  exact absurd h2 (hz r h1)
 cases r with
 | nil=>simp at hn
 | cons h t=>
 have r2:(ax 5 (mN (aL PB) (U (aa 0) (U (aa 2) ah)))) [some (.ref k),R1,some (.str name),some (.ref qm),some (.ref qs),a5] ag=.nx [some (.ref k),R1,some (.str name),some (.ref qm),some (.ref qs),some (.int p)] aw:=by simp[e2]
 have R2:=JA.keep K2;have m2:=K2.get _ _ m1 (by simp)
 have q2:=K2.get _ _ q1 (by simp)
 have hh:hR [some (.ref k),R1,some (.str name),some (.ref qm),some (.ref qs),some (.int p)] aw=.ok (.str h) aw:=pG R2 hp;have a3:=dm (d:=bJ (h,name,p)) q2 (by simp;omega)
 have i3:=cJ q2;have K3:aq [qs] aw (aw.set qs (.lst (steps.map bJ++[bJ (h,name,p)]))):=aq.set (by simp)
 have q3:(aw.set qs (.lst (steps.map bJ++[bJ (h,name,p)])))[qs]?=some (.lst ((steps++[(h,name,p)]).map bJ)):=by rw[cB q2];simp
 have m3:=K3.get _ _ m2 (by simpa using d1)
 have r3:(ft (bE eY bu (aa 4) (U (mN ky (U hR (U (aa 2) (U (aa 5) ah)))) ah))) [some (.ref k),R1,some (.str name),some (.ref qm),some (.ref qs),some (.int p)] aw=.nx [some (.ref k),R1,some (.str name),some (.ref qm),some (.ref qs),some (.int p)] (aw.set qs (.lst (steps.map bJ++[bJ (h,name,p)]))):=by
  rw[fN,da (x:=.ref qs) (ak:=aw) (by simp) i3]
  have e:(U (mN ky (U hR (U (aa 2) (U (aa 5) ah)))) ah) [some (.ref k),R1,some (.str name),some (.ref qm),some (.ref qs),some (.int p)] aw=.ok [bJ (h,name,p)] aw:=by
   simp[hh,ba,bJ]
  rw[e];simp[a3]
 generalize aw.set qs (.lst (steps.map bJ++[bJ (h,name,p)]))=aV at *;have R3:Rw aV k js rs:=R2.sW K3 (by simpa using Ne.symm d3) (fun j hj h=>d5 (by rw[← List.mem_singleton.mp h];exact hj))
 have hh3:hR [some (.ref k),R1,some (.str name),some (.ref qm),some (.ref qs),some (.int p)] aV=.ok (.str h) aV:=pG R3 hp;refine⟨p,h,t,aV,hp,hn,?_,R3,m3,q3,?_⟩
 ·unfold bR
  rw[ai,r1,aJ,ai,r2,aJ,ai,r3,aJ,ai,cu,hh3];rfl
 ·exact((K1.sub (by simp)).trans (kS.up K2)).trans (K3.sub (by simp))
theorem De{PB:bg}(hP:An PB){R1:Option D}{qm qs:Nat}(hl:rs.length<=900)(hst:∀ h,(∃ r∈rs,∃ t,r=h::t)->∃ r∈rs,h∈r.tail)(d1:qm≠qs)(d2:qm≠k)(d3:qs≠k)(d4:qm∉js)(d5:qs∉js) :
  ∀ (m:Nat) (Ω:ay) (met:List Str) (steps:List lg) (name:Str) (a5:Option D),Rw Ω k js rs->Ω[qm]?=some (.lst (met.map .str))->Ω[qs]?=some (.lst (steps.map bJ))->uG rs met steps name->rs.length - met.length < m ->
   ∃ (xH:List Str) (nR:List lg) (name':Str) (Df:Option D) (ak:ay),c7 tR (bR PB) m [some (.ref k),R1,some (.str name),some (.ref qm),some (.ref qs),a5] Ω=.nx [some (.ref k),R1,some (.str name'),some (.ref qm),some (.ref qs),Df] ak /\
    uG rs xH nR name'/\name'∈xH/\ak[qm]?=some (.lst (xH.map .str))/\ak[qs]?=some (.lst (nR.map bJ))/\aq [qm,qs] Ω ak:=by
 intro m
 induction m with
 | zero=>intro Ω met steps name a5 R hm hq c h;omega
 | succ m ih=>
  intro Ω met steps name a5 R hm hq c hlt;have hn:=iM (w:=name) hm
  have ht:tR [some (.ref k),R1,some (.str name),some (.ref qm),some (.ref qs),a5] Ω=.ok (.bl (!decide (name∈met))) Ω:=by
   simp[tR,hn,-el]
  by_cases hmem:name∈met
  ·rw[decide_eq_true hmem]at ht
   refine⟨met,steps,name,a5,Ω,?_,c,hmem,hm,hq,aq.refl⟩;simp only[c7,ht];rfl
  ·rw[decide_eq_false hmem]at ht
   have hc:=c.le;have hlen:=c.len;obtain⟨p,h,t,ag,hp,hn1,e1,JA,m1,q1,K1⟩:=GR hP (R1:=R1) (a5:=a5) R (by omega) hm hq d1 d2 d3 d4 d5 (hst name (c.hds name (by simp))) (by omega) (by omega)
   have c1:=c.step hmem hp hn1;have hc1:=c1.le;rw[List.length_append]at hc1;simp at hc1;obtain⟨xH,nR,name',Df,aw,e2,c2,h2,m2,q2,K2⟩:=ih ag _ _ h (some (.int p)) JA m1 q1 c1 (by rw[List.length_append];simp;omega)
   refine⟨xH,nR,name',Df,aw,?_,c2,h2,m2,q2,K1.trans K2⟩;simp only[c7,ht]
   show(match bR PB [some (.ref k),R1,some (.str name),some (.ref qm),some (.ref qs),a5] Ω with | .nx bL ak=>c7 tR (bR PB) m bL ak | .ct bL ak=>c7 tR (bR PB) m bL ak | .bk bL ak=>.nx bL ak | r=>r)=_
   rw[e1];exact e2
theorem Dg{a1 a2 a3 a4 a5:Option D}(R:Rw Ω k js rs)(hl:rs.length<=1000):L9 [some (.ref k),a1,a2,a3,a4,a5] Ω=.ok (.ref Ω.length) (Ω++[.lst (((rs.filter fun r => !r.isEmpty).map fun r=>r.headD "").map .str)]):=by
 have gH:bf (aa 0) [some (.ref k),a1,a2,a3,a4,a5] Ω=.ok (.seq (.ref k)) Ω:=by
  rw[cw];exact bc (by rw[aN,az R.ce])
 have hL:=R.len
 have key:∀ d∈js.map D.ref,∃ (j:Nat) (row:List Str),d=.ref j/\Ω[j]?=some (.lst (row.map .str)):=fun d hd=>by
  obtain⟨j,hj,rfl⟩:=List.mem_map.mp hd;obtain⟨i,hi⟩:=List.mem_iff_getElem?.mp hj;obtain⟨row,_,h2⟩:=R.al.at' hi;exact⟨j,row,rfl,h2⟩
 have hc:=c_ (me:=m2 aM (aa 0) (ae (.int 0))) (nc:=false) (mc:=aa 0) (cap:=[]) (ds:=js.map .ref) (p:=fun d=>(eV Ω d).getD false) (g:=fun d=>match aM d (.int 0) Ω with | .ok x _=>x | _=>.non) gH (by rw[cx,aN,az R.ce]) (fun d hd=>by
  obtain⟨j,row,rfl,h⟩:=key d hd;have:=gI h;simp[ib,dc,this]) (fun d hd hp=>by
  obtain⟨j,row,rfl,h⟩:=key d hd;have ht:=gI h;cases row with
  | nil=>simp[ht]at hp
  | cons x t=>
   have hix:aM (.ref j) (.int 0) Ω=.ok (.str x) Ω:=bH h (L2.bK (j:=0) rfl);simp[dc,hix]) (by simp;omega)
 refine hc.trans ?_
 congr 4
 have:∀ {js:List Nat} {rs:List (List Str)},jk Ω js rs->((js.map D.ref).filter fun d=>(eV Ω d).getD false).map (fun d=>match aM d (.int 0) Ω with | .ok x _=>x | _=>.non)=((rs.filter fun r => !r.isEmpty).map fun r=>r.headD "").map .str:=by
  intro js rs h
  induction h with
  | nil=>rfl
  | @cons j row js rs r t ih=>
   have r:Ω[j]?=some (.lst (row.map .str)):=r;have ht:=gI r;rw[List.map_cons,List.filter_cons,List.filter_cons];cases row with
   | nil=>
    have ht:eV Ω (.ref j)=some false:=ht;rw[ht];exact ih
   | cons x u=>
    have ht:eV Ω (.ref j)=some true:=ht;have hix:aM (.ref j) (.int 0) Ω=.ok (.str x) Ω:=bH r (L2.bK (j:=0) rfl);rw[ht];simp only[Option.getD_some,if_true,List.map_cons,hix,ih];rfl
 exact this R.al
def Ap(RA:bg):Prop:=∀ (Ω:ay) (k:Nat) (js:List Nat) (rs:List (List Str)),Rw Ω k js rs->rs.length<=900->(∃ r∈rs,r≠[])->free rs=none->∃ (ss:List lg) (q:Nat) (ak:ay),RA [.ref k] Ω=.ok (.ref q) ak/\ak[q]?=some (.lst (ss.map bJ))/\sY rs ss/\ss.length<=rs.length/\aq [] Ω ak
theorem GS{PB:bg}(hP:An PB):Ap (bB 6 1 (Ao PB)):=by
 intro Ω k js rs R hl hne hf;rw[bY (by rfl)]
 have e0:aR 6 [D.ref k]=[some (.ref k),none,none,none,none,none]:=rfl;rw[e0]
 have hst:∀ h,(∃ r∈rs,∃ t,r=h::t)->∃ r∈rs,h∈r.tail:=by
  rintro h ⟨r,hr,t,rfl⟩
  by_cases q:∃ t∈rs,h∈t.tail
  ·exact q
  ·obtain⟨n,e⟩:=za hr (cP q)
   rw[hf]at e;cases e
 have e1:=Dg (a1:=none) (a2:=none) (a3:=none) (a4:=none) (a5:=none) R (by omega)
 obtain⟨n0,hs,Qr,r0,hr0,t0,Qs⟩:∃ n0 hs,((rs.filter fun r => !r.isEmpty).map fun r=>r.headD "")=n0::hs/\∃ r∈rs,∃ t,r=n0::t:=by
  obtain⟨r,hr,hn⟩:=hne;have hm:r∈rs.filter fun r => !r.isEmpty:=List.mem_filter.mpr ⟨hr,by cases r<;>simp at hn ⊢⟩
  cases q:rs.filter fun r => !r.isEmpty with
  | nil=>rw[q]at hm;simp at hm
  | cons r1 l=>
   have h1:r1∈rs.filter fun r => !r.isEmpty:=by rw[q];simp
   obtain⟨h2,h3⟩:=List.mem_filter.mp h1;cases r1 with
   | nil=>simp at h3
   | cons x t=>exact⟨x,_,rfl,_,h2,t,rfl⟩
 rw[Qr]at e1;have K1:aq [] Ω (Ω++[Cell.lst ((n0::hs).map D.str)]):=aq.app;have g1:(Ω++[Cell.lst ((n0::hs).map D.str)])[Ω.length]?=some (.lst ((n0::hs).map .str)):=aF;have r1:(ax 1 L9) [some (.ref k),none,none,none,none,none] Ω=.nx [some (.ref k),some (.ref Ω.length),none,none,none,none] (Ω++[Cell.lst ((n0::hs).map D.str)]):=by rw[cu,e1];rfl
 have l1:Ω.length < (Ω++[Cell.lst ((n0::hs).map D.str)]).length:=by simp
 generalize L_:Ω++[Cell.lst ((n0::hs).map D.str)]=ag at *;have hix:aM (.ref Ω.length) (.int 0) ag=.ok (.str n0) ag:=bH g1 (L2.bK (j:=0) rfl);have r2:(ax 2 (m2 aM (aa 1) (ae (.int 0)))) [some (.ref k),some (.ref Ω.length),none,none,none,none] ag=.nx [some (.ref k),some (.ref Ω.length),some (.str n0),none,none,none] ag:=by simp[hix]
 have r3:(ax 3 (mN cQ ah)) [some (.ref k),some (.ref Ω.length),some (.str n0),none,none,none] ag=.nx [some (.ref k),some (.ref Ω.length),some (.str n0),some (.ref ag.length),none,none] (ag++[Cell.lst []]):=by simp[ba]
 have r4:(ax 4 (mN cQ ah)) [some (.ref k),some (.ref Ω.length),some (.str n0),some (.ref ag.length),none,none] (ag++[Cell.lst []])=.nx [some (.ref k),some (.ref Ω.length),some (.str n0),some (.ref ag.length),some (.ref (ag.length + 1)),none] (ag++[Cell.lst []]++[Cell.lst []]):=by simp[ba]
 have K2:aq [] ag (ag++[Cell.lst []]++[Cell.lst []]):=aq.app.trans aq.app;have g3:(ag++[Cell.lst []]++[Cell.lst []])[ag.length]?=some (.lst (([]:List Str).map .str)):=by simp
 have g4:(ag++[Cell.lst []]++[Cell.lst []])[ag.length + 1]?=some (.lst (([]:List lg).map bJ)):=by simp
 generalize ag++[Cell.lst []]++[Cell.lst []]=aw at *;have R2:=(R.keep K1).keep K2;have lk:=eF (R.keep K1).ce;have lj:=(R.keep K1).al.lt;have c0:uG rs [] [] n0:=⟨rfl,rfl,by simp,by simp,fun m hm=>by simp at hm;subst hm;exact⟨r0,hr0,t0,Qs⟩⟩
 obtain⟨met,steps,name,a5,aV,e3,c3,h3,m3,q3,K3⟩:=De hP (R1:=some (.ref Ω.length)) (qm:=ag.length) (qs:=ag.length + 1) hl hst (by omega) (by omega) (by omega) (fun h=>by have:=lj _ h;omega) (fun h=>by have:=lj _ h;omega) fuel aw [] [] n0 none R2 g3 g4 c0 (by unfold fuel;simp;omega)
 have hi:=fv m3 h3;have iL:=cJ m3
 have Qt:ia (.ref (ag.length + 1)) (some ((met.idxOf name:Nat):Int)) none aV=.ok (.ref aV.length) (aV++[.lst ((steps.drop (met.idxOf name)).map bJ)]):=by
  simp only[ia,az q3,eR,mT,List.map_drop]
 have g5:(aV++[Cell.lst ((steps.drop (met.idxOf name)).map bJ)])[aV.length]?=some (.lst ((steps.drop (met.idxOf name)).map bJ)):=aF;have K4:aq [] aV (aV++[Cell.lst ((steps.drop (met.idxOf name)).map bJ)]):=aq.app
 have hmi:(bE eY bF (aa 3) (U (aa 2) ah)) [some (.ref k),some (.ref Ω.length),some (.str name),some (.ref ag.length),some (.ref (ag.length + 1)),a5] aV=.ok (.int (met.idxOf name:Nat)) aV:=by
  rw[da (x:=.ref ag.length) (ak:=aV) (by simp) iL]
  simp[hi]
 have r5:(m1 ur (cf (aa 4) false (bE eY bF (aa 3) (U (aa 2) ah)) true (ae .non))) [some (.ref k),some (.ref Ω.length),some (.str name),some (.ref ag.length),some (.ref (ag.length + 1)),a5] aV=.ok (.ref (aV.length + 1)) (aV++[Cell.lst ((steps.drop (met.idxOf name)).map bJ)]++[.lst ((steps.drop (met.idxOf name)).reverse.map bJ)]):=by
  have:(cf (aa 4) false (bE eY bF (aa 3) (U (aa 2) ah)) true (ae .non)) [some (.ref k),some (.ref Ω.length),some (.str name),some (.ref ag.length),some (.ref (ag.length + 1)),a5] aV=.ok (.ref aV.length) (aV++[Cell.lst ((steps.drop (met.idxOf name)).map bJ)]):=by
   simp[hmi,Qt]
  rw[A_,this,aO];simp only[ur,az g5,eR,List.map_reverse];simp
 refine⟨(steps.drop (met.idxOf name)).reverse,aV.length + 1,aV++[Cell.lst ((steps.drop (met.idxOf name)).map bJ)]++[.lst ((steps.drop (met.idxOf name)).reverse.map bJ)],?_,?_,c3.ring h3,?_,?_⟩
 rotate_left
 ·rw[show aV.length + 1=(aV++[Cell.lst ((steps.drop (met.idxOf name)).map bJ)]).length by simp]
  exact aF
 ·have:=c3.le
  have:=c3.len;simp;omega
 ·refine aq.new (fp:=[ag.length,ag.length + 1]) (K1.trans K2) (K3.trans (kS.up (K4.trans aq.app))) (fun j hj => ?_)
  simp at hj;have:=K1.len;omega
 ·unfold Ao
  rw[ai,r1,aJ,ai,r2,aJ,ai,r3,aJ,ai,r4,aJ,ai];unfold kI;rw[e3,aJ,ai,dM,r5];rfl
end
structure jm(rs:List (List Str))(ss:List lg):Prop where
 ex:∃ n R,ss.map (·.1)=n::R/\ss.map (·.2.1)=R++[n]/\(n::R).Nodup
 Dc:∀ s∈ss,∃ u t,rs[s.2.2]?=some (u++s.1::t)/\s.2.1∈t
theorem jm.step{rs:List (List Str)}{ss:List lg}{n:Str}(h:jm (rs.map (br n)) ss):jm rs ss:=⟨h.ex,fun s hs=>by
 obtain⟨u,t,e,hm⟩:=h.Dc s hs;rw[List.getElem?_map]at e;obtain⟨r,e1,e2⟩:=Option.map_eq_some_iff.mp e;unfold br at e2;split at e2
 ·cases r with
  | nil=>simp at e2
  | cons x r=>exact⟨x::u,t,by rw[e1];simpa using e2,hm⟩
 ·exact⟨u,t,by rw[e1,e2],hm⟩⟩
theorem sY.toR{rs:List (List Str)}{ss:List lg}(h:sY rs ss):jm rs ss:=⟨h.ex,fun s hs=>by
 obtain⟨t,e,hm⟩:=h.Dc s hs;exact⟨[],t,e,hm⟩⟩
def xI(OC:bg):Prop:=∀ (Ω:ay) (k:Nat) (ss:List lg),Ω[k]?=some (.lst (ss.map bJ))->ss.length<=900->∃ q ak,OC [.ref k,.int 0] Ω=.ok (.ref q) ak/\ak[q]?=some (.lst (ss.map bJ))/\Ω.length<=q/\aq [] Ω ak
def En(OC:bg):EM:=mN (fun xs Ω=>aL OC (xs++[.int 0]) Ω) (U (mN (aZ .list) (U (aa 1) ah)) ah)
def qZ(OC RA:bg):SM:=nN "Ring" "steps" (En OC) (mN (aL RA) (U (aa 1) ah))
section
variable{Ω ak:ay}{ρ:aP}{k:Nat}{js:List Nat}{rs:List (List Str)}{row:List Str}{n:Str}
theorem Dh{OC:bg}(hO:xI OC){ss:List lg}(h:Ω[k]?=some (.lst (ss.map bJ)))(hl:ss.length<=900):∃ q ak,En OC [none,some (.ref k)] Ω=.ok (.ref q) ak/\ak[q]?=some (.lst (ss.map bJ))/\Ω.length<=q/\aq [] Ω ak:=by
 have h1:=gQ h;have g1:(Ω++[Cell.lst (ss.map bJ)])[Ω.length]?=some (.lst (ss.map bJ)):=aF;have K1:aq [] Ω (Ω++[Cell.lst (ss.map bJ)]):=aq.app;have l1:Ω.length<=(Ω++[Cell.lst (ss.map bJ)]).length:=K1.len;generalize Ω++[Cell.lst (ss.map bJ)]=ag at *;obtain⟨q,aw,e,g,l,K2⟩:=hO ag _ ss g1 hl;refine⟨q,aw,?_,g,by omega,K1.trans K2⟩
 simp[En,h1,e]
theorem Di{OC RA:bg}(hO:xI OC)(hA:Ap RA){R0:D}{q:Nat}{a3:Option D}(R:Rw Ω k js rs)(hl:rs.length<=900)(hne:∃ r∈rs,r≠[])(hf:free rs=none) :
  ∃ (ss:List lg) (p:Nat) (ak:ay),qZ OC RA [some R0,some (.ref k),some (.ref q),a3] Ω=.exc (fw "Ring" "steps" (.ref p)) ak/\ak[p]?=some (.lst (ss.map bJ))/\jm rs ss/\Ω.length<=p/\aq [] Ω ak:=by
 obtain⟨ss,q1,ag,e1,g1,hr,hs,K1⟩:=hA Ω k js rs R hl hne hf;obtain⟨p,aw,e2,g2,l2,K2⟩:=Dh hO g1 (by omega)
 refine⟨ss,p,aw,?_,g2,hr.toR,by have:=K1.len;omega,K1.trans K2⟩
 have:(mN (aL RA) (U (aa 1) ah)) [some R0,some (.ref k),some (.ref q),a3] Ω=.ok (.ref q1) ag:=by simp[e1]
 unfold qZ nN;rw[this]
 show(match En OC [none,some (.ref q1)] ag with | .ok d' aw=>gE.exc (fw "Ring" "steps" d') aw | _=>.bad)=_
 rw[e2]
theorem uA{OC RA FN:bg}(hO:xI OC)(hA:Ap RA)(hF:FnAt FN){R0:D}{rs:List (List Str)}(S:Sk rs) :
  ∀ (Ω:ay) (pre:List Str) (q k:Nat) (js:List Nat) (a3:Option D) (m:Nat),Rw Ω k js rs->Ω[q]?=some (.lst (pre.map .str))->q≠k->q∉js->rs.length<=900->pre.length + tot rs<=900->tot rs < m ->
   ∃ (ss:List lg) (p:Nat) (ak:ay),c7 tM (bM (qZ OC RA) FN) m [some R0,some (.ref k),some (.ref q),a3] Ω=.exc (fw "Ring" "steps" (.ref p)) ak/\ak[p]?=some (.lst (ss.map bJ))/\jm rs ss/\Ω.length<=p/\aq [q] Ω ak:=by
 induction S with
 | @stuck rs h hf=>
  intro Ω pre q k js a3 m R hq _ _ hl _ hm;obtain⟨m,rfl⟩:∃ k,m=k + 1:=⟨m - 1,by omega⟩
  obtain⟨ag,e1,K1⟩:=hF Ω k js rs R (by omega)
  rw[hf]at e1;obtain⟨ss,p,aw,e2,g2,hr,l2,K2⟩:=Di hO hA (R0:=R0) (q:=q) (a3:=some .non) (R.keep K1) hl h hf;refine⟨ss,p,aw,?_,g2,hr,by have:=K1.len;omega,kS.up (K1.trans K2)⟩
  have e:=jT R;rw[any_true h]at e;have e':tM [some R0,some (.ref k),some (.ref q),a3] Ω=.ok (.bl true) Ω:=by simp[tM,e]
  simp only[c7,e']
  show(match bM (qZ OC RA) FN [some R0,some (.ref k),some (.ref q),a3] Ω with | .nx bL ak=>c7 tM (bM (qZ OC RA) FN) m bL ak | .ct bL ak=>c7 tM (bM (qZ OC RA) FN) m bL ak | .bk bL ak=>.nx bL ak | r=>r)=_
  have r1:(ax 3 (mN (aL FN) (U (aa 1) ah))) [some R0,some (.ref k),some (.ref q),a3] Ω=.nx [some R0,some (.ref k),some (.ref q),some .non] ag:=by simp[e1,wa]
  have r2:(dh (m2 (aD .Is) (aa 3) (ae .non)) (ao (qZ OC RA) aj) aj) [some R0,some (.ref k),some (.ref q),some .non] ag=.exc (fw "Ring" "steps" (.ref p)) aw:=by
   have c:(m2 (aD .Is) (aa 3) (ae .non)) [some R0,some (.ref k),some (.ref q),some .non] ag=.ok (.bl true) ag:=by simp
   rw[cS,c]
   show ao (qZ OC RA) aj _ ag=_
   rw[ai,e2];rfl
  unfold bM;rw[ai,r1,aJ,ai,r2];rfl
 | @step rs n h hf _ ih=>
  intro Ω pre q k js a3 m R hq Gw Bg hl hp hm;obtain⟨m,rfl⟩:∃ k,m=k + 1:=⟨m - 1,by omega⟩
  have ht:=qV (fJ hf).1;obtain⟨k',fO,ag,e1,R1,q1,h1,h2,K1⟩:=Bf (st:=qZ OC RA) hF (R0:=R0) (a3:=a3) R (by omega) hf hq Gw Bg (by omega)
  obtain⟨ss,p,aw,e2,g2,hr,l2,K2⟩:=ih ag (pre++[n]) q k' fO (some (.str n)) m R1 q1 h1 h2 (by simpa using hl) (by simp;omega) (by omega)
  refine⟨ss,p,aw,?_,g2,hr.step,by have:=K1.len;omega,K1.trans K2⟩
  have e:=jT R;rw[any_true h]at e;have e':tM [some R0,some (.ref k),some (.ref q),a3] Ω=.ok (.bl true) Ω:=by simp[tM,e]
  simp only[c7,e']
  show(match bM (qZ OC RA) FN [some R0,some (.ref k),some (.ref q),a3] Ω with | .nx bL ak=>c7 tM (bM (qZ OC RA) FN) m bL ak | .ct bL ak=>c7 tM (bM (qZ OC RA) FN) m bL ak | .bk bL ak=>.nx bL ak | r=>r)=_
  rw[e1];exact e2
def Dj(MG:bg):Prop:=∀ (Ω:ay) (k:Nat) (js:List Nat) (rs:List (List Str)),Rw Ω k js rs->Sk rs->rs.length<=900->tot rs<=900->∃ (ss:List lg) (p:Nat) (ak:ay),MG [.ref k] Ω=.exc (fw "Ring" "steps" (.ref p)) ak/\ak[p]?=some (.lst (ss.map bJ))/\jm rs ss/\Ω.length<=p/\aq [] Ω ak
theorem GU{OC RA FN:bg}(hO:xI OC)(hA:Ap RA)(hF:FnAt FN):Dj (bB 4 1 (uv (qZ OC RA) FN)):=by
 intro Ω k js rs R S hr ho;rw[bY (by rfl)]
 have e0:aR 4 [D.ref k]=[some (.ref k),none,none,none]:=rfl;rw[e0];obtain⟨fO,k',ag,e1,K1,R1,h1,h2,h3⟩:=nP (ρ:=[some (.ref k),none,none,none]) (i:=0) rfl R (by omega)
 have r1:(ax 1 (kY 0)) [some (.ref k),none,none,none] Ω=.nx [some (.ref k),some (.ref k'),none,none] ag:=by rw[cu,e1];rfl
 have K2:aq [] ag (ag++[Cell.lst []]):=aq.app;have q2:(ag++[Cell.lst []])[ag.length]?=some (.lst (([]:List Str).map .str)):=aF;have r2:(ax 2 (mN cQ ah)) [some (.ref k),some (.ref k'),none,none] ag=.nx [some (.ref k),some (.ref k'),some (.ref ag.length),none] (ag++[Cell.lst []]):=by simp[ba]
 have lk:=eF R1.ce;have lj:=R1.al.lt;obtain⟨ss,p,aV,e3,g3,hR,l3,K3⟩:=uA hO hA hF (R0:=.ref k) S (ag++[Cell.lst []]) [] ag.length k' fO none fuel (R1.keep K2) q2 (by omega) (fun h=>by have:=lj _ h;omega) hr (by simpa using ho) (by unfold fuel;omega)
 refine⟨ss,p,aV,?_,g3,hR,?_,aq.new (K1.trans K2) K3 (by simpa using K1.len)⟩
 ·unfold uv
  rw[ai,r1,aJ,ai,r2,aJ,ai];unfold kI;rw[e3];rfl
 ·have:=K1.len
  simp at l3;omega
end
def JB(O:bg):EM:=bq (mN (aL O) (U (aa 0) (U (m2 (aI .Add) (aa 1) (ae (.int 1))) ah))) true (ae .non) (bf (aa 0)) 0 [1]
def gZ(O:bg):SM:=
 (ao (dh (m2 (aD .Eq) (aa 1) (ae (.int 8)))
 (ao (aW (aa 0))
 aj)
 aj)
 (ao (dh (m1 (dJ .list) (aa 0))
 (ao (aW (JB O))
 aj)
 aj)
 (ao (dh (m1 (dJ .tuple) (aa 0))
 (ao (aW (mN (aZ .tuple) (U (JB O) ah)))
 aj)
 aj)
 (ao (dh (m1 (dJ .dict) (aa 0))
 (ao nj
 aj)
 aj)
 (ao (aW (aa 0))
 aj)))))
noncomputable def isA:D->Bool
 | .str _=>true
 | .int _=>true
 | _=>false
section
variable{Ω ak:ay}{O:bg}
theorem Aq{d:D}(hd:isA d=true):bB 2 2 (gZ O) [d,.int 2] Ω=.ok d Ω:=by
 rw[bY (by rfl)]
 show fV (gZ O [some d,some (.int 2)] Ω)=_
 have h1:dJ .list d Ω=.ok (.bl false) Ω:=by cases d<;>first | rfl | cases hd
 have h2:dJ .tuple d Ω=.ok (.bl false) Ω:=by cases d<;>first | rfl | cases hd
 have h3:dJ .dict d Ω=.ok (.bl false) Ω:=by cases d<;>first | rfl | cases hd
 simp[gZ,h1,h2,h3]
theorem Dk{ds:List D}(h:∀ d∈ds,isA d=true)(hl:ds.length<=900):bB 2 2 (gZ (bB 2 2 (gZ O))) [.tup ds,.int 1] Ω=.ok (.tup ds) (Ω++[.lst ds]):=by
 rw[bY (by rfl)]
 show fV (gZ (bB 2 2 (gZ O)) [some (.tup ds),some (.int 1)] Ω)=_
 have h1:dJ .list (.tup ds) Ω=.ok (.bl false) Ω:=rfl;have h2:dJ .tuple (.tup ds) Ω=.ok (.bl true) Ω:=rfl
 have hc:=c_ (ρ:=[some (.tup ds),some (.int 1)]) (Ω:=Ω) (me:=mN (aL (bB 2 2 (gZ O))) (U (aa 0) (U (m2 (aI .Add) (aa 1) (ae (.int 1))) ah))) (nc:=true) (mc:=ae .non) (cap:=[1]) (ds:=ds) (p:=fun _=>true) (g:=fun d=>d) (mi:=bf (aa 0)) (src:=.seq (.tup ds)) (ak:=Ω) rfl rfl (fun d hd=>rfl) (fun d hd _=>by
  have:=Aq (Ω:=Ω) (O:=O) (h d hd);simp[dc,this]) (by omega)
 rw[List.filter_eq_self.mpr (by simp),List.map_id']at hc
 have hc:JB (bB 2 2 (gZ O)) [some (.tup ds),some (.int 1)] Ω=.ok (.ref Ω.length) (Ω++[.lst ds]):=hc;have g1:(Ω++[Cell.lst ds])[Ω.length]?=some (.lst ds):=aF
 have ht:aZ .tuple [.ref Ω.length] (Ω++[Cell.lst ds])=.ok (.tup ds) (Ω++[Cell.lst ds]):=by
  show kA [.ref Ω.length] (Ω++[Cell.lst ds])=_
  simp only[kA,aN,az g1]
 generalize bB 2 2 (gZ O)=O1 at *;simp[gZ,h1,h2,hc,ht]
theorem uB(s:lg):∀ d∈[D.str s.1,.str s.2.1,.int s.2.2],isA d=true:=by simp[isA]
theorem GV:xI (bB 2 2 (gZ (bB 2 2 (gZ (bB 2 2 (gZ O)))))):=by
 intro Ω k ss hk hl;rw[bY (by rfl)]
 show ∃ q ak,fV (gZ (bB 2 2 (gZ (bB 2 2 (gZ O)))) [some (.ref k),some (.int 0)] Ω)=_/\_
 have h1:=sX (t:=.list) hk;have h1:dJ .list (.ref k) Ω=.ok (.bl true) Ω:=h1
 obtain⟨aw,e,K⟩:=xc (ρ:=[some (.ref k),some (.int 0)]) (Ω:=Ω) (me:=mN (aL (bB 2 2 (gZ (bB 2 2 (gZ O))))) (U (aa 0) (U (m2 (aI .Add) (aa 1) (ae (.int 1))) ah))) (mc:=ae .non) (cap:=[1]) (ds:=ss.map bJ) (g:=fun d=>d) (mi:=bf (aa 0)) (src:=.seq (.ref k)) (fun aw=>aq [] Ω aw) (by
  rw[cw];exact bc (by rw[aN,az hk])) aq.refl (fun aw K=>by rw[cx,aN,az (K.get _ _ hk (by simp))]) (fun d hd aw K=>by
  obtain⟨s,_,rfl⟩:=List.mem_map.mp hd;have:=Dk (Ω:=aw) (O:=O) (uB s) (by simp)
  refine⟨aw++[Cell.lst [D.str s.1,.str s.2.1,.int s.2.2]],?_,K.trans aq.app⟩;have this:bB 2 2 (gZ (bB 2 2 (gZ O))) [bJ s,.int 1] aw=.ok (bJ s) (aw++[Cell.lst [D.str s.1,.str s.2.1,.int s.2.2]]):=this;generalize bB 2 2 (gZ (bB 2 2 (gZ O)))=O2 at *;simp[dc,this]) (by simp;omega)
 rw[List.map_id']at e;have e:JB (bB 2 2 (gZ (bB 2 2 (gZ O)))) [some (.ref k),some (.int 0)] Ω=.ok (.ref aw.length) (aw++[.lst (ss.map bJ)]):=e;refine⟨aw.length,aw++[.lst (ss.map bJ)],?_,aF,K.len,K.trans aq.app⟩;generalize bB 2 2 (gZ (bB 2 2 (gZ O)))=O2 at *;simp[gZ,h1,e]
end
def c0:EM:=m2 aM (aa 1) (ae (.int 0))
def c1:EM:=m2 aM (aa 1) (ae (.int 1))
def c2:EM:=m2 aM (aa 1) (ae (.int 2))
section
variable{Ω ak:ay}{k:Nat}{js:List Nat}{rs:List (List Str)}{row:List Str}{s:lg}
end
section
variable{Ω ak:ay}{ρ:aP}{k:Nat}{js:List Nat}{rs:List (List Str)}{ss:List lg}
theorem pH{j k:Nat}{ds es:List D}(h1:Ω[j]?=some (.lst ds))(h2:Ω[k]?=some (.lst es))(hs:ds.length + es.length<=1000):aI .Add (.ref j) (.ref k) Ω=.ok (.ref Ω.length) (Ω++[.lst (ds++es)]):=by
 rw[pq,sP,az h1,az h2,sO,if_pos (ba (by omega))]
 rfl
end
section
variable{Ω ak:ay}{ρ:aP}{k:Nat}{js:List Nat}{rs:List (List Str)}{ss:List lg}
end
section
variable{Ω ak:ay}{ρ:aP}{k:Nat}{js:List Nat}{rs:List (List Str)}{row:List Str}{μ:Int->Int->Int->Int}{F:List D->Out Rs}
def Qu(a b:Str)(r:List Str):Prop:=∃ u t,r=u++a::t/\b∈t
end
section
variable{Ω ak:ay}{ρ:aP}{k:Nat}{js:List Nat}{rs:List (List Str)}{row:List Str}{μ:Int->Int->Int->Int}{κ:List Int->Nat->Int}{F C:List D->Out Rs}
end
theorem pI:∀ {o:List Str} {a b:Str},[a,b].Sublist o->o.Nodup->o.idxOf a < o.idxOf b
 | [],a,b,h,_=>by simp at h
 | x::o,a,b,h,hn=>by
  obtain⟨h1,h2⟩:=List.nodup_cons.mp hn;rw[List.idxOf_cons,List.idxOf_cons];cases h with
  | cons _ h=>
   have ha:(x == a)=false:=by
    have:a∈o:=h.subset (by simp)
    simpa using fun q:x=a=>h1 (q▸this)
   have hb:(x == b)=false:=by
    have:b∈o:=h.subset (by simp)
    simpa using fun q:x=b=>h1 (q▸this)
   have:=pI h h2;rw[ha,hb];simp;exact this
  | cons_cons _ h=>
   have hb:(x == b)=false:=by
    have:b∈o:=h.subset (by simp)
    simpa using fun q:x=b=>h1 (q▸this)
   rw[hb];simp
theorem Ar{o r:List Str}{a b:Str}(h:Qu a b r)(hs:r.Sublist o)(hn:o.Nodup):o.idxOf a < o.idxOf b:=by
 obtain⟨u,t,rfl,hb⟩:=h;refine pI (List.Sublist.trans ?_ hs) hn;have:[a,b].Sublist (a::t):=(List.singleton_sublist.mpr hb).cons_cons a;exact this.trans (List.sublist_append_right _ _)
def uC:D->Option D
 | .tup [.str C,.str f,d]=>if C="Ring"/\f="steps" then some d else none
 | _=>none
theorem sZ{d:D}:uC (fw "Ring" "steps" d)=some d:=by simp[uC,fw]
theorem xJ{x:D}{d:D}(h:uC x=some d):x=fw "Ring" "steps" d:=by
 unfold uC at h;split at h
 ·split at h
  ·rename_i hc
   obtain⟨rfl,rfl⟩:=hc;cases h;rfl
  ·cases h
 ·cases h
def pJ(e:EM):SM:=(dh e (ao (aW (ae (.bl false))) aj) aj)
theorem jU{e:EM}{ρ:aP}{Ω ak:ay}(h:e ρ Ω=.ok (.bl false) ak):pJ e ρ Ω=.nx ρ ak:=by
 unfold pJ;rw[cS,h];rfl
end Mir
namespace Mir
open PySem
variable [aA]
open L2
section
variable{Ω ak:ay}{ρ:aP}{k:Nat}{js:List Nat}{rs:List (List Str)}{row:List Str}
theorem Dm{i di k j:Nat}{ws us:List Str}(hi:ρ[i]?=some (some (.ref k)))(hc:dc [di] ρ=[some (.ref j)])(hk:Ω[k]?=some (.lst (ws.map .str)))(hj:Ω[j]?=some (.lst (us.map .str)))(hl:ws.length<=1000) :
  bq (aa 0) false (m2 (aD .In) (aa 0) (aa 1)) (bf (aa i)) 0 [di] ρ Ω=.ok (.ref Ω.length) (Ω++[.lst ((ws.filter fun n=>decide (n∈us)).map .str)]):=by
 have h:=c_ (Ω:=Ω) (ak:=Ω) (ρ:=ρ) (me:=aa 0) (mc:=m2 (aD .In) (aa 0) (aa 1)) (nc:=false) (mi:=bf (aa i)) (cap:=[di]) (src:=.seq (.ref k)) (ds:=ws.map .str) (p:=fun d=>match d with | .str n=>decide (n∈us) | _=>false) (g:=fun d=>d)
  (by simp[hi,bc (x:=.ref k) (by rw[aN,az hk])]) (by rw[cx,aN,az hk]) (fun d hd'=>by
   obtain⟨x,hx,rfl⟩:=List.mem_map.mp hd';have hn:=xa (w:=x) hj;unfold ib;rw[if_neg (by simp),hc,c8]
   have hv:aa 0 ([some (.str x)]++[some (.ref j)]) Ω=.ok (.str x) Ω:=rfl;have hv1:aa 1 ([some (.str x)]++[some (.ref j)]) Ω=.ok (.ref j) Ω:=rfl;rw[hv,aO,hv1,aO,hn];rfl) (fun d _ _=>rfl) (by simp;omega)
 rw[h,List.filter_map,List.map_map];rfl
theorem pK{n:Nat}:∀ (L:List (List Str)),(∀ l∈L,l.length<=n)->L.flatten.length<=n * L.length
 | [],_=>by simp
 | l::L,h=>by
  have h1:=h l (by simp)
  have h2:=pK L fun l hl=>h l (by simp[hl])
  simp only[List.flatten_cons,List.length_append,List.length_cons];rw[Nat.mul_add];omega
def Qv:EM:=cf (bq (aa 0) false (m2 (aD .In) (aa 0) (aa 1)) (bf (aa 3)) 0 [1]) false (ae (.int 1)) true (ae .non)
def hoI:SM:=(ao (ax 2 (m2 (aI .Add) (aa 2) Qv)) aj)
def hoL:SM:=(cF (bA 3) (bf (aa 0)) hoI)
end
section
variable{Ω ak:ay}{ρ:aP}{k:Nat}{js:List Nat}{rs:List (List Str)}{row:List Str}
noncomputable def Eo(Ω:ay):D->Str
 | .ref j=>match Ω[j]? with | some (.lst (.str x::_))=>x | _=>""
 | _=>""
end
section
variable{Ω ak:ay}{ρ:aP}{k:Nat}{js:List Nat}{rs:List (List Str)}{row:List Str}{μ:Int->Int->Int->Int}{F:List D->Out Rs}
theorem swap_perm{r:List Str}{a:Nat}(h:a + 1 < r.length):(r.take a++[r.getD (a + 1) "",r.getD a ""]++r.drop (a + 2)).Perm r:=by
 have h1:r.drop a=r[a]::r[a + 1]::r.drop (a + 2):=by
  rw[List.drop_eq_getElem_cons (by omega),List.drop_eq_getElem_cons h]
 have h2:r=r.take a++(r[a]::r[a + 1]::r.drop (a + 2)):=by rw[← h1,List.take_append_drop]
 have e1:r.getD a ""=r[a]:=by rw[List.getD_eq_getElem?_getD,List.getElem?_eq_getElem (by omega)];rfl
 have e2:r.getD (a + 1) ""=r[a + 1]:=by rw[List.getD_eq_getElem?_getD,List.getElem?_eq_getElem h];rfl
 rw[e1,e2,List.append_assoc];refine List.Perm.trans (List.Perm.append_left _ ?_) (List.Perm.of_eq h2.symm);exact List.Perm.swap _ _ _
end
def hdT(x:D)(Ω:ay):av D:=match uC x with
 | some d=>.ok (.tup [.str "ring",d]) Ω
 | none=>.bad
theorem Dq(x:D)(Ω:ay):(∃ d,x=fw "Ring" "steps" d)\/hdT x Ω=.bad:=by
 cases h:uC x with
 | some d=>exact .inl ⟨d,xJ h⟩
 | none=>exact .inr (by simp[hdT,h])
def cbT(MG:bg):SM:=ao (ax 1 (mN MG (U (aa 0) ah))) aj
def GW:SM:=(ao (aW (mN ky (U (ae (.str "order")) (U (aa 1) ah)))) aj)
def GX(T:bg):Prop:=∀ (Ω:ay) (k:Nat) (js:List Nat) (rs:List (List Str)),Rw Ω k js rs->rs.length<=900->tot rs<=900 ->
 (∀ o,Mg rs o->o.length<=900->∃ q ak,T [.ref k] Ω=.ok (.tup [.str "order",.ref q]) ak/\ak[q]?=some (.lst (o.map .str))/\aq [] Ω ak) /\
 (Sk rs->∃ (ss:List lg) (p:Nat) (ak:ay),T [.ref k] Ω=.ok (.tup [.str "ring",.ref p]) ak/\ak[p]?=some (.lst (ss.map bJ))/\jm rs ss/\aq [] Ω ak)
theorem GY{MG:bg}(hG:CW MG)(hM:Dj MG):GX (qS 3 1 (cbT MG) GW hdT):=by
 intro Ω k js rs R h1 h2
 have hd:qS 3 1 (cbT MG) GW hdT [.ref k] Ω=(match cbT MG [some (.ref k),none,none] Ω with | .nx ρ ag=>fV (GW ρ ag) | .exc x ag=>zK (hdT x ag) | _=>.bad):=by
  unfold qS;rw[if_pos (show [D.ref k].length=1 from rfl)]
  rfl
 refine⟨fun o M ho => ?_,fun S => ?_⟩
 ·obtain⟨q,ak,e,g,_,K⟩:=hG Ω k js rs o R M (by omega) ho
  refine⟨q,ak,?_,g,K⟩;have:cbT MG [some (.ref k),none,none] Ω=.nx [some (.ref k),some (.ref q),none] ak:=by simp[cbT,e]
  rw[hd,this];rfl
 ·obtain⟨ss,p,ak,e,g,hr,_,K⟩:=hM Ω k js rs R S h1 h2
  refine⟨ss,p,ak,?_,g,hr,K⟩;have:cbT MG [some (.ref k),none,none] Ω=.exc (fw "Ring" "steps" (.ref p)) ak:=by simp[cbT,e]
  rw[hd,this];simp[hdT,sZ,zK]
section
variable{Ω ak:ay}{ρ:aP}{k:Nat}{js:List Nat}{rs:List (List Str)}{row:List Str}{κ:List Int->Nat->Int}{C:List D->Out Rs}
theorem xM(rs:List (List Str)):rs.flatten.length=tot rs:=by rw[List.length_flatten];rfl
end
section
variable{Ω ak:ay}{ρ:aP}{k:Nat}{js:List Nat}{rs:List (List Str)}{row:List Str}{n:Str}
theorem pL:∀ {xs ys:List Int},dA (xs.map D.int) (ys.map D.int)=decide (xs=ys)
 | [],[]=>rfl
 | [],_::_=>rfl
 | _::_,[]=>rfl
 | x::xs,y::ys=>by
  simp only[List.map_cons,oM,eq_int,pL,List.cons.injEq]
  by_cases h1:x=y<;>by_cases h2:xs=ys<;>simp[h1,h2]
theorem xO{j:Nat}{xs ys:List Int}(h:Ω[k]?=some (.lst (xs.map .int)))(h':Ω[j]?=some (.lst (ys.map .int))):aD .NotEq (.ref k) (.ref j) Ω=.ok (.bl (!decide (xs=ys))) Ω:=by
 have ok:∀ xs:List Int,(xs.map D.int).all (aH 7)=true:=fun xs=>by
  rw[List.all_eq_true];intro d hd;obtain⟨x,_,rfl⟩:=List.mem_map.mp hd;simp
 rw[fM,jR,iK (n:=7) h nF,iK (n:=7) h' nF,gP]
 have e:dF .NotEq (.lst (xs.map .int)) (.lst (ys.map .int))=.ok (!decide (xs=ys)):=by
  rw[qF]
  show(if ((xs.map D.int).all (aH 7) && (ys.map D.int).all (aH 7))=true then Out.ok (!dA (xs.map .int) (ys.map .int)) else .bad)=_
  rw[ok,ok,pL];rfl
 rw[e];rfl
theorem pM{xs:List Int}(hk:Ω[k]?=some (.lst (xs.map .int)))(h:xs.length < 64):fk [.ref k] Ω=.ok (.ref Ω.length) (Ω++[.lst ((xs.mergeSort fun a b=>decide (a<=b)).map .int)]):=by
 simp only[fk,az hk,sorted_ints h,eR]
theorem GZ{A:bg}(hA:C9 A){f:Nat}{w xs:List Str}{a2 a3:Option D}(hf:Ω[f]?=some (.lst (w.map .str)))(R:Rw Ω k js rs)(hl:rs.length<=12)(hr:∀ r∈rs,r.length<=24)(hw:w.length < 64)(hx:xs.length<=24)(hm:∀ r∈rs,∀ x∈r,x∈xs) :
  ∃ (b:Bool) (ak:ay),GN A [some (.ref f),some (.ref k),a2,a3] Ω=.ok (.bl (!b)) ak/\aq [] Ω ak/\(b=true->w.Nodup/\∀ x,x∈w↔∃ r∈rs,x∈r):=by
 have s1:=kZ hf hw;have g1:(Ω++[Cell.lst ((w.mergeSort bz).map .str)])[Ω.length]?=some (.lst ((w.mergeSort bz).map .str)):=aF;have K1:aq [] Ω (Ω++[Cell.lst ((w.mergeSort bz).map .str)]):=aq.app;generalize Ω++[Cell.lst ((w.mergeSort bz).map .str)]=ag at *;obtain⟨us,q,aw,u1,u2,e2,q2,K2⟩:=hA ag k js rs (R.keep K1) hl hr
 have El:us.length<=24:=Nat.le_trans (iP us xs u1 fun x hx'=>by
  obtain⟨r,h1,h2⟩:=(u2 x).mp hx';exact hm r h1 x h2) hx
 have s2:=kZ q2 (by omega)
 have g2:(aw++[Cell.lst ((us.mergeSort bz).map .str)])[aw.length]?=some (.lst ((us.mergeSort bz).map .str)):=aF;have K3:aq [] aw (aw++[Cell.lst ((us.mergeSort bz).map .str)]):=aq.app;have Ae:=K3.get _ _ (K2.get _ _ g1 (by simp)) (by simp)
 generalize aw++[Cell.lst ((us.mergeSort bz).map .str)]=aV at *;have hn:=sR Ae g2;refine⟨decide (w.mergeSort bz=us.mergeSort bz),aV,?_,(K1.trans K2).trans K3,fun hb => ?_⟩
 ·simp[GN,s1,e2,s2,hn,-fM]
 ·have he:=of_decide_eq_true hb
  have hp:w.Perm us:=(List.mergeSort_perm w bz).symm.trans (he▸List.mergeSort_perm us bz);exact⟨hp.nodup_iff.mpr u1,fun x=>by rw[hp.mem_iff];exact u2 x⟩
theorem G1{f j:Nat}{w:List Str}{a3:Option D}(hf:Ω[f]?=some (.lst (w.map .str)))(hj:Ω[j]?=some (.lst (row.map .str)))(hs:∀ x∈row,x∈w)(hl:row.length<=24) :
  ∃ (b:Bool) (pB:Option D) (ak:ay),L8 [some (.ref f),some (.ref k),some (.ref j),a3] Ω=(if b then .nx [some (.ref f),some (.ref k),some (.ref j),pB] ak else .rt (.bl false) ak)/\aq [] Ω ak/\(b=true->(row.map fun x=>((w.idxOf x:Nat):Int)).Pairwise (· <= ·)):=by
 have gH:bf (aa 2) [some (.ref f),some (.ref k),some (.ref j),a3] Ω=.ok (.seq (.ref j)) Ω:=by
  rw[cw];exact bc (by rw[aN,az hj])
 have hc:=c_ (me:=bE eY bF (aa 1) (U (aa 0) ah)) (nc:=true) (mc:=ae .non) (cap:=[0]) (ds:=row.map .str) (p:=fun _=>true) (g:=fun d=>match d with | .str x=>.int (w.idxOf x:Nat) | _=>.non) gH (by rw[cx,aN,az hj]) (fun d hd=>rfl) (fun d hd _=>by
  obtain⟨x,hx,rfl⟩:=List.mem_map.mp hd;have hi:=fv hf (hs x hx);rw[da (x:=.ref f) (ak:=Ω) (by simp[dc]) (cJ hf)]
  simp[hi]) (by simp;omega)
 rw[List.filter_eq_self.mpr (by simp),List.map_map]at hc
 have hm:(row.map ((fun d:D=>match d with | .str x=>D.int (w.idxOf x:Nat) | _=>.non) ∘ D.str))=(row.map fun x=>((w.idxOf x:Nat):Int)).map .int:=by rw[List.map_map];rfl
 rw[hm]at hc;have hpl:(row.map fun x=>((w.idxOf x:Nat):Int)).length < 64:=by simp;omega
 generalize (row.map fun x=>((w.idxOf x:Nat):Int))=is at *
 have hc:L7 [some (.ref f),some (.ref k),some (.ref j),a3] Ω=.ok (.ref Ω.length) (Ω++[Cell.lst (is.map .int)]):=hc;have g1:(Ω++[Cell.lst (is.map .int)])[Ω.length]?=some (.lst (is.map .int)):=aF;have K1:aq [] Ω (Ω++[Cell.lst (is.map .int)]):=aq.app;generalize Ω++[Cell.lst (is.map .int)]=ag at *;have s1:=pM g1 hpl;have hsp:=List.pairwise_mergeSort (le:=fun a b:Int=>decide (a<=b)) (fun a b c h1 h2=>by simp at *;omega) (fun a b=>by simp;omega) is
 generalize hms:(is.mergeSort fun a b=>decide (a<=b))=ms at *
 have g2:(ag++[Cell.lst (ms.map .int)])[ag.length]?=some (.lst (ms.map .int)):=aF;have K2:aq [] ag (ag++[Cell.lst (ms.map .int)]):=aq.app;have Ae:=K2.get _ _ g1 (by simp)
 generalize ag++[Cell.lst (ms.map .int)]=aw at *;have hne:=xO Ae g2;have r1:(ax 3 L7) [some (.ref f),some (.ref k),some (.ref j),a3] Ω=.nx [some (.ref f),some (.ref k),some (.ref j),some (.ref Ω.length)] ag:=by rw[cu,hc];rfl
 refine⟨decide (is=ms),some (.ref Ω.length),aw,?_,K1.trans K2,fun hb => ?_⟩
 ·unfold L8
  rw[ai,r1,aJ]
  by_cases hb:is=ms
  ·simp[s1,hne,hb,-fM]
  ·simp[s1,hne,hb,-fM]
 ·rw[of_decide_eq_true hb]
  exact hsp.imp fun h=>of_decide_eq_true h
theorem pw_sub{w row:List Str}(hn:row.Nodup)(hs:∀ x∈row,x∈w)(h:(row.map fun x=>((w.idxOf x:Nat):Int)).Pairwise (· <= ·))(i j:Nat)(a b:Str)(ha:row[i]?=some a)(hb:row[j]?=some b)(hij:i < j):w.idxOf a < w.idxOf b:=by
 rw[List.pairwise_iff_getElem]at h;obtain⟨hi,ea⟩:=List.getElem?_eq_some_iff.mp ha;obtain⟨hj,eb⟩:=List.getElem?_eq_some_iff.mp hb;have h1:=h i j (by simpa using hi) (by simpa using hj) hij
 simp only[List.getElem_map,ea,eb]at h1;rcases Nat.lt_or_eq_of_le (show w.idxOf a<=w.idxOf b by omega) with q | q
 ·exact q
 ·exfalso
  have ma:=hs a (List.mem_of_getElem? ha);have mb:=hs b (List.mem_of_getElem? hb)
  have h2:a=b:=by
   have h3:=List.getElem_idxOf (List.idxOf_lt_length_of_mem ma);have h4:=List.getElem_idxOf (List.idxOf_lt_length_of_mem mb);rw[← h3,← h4]
   congr 1
  have h5:=(List.getElem_inj (xs:=row) (h₀:=hi) (h₁:=hj) hn).mp (by rw[ea,eb,h2])
  omega
end
def G2(I:bg):Prop:=∀ (Ω:ay) (f k:Nat) (js:List Nat) (rs:List (List Str)) (w xs:List Str),Rw Ω k js rs->Ω[f]?=some (.lst (w.map .str))->rs.length<=12->(∀ r∈rs,r.length<=24)->(∀ r∈rs,r.Nodup)->w.length < 64->xs.length<=24->(∀ r∈rs,∀ x∈r,x∈xs) ->
 ∃ (b:Bool) (ak:ay),I [.ref f,.ref k] Ω=.ok (.bl b) ak/\aq [] Ω ak/\(b=true->eG w rs)
theorem Ma{A:bg}(hA:C9 A):G2 (bB 4 2 (Al A)):=by
 intro Ω f k js rs w xs R hf hl hr hnd hw hx hmx;rw[bY (by rfl)]
 have e0:aR 4 [D.ref f,.ref k]=[some (.ref f),some (.ref k),none,none]:=rfl;rw[e0];have hL:=R.len;obtain⟨ag,e1,K1⟩:=C_ (a1:=some (.ref k)) (a2:=none) (a3:=none) hf (by omega)
 obtain⟨b,aw,e2,K2,hb⟩:=GZ hA (a2:=none) (a3:=none) (K1.get _ _ hf (by simp)) (R.keep K1) hl hr hw hx hmx
 have R2:=(R.keep K1).keep K2;have f2:=K2.get _ _ (K1.get _ _ hf (by simp)) (by simp)
 have r1:(dh Jz (ao (aW (ae (.bl false))) aj) aj) [some (.ref f),some (.ref k),none,none] Ω=.nx [some (.ref f),some (.ref k),none,none] ag:=by rw[cS,e1];rfl
 cases b with
 | false=>
  have r2:(dh (GN A) (ao (aW (ae (.bl false))) aj) aj) [some (.ref f),some (.ref k),none,none] ag=.rt (.bl false) aw:=by rw[cS,e2];rfl
  refine⟨false,aw,?_,K1.trans K2,fun h=>by cases h⟩
  unfold Al;rw[ai,r1,aJ,ai,r2];rfl
 | true=>
  obtain⟨wn,wm⟩:=hb rfl;have r2:(dh (GN A) (ao (aW (ae (.bl false))) aj) aj) [some (.ref f),some (.ref k),none,none] ag=.nx [some (.ref f),some (.ref k),none,none] aw:=by rw[cS,e2];rfl
  have gH:bf (aa 1) [some (.ref f),some (.ref k),none,none] aw=.ok (.seq (.ref k)) aw:=by
   rw[cw];exact bc (by rw[aN,az R2.ce])
  unfold Al;rw[ai,r1,aJ,ai,r2,aJ,ai,dN,gH,eQ];refine cM (R:=fun r=>∃ (b:Bool) (ak:ay),fV (sq r _)=.ok (.bl b) ak/\aq [] Ω ak/\(b=true->eG w rs)) (ds:=js.map .ref) (fun i ρ aV=>∃ a2 a3,ρ=[some (.ref f),some (.ref k),a2,a3]/\aq [] aw aV/\∀ r∈rs.take i,(r.map fun x=>((w.idxOf x:Nat):Int)).Pairwise (· <= ·)) ?_ ?_ ?_ fuel 0 _ _ (by unfold fuel;simp;omega) (Nat.zero_le _) ⟨none,none,rfl,aq.refl,by simp⟩
  ·rintro i ρ aV ⟨_,_,_,K,_⟩
   rw[cx,aN,az (R2.keep K).ce]
  ·rintro i d ρ aV hd ⟨a2,a3,rfl,K,hp⟩
   obtain⟨j,hj,rfl⟩:=kX hd;obtain⟨row,Em,hrow⟩:=(R2.keep K).al.at' hj;have hm:=List.mem_of_getElem? Em;refine⟨[some (.ref f),some (.ref k),some (.ref j),a3],rfl,?_⟩;obtain⟨b,pB,eX,e,K4,hb⟩:=G1 (k:=k) (a3:=a3) (K.get _ _ f2 (by simp)) hrow (fun x hx=>(wm x).mpr ⟨row,hm,hx⟩) (hr row hm)
   rw[e];cases b with
   | true=>
    refine⟨_,_,rfl,K.trans K4,fun r hr' => ?_⟩
    rw[List.take_succ,Em]at hr';rcases List.mem_append.mp hr' with h | h
    ·exact hp r h
    ·have:r=row:=by simpa using h
     rw[this];exact hb rfl
   | false=>exact⟨false,eX,rfl,((K1.trans K2).trans K).trans K4,fun h=>by cases h⟩
  ·rintro ρ aV ⟨a2,a3,rfl,K,hp⟩
   refine⟨true,aV,rfl,(K1.trans K2).trans K,fun _=>⟨wn,wm,fun r hr' i j a b ha hb hij => ?_⟩⟩
   have:(js.map D.ref).length=rs.length:=by rw[List.length_map,R.len]
   rw[this,List.take_length]at hp;exact pw_sub (hnd r hr') (fun x hx=>(wm x).mpr ⟨r,hr',hx⟩) (hp r hr') i j a b ha hb hij
section
variable{Ω ak:ay}{ρ:aP}{k:Nat}{js:List Nat}{rs:List (List Str)}{row:List Str}{μ:Int->Int->Int->Int}{F:List D->Out Rs}
noncomputable def eT(xs ys:List Str)(n:Str):Str:=ys.getD (xs.idxOf n) ""
theorem xP{xs ys:List Str}(hy:ys.Nodup)(hl:xs.length=ys.length){a b:Str}(ha:a∈xs)(hb:b∈xs)(h:eT xs ys a=eT xs ys b):a=b:=by
 have la:=List.idxOf_lt_length_of_mem ha;have lb:=List.idxOf_lt_length_of_mem hb;unfold eT at h;rw[List.getD_eq_getElem?_getD,List.getD_eq_getElem?_getD,List.getElem?_eq_getElem (by omega),List.getElem?_eq_getElem (by omega)]at h
 have h1:=(List.getElem_inj (xs:=ys) (h₀:=by omega) (h₁:=by omega) hy).mp h
 have h3:=List.getElem_idxOf la;have h4:=List.getElem_idxOf lb;rw[← h3,← h4]
 congr 1
def Dr:SM:=
 (ao (aW (bq (m2 aM (aa 2) (bE eY bF (aa 1) (U (aa 0) ah))) true (ae .non) (bf (aa 2)) 0 [0,1]))
 aj)
def G3(P:bg):Prop:=∀ (Ω:ay) (a b c:Nat) (xs ys row:List Str),Ω[a]?=some (.lst (xs.map .str))->Ω[b]?=some (.lst (ys.map .str))->Ω[c]?=some (.lst (row.map .str))->xs.length=ys.length->(∀ x∈row,x∈xs)->row.length<=900->P [.ref a,.ref b,.ref c] Ω=.ok (.ref Ω.length) (Ω++[.lst ((row.map (eT xs ys)).map .str)])
theorem G4:G3 (bB 3 3 Dr):=by
 intro Ω a b c xs ys row ha hb hc hl hs hr;rw[bY (by rfl)]
 have e0:aR 3 [D.ref a,.ref b,.ref c]=[some (.ref a),some (.ref b),some (.ref c)]:=rfl;rw[e0]
 have gH:bf (aa 2) [some (.ref a),some (.ref b),some (.ref c)] Ω=.ok (.seq (.ref c)) Ω:=by
  rw[cw];exact bc (by rw[aN,az hc])
 have h:=c_ (Ω:=Ω) (ak:=Ω) (ρ:=[some (.ref a),some (.ref b),some (.ref c)]) (me:=m2 aM (aa 2) (bE eY bF (aa 1) (U (aa 0) ah))) (nc:=true) (mc:=ae .non) (cap:=[0,1]) (ds:=row.map .str) (p:=fun _=>true) (g:=fun d=>match d with | .str x=>.str (eT xs ys x) | _=>.non) gH (by rw[cx,aN,az hc]) (fun d hd=>rfl) (fun d hd _=>by
  obtain⟨x,hx,rfl⟩:=List.mem_map.mp hd;have hi:=fv ha (hs x hx);have hlt:=List.idxOf_lt_length_of_mem (hs x hx)
  have hy:ys[xs.idxOf x]?=some (eT xs ys x):=by
   unfold eT;rw[List.getD_eq_getElem?_getD,List.getElem?_eq_getElem (by omega)];rfl
  have hg:aM (.ref b) (.int (xs.idxOf x:Nat)) Ω=.ok (.str (eT xs ys x)) Ω:=bH hb (L2.bK (by rw[List.getElem?_map,hy];rfl))
  show m2 aM (aa 2) (bE eY bF (aa 1) (U (aa 0) ah)) [some (.str x),some (.ref a),some (.ref b)] Ω=.ok (.str (eT xs ys x)) Ω
  have hm:bE eY bF (aa 1) (U (aa 0) ah) [some (.str x),some (.ref a),some (.ref b)] Ω=.ok (.int (xs.idxOf x:Nat)) Ω:=by
   rw[da (x:=.ref a) (ak:=Ω) (by simp) (cJ ha)]
   simp[hi]
  rw[c8,show aa 2 [some (D.str x),some (.ref a),some (.ref b)] Ω=.ok (.ref b) Ω from rfl,aO,hm,aO,hg]) (by simp;omega)
 rw[List.filter_eq_self.mpr (by simp),List.map_map]at h
 unfold Dr;rw[ai,dM,h]
 show fV (.rt (.ref Ω.length) (Ω++[Cell.lst (row.map ((fun d:D=>match d with | .str x=>D.str (eT xs ys x) | _=>.non) ∘ D.str))]))=_
 rw[List.map_map];rfl
def Mb(l i:Nat):EM:=(mN cQ (U (m2 aM (aa l) (m2 (aI .Add) (aa i) (ae (.int 1)))) (U (m2 aM (aa l) (aa i)) ah)))
def JC(l i:Nat):EM:=(m2 (aI .Add) (m2 (aI .Add) (cf (aa l) true (ae .non) false (aa i)) (Mb l i)) (cf (aa l) false (m2 (aI .Add) (aa i) (ae (.int 2))) true (ae .non)))
theorem G5{l i j A:Nat}(hl:ρ[l]?=some (some (.ref j)))(hi:ρ[i]?=some (some (.int A)))(hj:Ω[j]?=some (.lst (row.map .str)))(Of:A + 1 < row.length)(hr:row.length<=24) :
  ∃ (q:Nat) (r:List Str) (ak:ay),JC l i ρ Ω=.ok (.ref q) ak/\ak[q]?=some (.lst (r.map .str))/\r.Perm row/\aq [] Ω ak:=by
 have hvl:∀ Ω,aa l ρ Ω=.ok (.ref j) Ω:=fun Ω=>by rw[jL,hl];rfl
 have Mc:∀ Ω,aa i ρ Ω=.ok (.int A) Ω:=fun Ω=>by rw[jL,hi];rfl
 have s1:=nL (n:=A) hj;have w1:aq [] Ω (Ω++[Cell.lst ((row.take A).map .str)]):=aq.app;have v1:(Ω++[Cell.lst ((row.take A).map .str)])[Ω.length]?=some (.lst ((row.take A).map .str)):=aF
 have x1:(cf (aa l) true (ae .non) false (aa i)) ρ Ω=.ok (.ref Ω.length) (Ω++[Cell.lst ((row.take A).map .str)]):=by
  simp only[kT,hvl,Mc,aO,nJ,nI,nK];exact s1
 generalize L_:Ω++[Cell.lst ((row.take A).map .str)]=ag at *;have j1:=w1.get _ _ hj (by simp)
 have GP:row[A]?=some (row.getD A ""):=by rw[List.getD_eq_getElem?_getD,List.getElem?_eq_getElem (by omega)];rfl
 have hy1:row[A + 1]?=some (row.getD (A + 1) ""):=by rw[List.getD_eq_getElem?_getD,List.getElem?_eq_getElem Of];rfl
 have hx0:aM (.ref j) (.int A) ag=.ok (.str (row.getD A "")) ag:=bH j1 (L2.bK (by rw[List.getElem?_map,GP];rfl))
 have hx1:aM (.ref j) (.int (A + 1:Nat)) ag=.ok (.str (row.getD (A + 1) "")) ag:=bH j1 (L2.bK (by rw[List.getElem?_map,hy1];rfl))
 have hsw:=swap_perm Of;generalize row.getD A ""=y0 at *;generalize row.getD (A + 1) ""=y1 at *;have w2:aq [] ag (ag++[Cell.lst [.str y1,.str y0]]):=aq.app;have v2:(ag++[Cell.lst [.str y1,.str y0]])[ag.length]?=some (.lst ([y1,y0].map .str)):=aF
 have ha1:∀ (z:Int) (Ω:ay),(m2 (aI .Add) (aa i) (ae (.int z))) ρ Ω=.ok (.int ((A:Int) + z)) Ω:=fun z Ω=>by
  rw[c8,Mc,aO,jM,aO];simp
 have x2:Mb l i ρ ag=.ok (.ref ag.length) (ag++[Cell.lst [.str y1,.str y0]]):=by
  have Md:aM (.ref j) (.int ((A:Int) + 1)) ag=.ok (.str y1) ag:=hx1;have z1:m2 aM (aa l) (m2 (aI .Add) (aa i) (ae (.int 1))) ρ ag=.ok (.str y1) ag:=by rw[c8,hvl,aO,ha1,aO,Md]
  have z0:m2 aM (aa l) (aa i) ρ ag=.ok (.str y0) ag:=by rw[c8,hvl,aO,Mc,aO,hx0]
  unfold Mb;rw[Ba,fu,z1,aO,fu,z0,aO,jK,aO,aO,aO];simp[ba]
 generalize ag++[Cell.lst [.str y1,.str y0]]=aw at *;have s3:=pH (w2.get _ _ v1 (by simp)) v2 (by simp;omega)
 rw[← List.map_append]at s3;have w3:aq [] aw (aw++[Cell.lst ((row.take A++[y1,y0]).map .str)]):=aq.app;have v3:(aw++[Cell.lst ((row.take A++[y1,y0]).map .str)])[aw.length]?=some (.lst ((row.take A++[y1,y0]).map .str)):=aF;generalize aw++[Cell.lst ((row.take A++[y1,y0]).map .str)]=aV at *;have W3:=(w1.trans w2).trans w3;have s4:=xf (i:=A + 2) (W3.get _ _ hj (by simp))
 have w4:aq [] aV (aV++[Cell.lst ((row.drop (A + 2)).map .str)]):=aq.app;have v4:(aV++[Cell.lst ((row.drop (A + 2)).map .str)])[aV.length]?=some (.lst ((row.drop (A + 2)).map .str)):=aF
 have x4:(cf (aa l) false (m2 (aI .Add) (aa i) (ae (.int 2))) true (ae .non)) ρ aV=.ok (.ref aV.length) (aV++[Cell.lst ((row.drop (A + 2)).map .str)]):=by
  simp only[kT,hvl,ha1,aO,nJ,nI,nK];exact s4
 generalize aV++[Cell.lst ((row.drop (A + 2)).map .str)]=eX at *;have s5:=pH (w4.get _ _ v3 (by simp)) v4 (by simp;omega)
 rw[← List.map_append]at s5;refine⟨eX.length,row.take A++[y1,y0]++row.drop (A + 2),eX++[Cell.lst ((row.take A++[y1,y0]++row.drop (A + 2)).map .str)],?_,aF,hsw,(W3.trans w4).trans aq.app⟩;unfold JC;rw[c8,c8,x1,aO,x2,aO,s3,aO,x4,aO,s5]
def G6(F:List D->Out Rs)(IO:bg):EM:=(eI (m2 (aD .Eq) (mN (aU F) (U (aa 0) (U (m2 (aI .Add) (ae (.int 10)) (aa 4)) (U (ae (.int 2)) ah)))) (ae (.int 0))) (mN (aL IO) (U (aa 5) (U (aa 2) ah))))
def Ep(F:List D->Out Rs)(IO:bg):SM:=(ao (ax 5 (JC 3 4))
 (ao (dh (G6 F IO)
 (ao (ax 3 (aa 5))
 aj)
 aj)
 aj))
def Ds(F:List D->Out Rs)(IO:bg):SM:=
 (ao (ax 3 (mN (aZ .list) (U (aa 1) ah)))
 (ao (cF (bA 4) (bG (U (m2 (aI .Sub) (mN (aZ .len) (U (aa 1) ah)) (ae (.int 1))) ah)) (Ep F IO))
 (ao (aW (aa 3))
 aj)))
theorem Dt{IO:bg}(hμ:dC μ F)(hI:G2 IO){c:Int}{t q A:Nat}{w xs:List Str}{a5:Option D}(R:Rw Ω k js rs)(hl:rs.length<=12)(hr:∀ r∈rs,r.length<=24)(hnd:∀ r∈rs,r.Nodup)(hx:xs.length<=24)(hm:∀ r∈rs,∀ x∈r,x∈xs)(hq:Ω[q]?=some (.lst (w.map .str)))(hw:w.length<=24)(hA:A + 1 < w.length)(hO:eG w rs) :
  ∃ (q':Nat) (w':List Str) (Df:Option D) (ak:ay),Ep F IO [some (.int c),some (.ref t),some (.ref k),some (.ref q),some (.int A),a5] Ω=.nx [some (.int c),some (.ref t),some (.ref k),some (.ref q'),some (.int A),Df] ak/\ak[q']?=some (.lst (w'.map .str))/\w'.length=w.length/\eG w' rs/\aq [] Ω ak:=by
 obtain⟨p,r,ag,e1,g1,hp,K1⟩:=G5 (ρ:=[some (.int c),some (.ref t),some (.ref k),some (.ref q),some (.int A),a5]) (l:=3) (i:=4) rfl rfl hq hA hw;have r1:(ax 5 (JC 3 4)) [some (.int c),some (.ref t),some (.ref k),some (.ref q),some (.int A),a5] Ω=.nx [some (.int c),some (.ref t),some (.ref k),some (.ref q),some (.int A),some (.ref p)] ag:=by rw[cu,e1];rfl
 obtain⟨m0,m1',hmx⟩:=hμ c (10 + (A:Int)) 2 (by omega) (by omega) (by omega)
 have c1:m2 (aD .Eq) (mN (aU F) (U (aa 0) (U (m2 (aI .Add) (ae (.int 10)) (aa 4)) (U (ae (.int 2)) ah)))) (ae (.int 0)) [some (.int c),some (.ref t),some (.ref k),some (.ref q),some (.int A),some (.ref p)] ag=.ok (.bl (decide (μ c (10 + (A:Int)) 2=0))) ag:=by
  have:(μ c (10 + (A:Int)) 2 == 0)=decide (μ c (10 + (A:Int)) 2=0):=by by_cases z:μ c (10 + (A:Int)) 2=0<;>simp[z]
  simp[hmx,this]
 obtain⟨b,aw,e2,K2,hb⟩:=hI ag p k js rs r xs (R.keep K1) g1 hl hr hnd (by rw[hp.length_eq];omega) hx hm
 by_cases hz:μ c (10 + (A:Int)) 2=0
 ·rw[decide_eq_true hz]at c1
  have c2:G6 F IO [some (.int c),some (.ref t),some (.ref k),some (.ref q),some (.int A),some (.ref p)] ag=.ok (.bl b) aw:=by
   unfold G6;rw[gN,c1,aO,c9,w6];simp[e2]
  cases b with
  | true=>
   refine⟨p,r,some (.ref p),aw,?_,K2.get _ _ g1 (by simp),hp.length_eq,hb rfl,K1.trans K2⟩
   unfold Ep;rw[ai,r1,aJ,ai,cS,c2];rfl
  | false=>
   refine⟨q,w,some (.ref p),aw,?_,K2.get _ _ (K1.get _ _ hq (by simp)) (by simp),rfl,hO,K1.trans K2⟩
   unfold Ep;rw[ai,r1,aJ,ai,cS,c2];rfl
 ·rw[decide_eq_false hz]at c1
  have c2:G6 F IO [some (.int c),some (.ref t),some (.ref k),some (.ref q),some (.int A),some (.ref p)] ag=.ok (.bl false) ag:=by
   unfold G6;rw[gN,c1,aO,c9,sI]
  refine⟨q,w,some (.ref p),ag,?_,K1.get _ _ hq (by simp),rfl,hO,K1⟩
  unfold Ep;rw[ai,r1,aJ,ai,cS,c2];rfl
end
def G7(E:bg):Prop:=∀ (Ω:ay) (c:Int) (t k:Nat) (js:List Nat) (rs:List (List Str)) (o xs:List Str),Rw Ω k js rs->Ω[t]?=some (.lst (o.map .str))->rs.length<=12->(∀ r∈rs,r.length<=24)->(∀ r∈rs,r.Nodup)->xs.length<=24->(∀ r∈rs,∀ x∈r,x∈xs)->o.length<=24->eG o rs ->
 ∃ (w:List Str) (q:Nat) (ak:ay),E [.int c,.ref t,.ref k] Ω=.ok (.ref q) ak/\ak[q]?=some (.lst (w.map .str))/\w.length=o.length/\eG w rs/\aq [] Ω ak
theorem G8{μ:Int->Int->Int->Int}{F:List D->Out Rs}{IO:bg}(hμ:dC μ F)(hI:G2 IO):G7 (bB 6 3 (Ds F IO)):=by
 intro Ω c t k js rs o xs R ht hl hr hnd hx hm ho hO;rw[bY (by rfl)]
 have e0:aR 6 [D.int c,.ref t,.ref k]=[some (.int c),some (.ref t),some (.ref k),none,none,none]:=rfl;rw[e0];have e1:=gQ ht;have K1:aq [] Ω (Ω++[.lst (o.map .str)]):=aq.app;have g1:(Ω++[Cell.lst (o.map .str)])[Ω.length]?=some (.lst (o.map .str)):=aF;have t1:=K1.get _ _ ht (by simp)
 generalize Ω++[Cell.lst (o.map .str)]=ag at *;have r1:(ax 3 (mN (aZ .list) (U (aa 1) ah))) [some (.int c),some (.ref t),some (.ref k),none,none,none] Ω=.nx [some (.int c),some (.ref t),some (.ref k),some (.ref Ω.length),none,none] ag:=by simp[e1]
 have hlen:=dO t1;rw[List.length_map]at hlen;have hin:hW ((o.length:Int) - 1)=true:=dH (by omega) (by omega)
 have key:∃ (w:List Str) (q:Nat) (a4 a5:Option D) (aw:ay),(cF (bA 4) (bG (U (m2 (aI .Sub) (mN (aZ .len) (U (aa 1) ah)) (ae (.int 1))) ah)) (Ep F IO)) [some (.int c),some (.ref t),some (.ref k),some (.ref Ω.length),none,none] ag=.nx [some (.int c),some (.ref t),some (.ref k),some (.ref q),a4,a5] aw/\aw[q]?=some (.lst (w.map .str))/\w.length=o.length/\eG w rs/\aq [] ag aw:=by
  rw[dN];have gH:bG (U (m2 (aI .Sub) (mN (aZ .len) (U (aa 1) ah)) (ae (.int 1))) ah) [some (.int c),some (.ref t),some (.ref k),some (.ref Ω.length),none,none] ag=.ok (.ints 0 ((o.length:Int) - 1).toNat) ag:=by simp[hlen,hin]
  rw[gH,eQ]
  refine cM (R:=fun r=>∃ (w:List Str) (q:Nat) (a4 a5:Option D) (aw:ay),r=.nx [some (.int c),some (.ref t),some (.ref k),some (.ref q),a4,a5] aw/\aw[q]?=some (.lst (w.map .str))/\w.length=o.length/\eG w rs/\aq [] ag aw) (ds:=intsFrom 0 ((o.length:Int) - 1).toNat)
   (fun i ρ aw=>∃ (w:List Str) (q:Nat) (a4 a5:Option D),ρ=[some (.int c),some (.ref t),some (.ref k),some (.ref q),a4,a5]/\aw[q]?=some (.lst (w.map .str))/\w.length=o.length/\eG w rs/\aq [] ag aw) (fun _ _ _ _=>rfl) ?_ ?_ fuel 0 _ _ (by unfold fuel;rw[cp];omega) (Nat.zero_le _) ⟨o,Ω.length,none,none,rfl,g1,rfl,hO,aq.refl⟩
  ·rintro i d ρ aw hd ⟨w,q,a4,a5,rfl,h1,h2,h3,K⟩
   obtain⟨rfl,hlt⟩:=dI hd;rw[show(0:Int) + (i:Int)=(i:Int) by omega]
   refine⟨[some (.int c),some (.ref t),some (.ref k),some (.ref q),some (.int i),a5],rfl,?_⟩;obtain⟨q',w',Df,aV,e3,c1,c2,c3,K3⟩:=Dt (c:=c) (t:=t) (a5:=a5) hμ hI ((R.keep K1).keep K) hl hr hnd hx hm h1 (by omega) (A:=i) (by omega) h3
   rw[e3];exact⟨w',q',_,Df,rfl,c1,by omega,c3,K.trans K3⟩
  ·rintro ρ aw ⟨w,q,a4,a5,rfl,h1,h2,h3,K⟩
   exact⟨w,q,a4,a5,aw,rfl,h1,h2,h3,K⟩
 obtain⟨w,q,a4,a5,aw,e2,c1,c2,c3,K2⟩:=key;refine⟨w,q,aw,?_,c1,c2,c3,K1.trans K2⟩;unfold Ds;rw[ai,r1,aJ,ai,e2,aJ,ai,dM];rfl
section
variable{Ω ak:ay}{ρ:aP}{k:Nat}{js:List Nat}{rs:List (List Str)}{row:List Str}
def As:EM:=(eI (m2 (aD .Lt) (aa 3) (mN (aZ .len) (U (aa 0) ah))) (m2 (aD .Eq) (m2 aM (aa 0) (aa 3)) (m2 aM (aa 1) (aa 3))))
def Bj:SM:=(ao (ax 3 (m2 (aI .Add) (aa 3) (ae (.int 1)))) aj)
def JD:EM:=(bq (aa 0) false (m2 (aD .NotIn) (aa 0) (cf (aa 2) true (ae .non) false (aa 1))) (bf (aa 0)) 0 [1,2])
def Me:EM:=(bq JD true (ae .non) (bf (aa 2)) 0 [3,0])
def JE:EM:=(A4 (m2 (aD .NotEq) (aa 0) (mN cQ ah)) (m2 aM (aa 0) (ae (.int 0))) (ae (.str "")))
def JF:EM:=(bq JE true (ae .non) (bf (aa 4)) 0 [])
def Mf:EM:=(wg (m2 (aD .NotIn) (m2 aM (aa 0) (aa 3)) (aa 5)) (m2 (aD .NotIn) (m2 aM (aa 1) (aa 3)) (aa 5)))
def Mh:EM:=(m2 (aD .Lt) (bE eY bF (aa 5) (U (m2 aM (aa 0) (aa 3)) ah)) (bE eY bF (aa 5) (U (m2 aM (aa 1) (aa 3)) ah)))
def Au:SM:=
 (ao (ax 3 (ae (.int 0)))
 (ao (kI As Bj)
 (ao (dh (m2 (aD .Eq) (aa 3) (mN (aZ .len) (U (aa 0) ah)))
 (ao (aW (ae (.bl true)))
 aj)
 aj)
 (ao (ax 4 Me)
 (ao (ax 5 JF)
 (ao (pJ Mf)
 (ao (aW Mh)
 aj)))))))
theorem gJ{j i:Nat}{ws:List Str}{x:Str}(h:Ω[j]?=some (.lst (ws.map .str)))(hx:ws[i]?=some x):aM (.ref j) (.int (i:Int)) Ω=.ok (.str x) Ω:=bH h (L2.bK (by rw[List.getElem?_map,hx];rfl))
theorem Mi{a b:Str}:aD .Eq (.str a) (.str b) Ω=.ok (.bl (decide (a=b))) Ω:=by
 by_cases h:a=b<;>simp[h]
theorem Du{t u:Nat}{o w:List Str}{r:D}{a4 a5:Option D}(ht:Ω[t]?=some (.lst (o.map .str)))(hu:Ω[u]?=some (.lst (w.map .str)))(hl:w.length=o.length)(ho:o.length<=24) :
  ∀ (f i:Nat),o.length - i < f->i<=o.length->o.take i=w.take i->∃ m:Nat,i<=m/\m<=o.length/\o.take m=w.take m/\(m < o.length->o[m]?≠w[m]?)/\c7 As Bj f [some (.ref t),some (.ref u),some r,some (.int i),a4,a5] Ω=.nx [some (.ref t),some (.ref u),some r,some (.int m),a4,a5] Ω:=by
 have hlen:=dO ht;rw[List.length_map]at hlen;intro f
 induction f with
 | zero=>intro i h;omega
 | succ f ih=>
  intro i hf hi hp
  by_cases hlt:i < o.length
  ·have ha:o[i]?=some o[i]:=List.getElem?_eq_getElem hlt
   have hb:w[i]?=some (w[i]'(by omega)):=List.getElem?_eq_getElem (by omega)
   have i1:=gJ ht ha;have i2:=gJ hu hb;have hz:(i:Int) < (o.length:Int):=by omega
   have hc:As [some (.ref t),some (.ref u),some r,some (.int i),a4,a5] Ω=.ok (.bl (decide (o[i]=w[i]'(by omega)))) Ω:=by
    have e1:m2 (aD .Lt) (aa 3) (mN (aZ .len) (U (aa 0) ah)) [some (.ref t),some (.ref u),some r,some (.int i),a4,a5] Ω=.ok (.bl true) Ω:=by simp[hlen,hz]
    have e2:m2 (aD .Eq) (m2 aM (aa 0) (aa 3)) (m2 aM (aa 1) (aa 3)) [some (.ref t),some (.ref u),some r,some (.int i),a4,a5] Ω=.ok (.bl (decide (o[i]=w[i]'(by omega)))) Ω:=by
     simp[i1,i2,Mi,-nG]
    unfold As;rw[gN,e1,aO,c9,w6,e2]
   by_cases he:o[i]=w[i]'(by omega)
   ·rw[decide_eq_true he]at hc
    have hp':o.take (i + 1)=w.take (i + 1):=by rw[List.take_succ,List.take_succ,ha,hb,hp,he]
    obtain⟨m,h1,h2,h3,h4,h5⟩:=ih (i + 1) (by omega) (by omega) hp'
    refine⟨m,by omega,h2,h3,h4,?_⟩
    have eb:Bj [some (.ref t),some (.ref u),some r,some (.int i),a4,a5] Ω=.nx [some (.ref t),some (.ref u),some r,some (.int ((i + 1:Nat):Int)),a4,a5] Ω:=by
     simp[Bj]
    simp only[c7,hc]
    show(match Bj [some (.ref t),some (.ref u),some r,some (.int i),a4,a5] Ω with | .nx bL ak=>c7 As Bj f bL ak | .ct bL ak=>c7 As Bj f bL ak | .bk bL ak=>.nx bL ak | r=>r)=_
    rw[eb];exact h5
   ·rw[decide_eq_false he]at hc
    refine⟨i,Nat.le_refl _,hi,hp,fun _=>by rw[ha,hb];simpa using he,?_⟩
    simp only[c7,hc];rfl
  ·have hz:¬ (i:Int) < (o.length:Int):=by omega
   have hc:As [some (.ref t),some (.ref u),some r,some (.int i),a4,a5] Ω=.ok (.bl false) Ω:=by
    have e1:m2 (aD .Lt) (aa 3) (mN (aZ .len) (U (aa 0) ah)) [some (.ref t),some (.ref u),some r,some (.int i),a4,a5] Ω=.ok (.bl false) Ω:=by simp[hlen,hz]
    unfold As;rw[gN,e1,aO,c9,sI]
   refine⟨i,Nat.le_refl _,hi,hp,fun h=>absurd h hlt,?_⟩
   simp only[c7,hc];rfl
theorem Dv{j t m:Nat}{o:List Str}(hj:Ω[j]?=some (.lst (row.map .str)))(ht:Ω[t]?=some (.lst (o.map .str)))(hr:row.length<=24) :
  ∃ ak,JD [some (.ref j),some (.int m),some (.ref t)] Ω=.ok (.ref ak.length) (ak++[.lst ((ig (o.take m) row).map .str)])/\aq [] Ω ak:=by
 have gH:bf (aa 0) [some (.ref j),some (.int m),some (.ref t)] Ω=.ok (.seq (.ref j)) Ω:=by
  rw[cw];exact bc (by rw[aN,az hj])
 obtain⟨aw,e,K⟩:=z8 (Ω:=Ω) (ak:=Ω) (ρ:=[some (.ref j),some (.int m),some (.ref t)]) (me:=aa 0) (mc:=m2 (aD .NotIn) (aa 0) (cf (aa 2) true (ae .non) false (aa 1))) (nc:=false) (mi:=bf (aa 0)) (cap:=[1,2]) (src:=.seq (.ref j)) (ds:=row.map .str) (p:=fun d=>match d with | .str x=>decide (x∉o.take m) | _=>false) (g:=fun d=>d)
  (fun i aw=>aq [] Ω aw) gH (fun i aw K=>by rw[cx,aN,az (K.get _ _ hj (by simp))]) (fun i d ag hd K=>by
   rw[List.getElem?_map]at hd;obtain⟨x,hx,rfl⟩:=Option.map_eq_some_iff.mp hd;have t1:=K.get _ _ ht (by simp)
   have s1:=nL (n:=m) t1;have K1:aq [] ag (ag++[.lst ((o.take m).map .str)]):=aq.app;have g1:(ag++[Cell.lst ((o.take m).map .str)])[ag.length]?=some (.lst ((o.take m).map .str)):=aF;have hn:=iM (w:=x) g1;generalize Qw:ag++[Cell.lst ((o.take m).map .str)]=Og at *
   have ec:m2 (aD .NotIn) (aa 0) (cf (aa 2) true (ae .non) false (aa 1)) [some (.str x),some (.int m),some (.ref t)] ag=.ok (.bl (!decide (x∈o.take m))) Og:=by
    simp[s1,hn,-el]
   refine⟨Og,?_,K.trans K1,fun _=>rfl⟩
   unfold ib;rw[if_neg (by simp)]
   show dB (m2 (aD .NotIn) (aa 0) (cf (aa 2) true (ae .non) false (aa 1)) [some (.str x),some (.int m),some (.ref t)] ag)=.ok (decide (x∉o.take m)) _
   rw[ec,decide_not];rfl) (by simp;omega) aq.refl
 refine⟨aw,?_,K⟩;unfold JD;rw[e,List.filter_map,List.map_map];rfl
theorem Dw{j:Nat}(hj:Ω[j]?=some (.lst (row.map .str))):∃ ak,JE [some (.ref j)] Ω=.ok (.str (row.headD "")) ak/\aq [] Ω ak:=by
 have K1:aq [] Ω (Ω++[Cell.lst []]):=aq.app;have g4:(Ω++[Cell.lst []])[Ω.length]?=some (.lst (([]:List Str).map .str)):=aF;have h4:=K1.get _ _ hj (by simp)
 have hne:=sR h4 g4
 have m1:m2 (aD .NotEq) (aa 0) (mN cQ ah) [some (.ref j)] Ω=.ok (.bl (!decide (row=[]))) (Ω++[Cell.lst []]):=by
  simp[ba,hne,-fM]
 generalize Ω++[Cell.lst []]=ag at *;refine⟨ag,?_,K1⟩;unfold JE;cases row with
 | nil=>
  rw[qP,m1];rfl
 | cons x t=>
  have hx:=gJ (i:=0) h4 rfl;rw[qP,m1]
  show m2 aM (aa 0) (ae (.int 0)) [some (.ref j)] ag=_
  rw[c8,show aa 0 [some (D.ref j)] ag=.ok (.ref j) ag from rfl,aO,jM,aO]
  exact hx
theorem xQ:∀ {js:List Nat} {rs:List (List Str)},jk Ω js rs->(js.map D.ref).map (fun d=>D.str (Eo Ω d))=(eJ rs).map .str
 | [],rs,h=>by
  have:rs=[]:=aK.nil_inv (R:=Ac Ω) h;subst this;rfl
 | j::js,rs,h=>by
  obtain⟨row,r,rfl,h1,h2⟩:=aK.cons_inv (R:=Ac Ω) h;have ih:=xQ h2;unfold eJ at ih ⊢;simp only[List.map_cons,ih]
  have:Eo Ω (.ref j)=row.headD "":=by
   have h1:Ω[j]?=some (.lst (row.map .str)):=h1;cases row<;>simp[Eo,h1]
  rw[this]
theorem Dx{a0 a1 a2 a3 a5:Option D}(R:Rw Ω k js rs)(hl:rs.length<=12):∃ ak,JF [a0,a1,a2,a3,some (.ref k),a5] Ω=.ok (.ref ak.length) (ak++[.lst ((eJ rs).map .str)])/\aq [] Ω ak:=by
 have hL:=R.len
 have gH:bf (aa 4) [a0,a1,a2,a3,some (.ref k),a5] Ω=.ok (.seq (.ref k)) Ω:=by
  rw[cw];exact bc (by rw[aN,az R.ce])
 obtain⟨aw,e,K⟩:=xc (Ω:=Ω) (ak:=Ω) (ρ:=[a0,a1,a2,a3,some (.ref k),a5]) (me:=JE) (mc:=ae .non) (cap:=[]) (src:=.seq (.ref k)) (ds:=js.map .ref) (g:=fun d=>.str (Eo Ω d)) (fun aw=>aq [] Ω aw) gH aq.refl (fun aw K=>by rw[cx,aN,az (K.get _ _ R.ce (by simp))])
  (fun d hd aw K=>by
   obtain⟨j,hj,rfl⟩:=List.mem_map.mp hd;obtain⟨i,hi⟩:=List.mem_iff_getElem?.mp hj;obtain⟨row,h1,h2⟩:=R.al.at' hi;obtain⟨aV,e3,K3⟩:=Dw (K.get _ _ h2 (by simp))
   refine⟨aV,?_,K.trans K3⟩;have:Eo Ω (.ref j)=row.headD "":=by cases row<;>simp[Eo,h2]
   rw[this];exact e3) (by simp;omega)
 refine⟨aw,?_,K⟩;unfold JF;rw[e,xQ R.al]
end
def G9(Dp:bg):Prop:=∀ (Ω:ay) (t u k:Nat) (js:List Nat) (rs:List (List Str)) (o w:List Str),Rw Ω k js rs->Ω[t]?=some (.lst (o.map .str))->Ω[u]?=some (.lst (w.map .str))->Mg rs o->eG w rs->(∀ r∈rs,r.Nodup)->rs.length<=12->(∀ r∈rs,r.length<=24)->o.length<=24->w.length=o.length->(∀ x∈o,x≠"") ->
 ∃ ak,Dp [.ref t,.ref u,.ref k] Ω=.ok (.bl true) ak/\aq [] Ω ak
theorem G_:G9 (bB 6 3 Au):=by
 intro Ω t u k js rs o w R ht hu M hO hnd hl hr ho hw hne;rw[bY (by rfl)]
 have e0:aR 6 [D.ref t,.ref u,.ref k]=[some (.ref t),some (.ref u),some (.ref k),none,none,none]:=rfl;rw[e0];have hlen:=dO ht;rw[List.length_map]at hlen;have r1:(ax 3 (ae (.int 0))) [some (.ref t),some (.ref u),some (.ref k),none,none,none] Ω=.nx [some (.ref t),some (.ref u),some (.ref k),some (.int ((0:Nat):Int)),none,none] Ω:=rfl;obtain⟨m,_,hm,hp,hd,e2⟩:=Du (r:=.ref k) (a4:=none) (a5:=none) ht hu hw ho fuel 0 (by unfold fuel;omega) (Nat.zero_le _) (by simp)
 have r2:(kI As Bj) [some (.ref t),some (.ref u),some (.ref k),some (.int ((0:Nat):Int)),none,none] Ω=.nx [some (.ref t),some (.ref u),some (.ref k),some (.int m),none,none] Ω:=e2
 by_cases hmn:m=o.length
 ·have c3:m2 (aD .Eq) (aa 3) (mN (aZ .len) (U (aa 0) ah)) [some (.ref t),some (.ref u),some (.ref k),some (.int m),none,none] Ω=.ok (.bl true) Ω:=by simp[hlen,hmn]
  refine⟨Ω,?_,aq.refl⟩;unfold Au;rw[ai,r1,aJ,ai,r2,aJ,ai,cS,c3];rfl
 ·have hlt:m < o.length:=by omega
  have hz:¬ (m:Int)=(o.length:Int):=by omega
  have c3:m2 (aD .Eq) (aa 3) (mN (aZ .len) (U (aa 0) ah)) [some (.ref t),some (.ref u),some (.ref k),some (.int m),none,none] Ω=.ok (.bl false) Ω:=by simp[hlen,hz]
  have r3:(dh (m2 (aD .Eq) (aa 3) (mN (aZ .len) (U (aa 0) ah))) (ao (aW (ae (.bl true))) aj) aj) [some (.ref t),some (.ref u),some (.ref k),some (.int m),none,none] Ω=.nx [some (.ref t),some (.ref u),some (.ref k),some (.int m),none,none] Ω:=by rw[cS,c3];rfl
  have ha:o[m]?=some o[m]:=List.getElem?_eq_getElem hlt;have hb:w[m]?=some (w[m]'(by omega)):=List.getElem?_eq_getElem (by omega)
  have hab:=hd hlt;generalize o[m]=n at *;generalize (w[m]'(by omega))=y at *
  have Qx:n≠y:=fun q=>hab (by rw[ha,hb,q])
  have hn0:=hne n (List.mem_of_getElem? ha)
  have GP:y≠"":=by
   obtain⟨r,h1,h2⟩:=(hO.mem y).mp (List.mem_of_getElem? hb);exact hne y ((qU M r h1).subset h2)
  obtain⟨d1,d2,d3⟩:=Am M hO hnd ha hb hp Qx hn0 GP
  have gH:bf (aa 2) [some (.ref t),some (.ref u),some (.ref k),some (.int m),none,none] Ω=.ok (.seq (.ref k)) Ω:=by
   rw[cw];exact bc (by rw[aN,az R.ce])
  obtain⟨fO,ag,e4,K1,h1,_⟩:=iN (ρ:=[some (.ref t),some (.ref u),some (.ref k),some (.int m),none,none]) (me:=JD) (mc:=ae .non) (cap:=[3,0]) (f:=ig (o.take m)) (P:=fun _=>True) gH R (by omega) (fun j row fx K hj hrow h=>by
   obtain⟨uD,e,K9⟩:=Dv (m:=m) h (K.get _ _ ht (by simp)) (hr row hrow)
   exact⟨uD.length,_,e,K9.trans aq.app,aF,trivial⟩)
  have R1:Rw (ag++[.lst (fO.map .ref)]) ag.length fO (rs.map (ig (o.take m))):=⟨aF,h1.keep (fp:=[]) aq.app (by simp)⟩
  have Qy:aq [] Ω (ag++[.lst (fO.map .ref)]):=K1.trans aq.app
  have r4:(ax 4 Me) [some (.ref t),some (.ref u),some (.ref k),some (.int m),none,none] Ω=.nx [some (.ref t),some (.ref u),some (.ref k),some (.int m),some (.ref ag.length),none] (ag++[.lst (fO.map .ref)]):=by
   have:Me [some (.ref t),some (.ref u),some (.ref k),some (.int m),none,none] Ω=.ok (.ref ag.length) (ag++[.lst (fO.map .ref)]):=e4;rw[cu,this];rfl
  generalize ag++[Cell.lst (fO.map .ref)]=aw at *;obtain⟨aV,e5,K3⟩:=Dx (a0:=some (.ref t)) (a1:=some (.ref u)) (a2:=some (.ref k)) (a3:=some (.int m)) (a5:=none) R1 (by simp;omega)
  have Ob:aq [] aV (aV++[.lst ((eJ (rs.map (ig (o.take m)))).map .str)]):=aq.app;have g5:(aV++[Cell.lst ((eJ (rs.map (ig (o.take m)))).map .str)])[aV.length]?=some (.lst ((eJ (rs.map (ig (o.take m)))).map .str)):=aF;have r5:(ax 5 JF) [some (.ref t),some (.ref u),some (.ref k),some (.int m),some (.ref ag.length),none] aw=.nx [some (.ref t),some (.ref u),some (.ref k),some (.int m),some (.ref ag.length),some (.ref aV.length)] (aV++[.lst ((eJ (rs.map (ig (o.take m)))).map .str)]):=by rw[cu,e5];rfl
  have KA:=(Qy.trans K3).trans Ob;generalize aV++[Cell.lst ((eJ (rs.map (ig (o.take m)))).map .str)]=eX at *;generalize eJ (rs.map (ig (o.take m)))=fs at *;have i1:=gJ (KA.get _ _ ht (by simp)) ha
  have i2:=gJ (KA.get _ _ hu (by simp)) hb
  have n1:=iM (w:=n) g5;have n2:=iM (w:=y) g5;rw[decide_eq_true d1]at n1;rw[decide_eq_true d2]at n2
  have r6:pJ Mf [some (.ref t),some (.ref u),some (.ref k),some (.int m),some (.ref ag.length),some (.ref aV.length)] eX=.nx [some (.ref t),some (.ref u),some (.ref k),some (.int m),some (.ref ag.length),some (.ref aV.length)] eX:=jU (by
   simp[Mf,i1,i2,n1,n2,-el])
  have x1:=fv g5 d1;have x2:=fv g5 d2
  have hm1:bE eY bF (aa 5) (U (m2 aM (aa 0) (aa 3)) ah) [some (.ref t),some (.ref u),some (.ref k),some (.int m),some (.ref ag.length),some (.ref aV.length)] eX=.ok (.int (fs.idxOf n:Nat)) eX:=by
   rw[da (x:=.ref aV.length) (ak:=eX) (by simp) (cJ g5)]
   simp[i1,x1]
  have hm2:bE eY bF (aa 5) (U (m2 aM (aa 1) (aa 3)) ah) [some (.ref t),some (.ref u),some (.ref k),some (.int m),some (.ref ag.length),some (.ref aV.length)] eX=.ok (.int (fs.idxOf y:Nat)) eX:=by
   rw[da (x:=.ref aV.length) (ak:=eX) (by simp) (cJ g5)]
   simp[i2,x2]
  have fin:Mh [some (.ref t),some (.ref u),some (.ref k),some (.int m),some (.ref ag.length),some (.ref aV.length)] eX=.ok (.bl true) eX:=by
   unfold Mh;rw[c8,hm1,aO,hm2,aO];have:(fs.idxOf n:Int) < (fs.idxOf y:Int):=by omega
   simp[this]
  refine⟨eX,?_,KA⟩;unfold Au;rw[ai,r1,aJ,ai,r2,aJ,ai,r3,aJ,ai,r4,aJ,ai,r5,aJ,ai,r6,aJ,ai,dM,fin];rfl
theorem Dy{rs:List (List Str)}{o:List Str}(M:Mg rs o):eG o rs where
 nd:=oO M
 mem:=fun x=>⟨fun hx=>qG M x hx,fun ⟨r,hr,hx⟩=>(qU M r hr).subset hx⟩
 sub:=fun r hr i j a b ha hb hij=>by
  refine Ar (r:=r) ⟨r.take i,r.drop (i + 1),?_,?_⟩ (qU M r hr) (oO M)
  ·obtain⟨hi,rfl⟩:=List.getElem?_eq_some_iff.mp ha
   rw[← List.drop_eq_getElem_cons hi,List.take_append_drop]
  ·refine List.mem_of_getElem? (i:=j - (i + 1)) ?_
   rw[List.getElem?_drop,show i + 1 + (j - (i + 1))=j by omega]
   exact hb
theorem Av{rs:List (List Str)}{o w:List Str}(ho:eG o rs)(hw:eG w rs):w.length=o.length:=
 ((List.perm_ext_iff_of_nodup hw.nd ho.nd).mpr fun x=>by rw[hw.mem,ho.mem]).length_eq
section
variable{Ω ak:ay}{ρ:aP}{k:Nat}{js:List Nat}{rs:List (List Str)}{row:List Str}
theorem jk.Ha:∀ {js:List Nat} {rs:List (List Str)} {i j:Nat} {r:List Str},jk Ω js rs->js.Nodup->js[i]?=some j->jk (Ω.set j (.lst (r.map .str))) js (rs.set i r)
 | [],_,_,_,_,_,_,h=>by simp at h
 | j0::js,rs,i,j,r,h,hn,hi=>by
  obtain⟨row,rs',rfl,h1,h2⟩:=aK.cons_inv (R:=Ac Ω) h;have h1:Ω[j0]?=some (.lst (row.map .str)):=h1;obtain⟨n1,n2⟩:=List.nodup_cons.mp hn;cases i with
  | zero=>
   have hi:j0=j:=by simpa using hi
   subst hi;refine aK.cons (R:=Ac _) (cB h1) (jk.keep h2 (fp:=[j0]) (aq.set (by simp)) fun x hx q=>n1 ?_)
   rw[← List.mem_singleton.mp q];exact hx
  | succ i=>
   have hi:js[i]?=some j:=by simpa using hi
   have hne:j0≠j:=fun q=>n1 (q▸List.mem_of_getElem? hi)
   exact aK.cons (R:=Ac _) (er h1 hne) (jk.Ha h2 n2 hi)
theorem Aw{a:Str}{i j:Nat}{us:List Str}(h:Ω[i]?=some (.lst (us.map .str)))(h':Ω[j]?=some (.lst (us.map .str)))(hl:us.length<=900):aD .NotEq (.tup [.str a,.ref i]) (.tup [.str a,.ref j]) Ω=.ok (.bl false) Ω:=by
 have r1:d0 Ω 8 (.tup [.str a,.ref i])=some (.tup [.str a,L1 us]):=sL (by simp[cA (n:=6) h])
 have r2:d0 Ω 8 (.tup [.str a,.ref j])=some (.tup [.str a,L1 us]):=sL (by simp[cA (n:=6) h'])
 rw[fM,jR,r1,r2,gP]
 have e:dF .NotEq (.tup [.str a,L1 us]) (.tup [.str a,L1 us])=.ok false:=by
  have o1:aH 8 (.tup [.str a,L1 us])=true:=by simp[oN 6]
  rw[qF,o1,ow 8 _ o1];rfl
 rw[e];rfl
end
def Ax(F:List D->Out Rs):SM:=(dh (m2 (aD .Eq) (mN (aU F) (U (aa 3) (U (ae (.int 0)) (U (ae (.int 3)) ah)))) (ae (.int 2)))
 (ao (ft (bE eY ej (m2 aM (aa 2) (mN (aU F) (U (aa 3) (U (ae (.int 1)) (U (mN (aZ .len) (U (aa 2) ah)) ah))))) ah))
 aj)
 aj)
def Dz(C:List D->Out Rs)(SH NM:bg):EM:=(mN (aL SH) (U (mN (aU C) (U (aa 0) (U (ae (.int 16)) ah))) (U (ae (.int 0)) (U (mN (aL NM) (U (mN (aU C) (U (aa 0) (U (ae (.int 17)) ah))) (U (mN (aZ .len) (U (aa 1) ah)) ah))) ah))))
def uE(PU:bg):EM:=(bq (mN (aL PU) (U (aa 1) (U (aa 2) (U (aa 0) ah)))) true (ae .non) (bf (aa 2)) 0 [1,4])
def DA(PU:bg):EM:=(m2 (aD .NotEq) (aa 7) (mN ky (U (ae (.str "order")) (U (mN (aL PU) (U (aa 1) (U (aa 4) (U (aa 6) ah)))) ah))))
def Ay(IO DP:bg):EM:=(eI (mN (aL IO) (U (aa 8) (U (aa 2) ah))) (iD (mN (aL DP) (U (aa 6) (U (aa 8) (U (aa 2) ah))))))
def DB(DP EX:bg):EM:=(mN (aL DP) (U (aa 6) (U (mN (aL EX) (U (aa 3) (U (aa 6) (U (aa 2) ah)))) (U (aa 2) ah))))
def xR:EM:=(m2 (aD .Eq) (m2 aM (aa 7) (ae (.int 0))) (ae (.str "ring")))
def Az(PU IO DP EX:bg):SM:=(ao (dh (m2 (aD .Eq) (aa 5) (ae (.str "ring")))
 (ao (aW xR)
 aj)
 aj)
 (ao (pJ (DA PU))
 (ao (ax 8 (bq (aa 0) false (m2 (aD .In) (aa 0) (aa 1)) (bf (aa 1)) 0 [6]))
 (ao (pJ (Ay IO DP))
 (ao (aW (DB DP EX))
 aj)))))
def AA(F C:List D->Out Rs)(OR RS SH NM TD PU IO DP EX:bg):SM:=
 (ao (ax 1 (mN (aL OR) (U (aa 0) ah)))
 (ao (ax 2 (mN (aL RS) (U (aa 0) (U (aa 1) (U (ae (.int 12)) ah)))))
 (ao (ax 3 (mN (aU C) (U (aa 0) (U (ae (.int 15)) ah))))
 (ao (Ax F)
 (ao (ax 4 (Dz C SH NM))
 (ao (ud [5,6] (mN (aL TD) (U (kY 2) ah)))
 (ao (ax 7 (mN (aL TD) (U (uE PU) ah)))
 (Az PU IO DP EX))))))))
section
variable{Ω ak:ay}{k:Nat}{js:List Nat}{rs:List (List Str)}{μ:Int->Int->Int->Int}{F:List D->Out Rs}
theorem AB(hμ:dC μ F){a0 a1 a4 a5 a6 a7 a8:Option D}{c:Int}{xs:List Str}(R:Rw Ω k js rs)(hj:js.Nodup)(hk:k∉js)(h1:1<=rs.length)(h12:rs.length<=12)(hs:∀ r∈rs,r.Sublist xs)(hx:xs.Nodup) :
  ∃ (rs':List (List Str)) (ak:ay),Ax F [a0,a1,some (.ref k),some (.int c),a4,a5,a6,a7,a8] Ω=.nx [a0,a1,some (.ref k),some (.int c),a4,a5,a6,a7,a8] ak/\Rw ak k js rs'/\rs'.length=rs.length/\(∀ r∈rs',r.Nodup/\r.length<=xs.length/\∀ x∈r,x∈xs)/\aq js Ω ak:=by
 have plain:∀ r∈rs,r.Nodup/\r.length<=xs.length/\∀ x∈r,x∈xs:=fun r hr=>⟨hx.sublist (hs r hr),(hs r hr).length_le,fun x h=>(hs r hr).subset h⟩
 have hL:=R.len;have hlen:=dO R.ce;rw[List.length_map,← hL]at hlen;obtain⟨m0,m1',hm⟩:=hμ c 0 3 (by omega) (by omega) (by omega)
 obtain⟨n0,n1,hN⟩:=hμ c 1 (rs.length:Int) (by omega) (by omega) (by omega)
 by_cases h2:μ c 0 3=2
 ·have ec:m2 (aD .Eq) (mN (aU F) (U (aa 3) (U (ae (.int 0)) (U (ae (.int 3)) ah)))) (ae (.int 2)) [a0,a1,some (.ref k),some (.int c),a4,a5,a6,a7,a8] Ω=.ok (.bl true) Ω:=by simp[hm,h2]
  have ei:mN (aU F) (U (aa 3) (U (ae (.int 1)) (U (mN (aZ .len) (U (aa 2) ah)) ah))) [a0,a1,some (.ref k),some (.int c),a4,a5,a6,a7,a8] Ω=.ok (.int (μ c 1 (rs.length:Int))) Ω:=by simp[hlen,hN]
  generalize μ c 1 (rs.length:Int)=A at *;obtain⟨A,rfl⟩:=Int.eq_ofNat_of_zero_le n0;have hA:A < rs.length:=by omega
  have hr0:rs[A]?=some rs[A]:=List.getElem?_eq_getElem hA;obtain⟨j,Mj,Oh⟩:=R.al.at hr0;have hg:aM (.ref k) (.int (A:Int)) Ω=.ok (.ref j) Ω:=bH R.ce (L2.bK (by rw[List.getElem?_map,Mj];rfl))
  have eo:m2 aM (aa 2) (mN (aU F) (U (aa 3) (U (ae (.int 1)) (U (mN (aZ .len) (U (aa 2) ah)) ah)))) [a0,a1,some (.ref k),some (.int c),a4,a5,a6,a7,a8] Ω=.ok (.ref j) Ω:=by
   rw[c8,show aa 2 [a0,a1,some (.ref k),some (.int c),a4,a5,a6,a7,a8] Ω=.ok (.ref k) Ω from rfl,aO,ei,aO,hg]
  have hrv:=pw Oh;rw[← List.map_reverse]at hrv;have hmem:rs[A]∈rs:=List.getElem_mem hA;have Oi:j∈js:=List.mem_of_getElem? Mj;have hkj:k≠j:=fun q=>hk (q▸Oi)
  refine⟨rs.set A rs[A].reverse,Ω.set j (.lst (rs[A].reverse.map .str)),?_,⟨er R.ce hkj,R.al.Ha hj Mj⟩,by simp,fun r hr => ?_,aq.set Oi⟩
  ·unfold Ax
   rw[cS,ec]
   show ao _ aj _ Ω=_
   rw[ai,fN,da eo (cJ Oh)];simp[hrv]
  ·rcases List.mem_or_eq_of_mem_set hr with h | h
   ·exact plain r h
   ·obtain⟨p1,p2,p3⟩:=plain _ hmem
    rw[h];exact⟨List.pairwise_reverse.mpr (p1.imp Ne.symm),by simpa using p2,fun x hx'=>p3 x (by simpa using hx')⟩
 ·have ec:m2 (aD .Eq) (mN (aU F) (U (aa 3) (U (ae (.int 0)) (U (ae (.int 3)) ah)))) (ae (.int 2)) [a0,a1,some (.ref k),some (.int c),a4,a5,a6,a7,a8] Ω=.ok (.bl false) Ω:=by
   have:(μ c 0 3 == 2)=false:=by simpa using h2
   simp[hm,this]
  refine⟨rs,Ω,?_,R,rfl,plain,aq.refl⟩;unfold Ax;rw[cS,ec];rfl
end
def Hc(O:bg):Prop:=∀ (Ω:ay) ns,∃ (xs:List Str) (q:Nat) (ak:ay),(xs.Nodup/\∀ x∈xs,x≠"")/\2<=xs.length/\xs.length<=24/\O [SC ns] Ω=.ok (.ref q) ak/\ak[q]?=some (.lst (xs.map .str))/\aq [] Ω ak
theorem s_(f:Str->Str)(rs:List (List Str)):tot (rs.map (List.map f))=tot rs:=by
 unfold tot;rw[List.map_map]
 congr 1
 refine List.map_congr_left fun r _ => ?_
 simp
theorem xS{μ:Int->Int->Int->Int}{κ:List Int->Nat->Int}{F C:List D->Out Rs}{OR RS SH NM TD PU IO DP EX:bg}(hμ:dC μ F)(pz:mV κ C)(hO:Hc OR)(hR:Bh RS)(hS:Aj SH)(hN:GB NM)(hT:GX TD)(hP:G3 PU)(hI:G2 IO)(hD:G9 DP)(hE:G7 EX)(ns:List Int) :
  ∃ Ω,fV (AA F C OR RS SH NM TD PU IO DP EX [some (SC ns),none,none,none,none,none,none,none,none] [])=.ok (.bl true) Ω:=by
 obtain⟨xs,q0,JG,⟨xn,Qz⟩,x2,x24,e1,g0,K0⟩:=hO [] ns;obtain⟨Bi,k,js,ag,⟨hs0,h1,hjn,hjl,hkj,hkl⟩,hl0,e2,R0,K1⟩:=hR JG ns q0 xs 12 (by omega) (by omega) x24 g0
 have QA:C [SC ns,.int 15]=.ok (false,.int (κ ns 15)):=pz ns 15;have QB:C [SC ns,.int 16]=.ok (false,.int (κ ns 16)):=pz ns 16;have QC:C [SC ns,.int 17]=.ok (false,.int (κ ns 17)):=pz ns 17;have r1:(ax 1 (mN (aL OR) (U (aa 0) ah))) [some (SC ns),none,none,none,none,none,none,none,none] []=.nx [some (SC ns),some (.ref q0),none,none,none,none,none,none,none] JG:=by simp[e1]
 have r2:(ax 2 (mN (aL RS) (U (aa 0) (U (aa 1) (U (ae (.int 12)) ah))))) [some (SC ns),some (.ref q0),none,none,none,none,none,none,none] JG=.nx [some (SC ns),some (.ref q0),some (.ref k),none,none,none,none,none,none] ag:=by
  have e2:RS [SC ns,.ref q0,.int 12] JG=.ok (.ref k) ag:=e2;simp[e2]
 have r3:(ax 3 (mN (aU C) (U (aa 0) (U (ae (.int 15)) ah)))) [some (SC ns),some (.ref q0),some (.ref k),none,none,none,none,none,none] ag=.nx [some (SC ns),some (.ref q0),some (.ref k),some (.int (κ ns 15)),none,none,none,none,none] ag:=by simp[QA]
 obtain⟨rs,aw,r4,R2,hl2,hpl,K2⟩:=AB (F:=F) (a0:=some (SC ns)) (a1:=some (.ref q0)) (a4:=none) (a5:=none) (a6:=none) (a7:=none) (a8:=none) (c:=κ ns 15) hμ R0 hjn hkj h1 hl0 hs0 xn;have hl:rs.length<=12:=by omega
 have hw:∀ r∈rs,r.length<=24:=fun r h=>Nat.le_trans (hpl r h).2.1 x24
 have hnd:∀ r∈rs,r.Nodup:=fun r h=>(hpl r h).1
 have hmx:∀ r∈rs,∀ x∈r,x∈xs:=fun r h=>(hpl r h).2.2
 have ht:tot rs<=900:=by
  have:=pK rs hw;rw[xM]at this;omega
 have Ss:=eF g0
 have g2:aw[q0]?=some (.lst (xs.map .str)):=K2.get _ _ (K1.get _ _ g0 (by simp)) fun h=>by
  have:=hjl q0 h;omega
 have hlen:=dO g2;rw[List.length_map]at hlen;obtain⟨zs,qz,aV,zn,zl,ez,gz,K3⟩:=hN aw (κ ns 17) xs.length x2 x24;obtain⟨ys,q4,eX,yp,ey,gy,K4⟩:=hS aV (κ ns 16) 0 qz zs (by omega) (by omega) (by omega) gz
 have yn:ys.Nodup:=yp.nodup_iff.mpr zn;have yl:xs.length=ys.length:=by rw[yp.length_eq,zl]
 have r5:(ax 4 (Dz C SH NM)) [some (SC ns),some (.ref q0),some (.ref k),some (.int (κ ns 15)),none,none,none,none,none] aw=.nx [some (SC ns),some (.ref q0),some (.ref k),some (.int (κ ns 15)),some (.ref q4),none,none,none,none] eX:=by
  simp[Dz,QB,QC,hlen,ez,ey]
 have Oj:=K3.trans K4;have R4:=R2.keep Oj;have g4:=Oj.get _ _ g2 (by simp)
 obtain⟨jc,kc,CZ,e5,K5,R5,_,_,_⟩:=nP (ρ:=[some (SC ns),some (.ref q0),some (.ref k),some (.int (κ ns 15)),some (.ref q4),none,none,none,none]) (i:=2) rfl R4 (by omega)
 obtain⟨tO,tR⟩:=hT CZ kc jc rs R5 (by omega) ht
 have put:∀ (jF:ay) (v d:D),aq [] eX jF->∃ (kp:Nat) (jp:List Nat) (AD:ay),uE PU [some (SC ns),some (.ref q0),some (.ref k),some (.int (κ ns 15)),some (.ref q4),some v,some d,none,none] jF=.ok (.ref kp) AD/\Rw AD kp jp (rs.map (List.map (eT xs ys)))/\aq [] jF AD:=by
  intro jF v d K;have R6:=R4.keep K
  have gH:bf (aa 2) [some (SC ns),some (.ref q0),some (.ref k),some (.int (κ ns 15)),some (.ref q4),some v,some d,none,none] jF=.ok (.seq (.ref k)) jF:=by
   rw[cw];exact bc (by rw[aN,az R6.ce])
  obtain⟨jp,AD,e7,K7,h7,_⟩:=iN (ρ:=[some (SC ns),some (.ref q0),some (.ref k),some (.int (κ ns 15)),some (.ref q4),some v,some d,none,none]) (me:=mN (aL PU) (U (aa 1) (U (aa 2) (U (aa 0) ah)))) (mc:=ae .non) (cap:=[1,4]) (f:=List.map (eT xs ys)) (P:=fun _=>True) gH R6 (by omega) (fun j row fx K8 hj hrow h=>by
   have ep:=hP fx q0 q4 j xs ys row (K8.get _ _ (K.get _ _ g4 (by simp)) (by simp)) (K8.get _ _ (K.get _ _ gy (by simp)) (by simp)) h yl (hmx row hrow) (by have:=hw row hrow;omega)
   refine⟨fx.length,fx++[.lst ((row.map (eT xs ys)).map .str)],?_,aq.app,aF,trivial⟩;simp[dc,ep])
  exact⟨AD.length,jp,_,e7,⟨aF,h7.keep (fp:=[]) aq.app (by simp)⟩,K7.trans aq.app⟩
 have hin:iO (eT xs ys) rs:=fun a b ha hb q=>by
  obtain⟨r,h1,h2⟩:=ha;obtain⟨r',h3,h4⟩:=hb;exact xP yn yl (hmx r h1 a h2) (hmx r' h3 b h4) q
 have pre:∀ (v d u:D) (jF fx:ay) (r:gE),TD [.ref kc] CZ=.ok (.tup [v,d]) jF->(mN (aL TD) (U (uE PU) ah)) [some (SC ns),some (.ref q0),some (.ref k),some (.int (κ ns 15)),some (.ref q4),some v,some d,none,none] jF=.ok u fx->Az PU IO DP EX [some (SC ns),some (.ref q0),some (.ref k),some (.int (κ ns 15)),some (.ref q4),some v,some d,some u,none] fx=r->AA F C OR RS SH NM TD PU IO DP EX [some (SC ns),none,none,none,none,none,none,none,none] []=r:=by
  intro v d u jF fx r h6 h7 h8
  have e6:(mN (aL TD) (U (kY 2) ah)) [some (SC ns),some (.ref q0),some (.ref k),some (.int (κ ns 15)),some (.ref q4),none,none,none,none] eX=.ok (.tup [v,d]) jF:=by
   simp[e5,h6]
  have r6:(ud [5,6] (mN (aL TD) (U (kY 2) ah))) [some (SC ns),some (.ref q0),some (.ref k),some (.int (κ ns 15)),some (.ref q4),none,none,none,none] eX=.nx [some (SC ns),some (.ref q0),some (.ref k),some (.int (κ ns 15)),some (.ref q4),some v,some d,none,none] jF:=by
   rw[zZ,e6];rfl
  have r7:(ax 7 (mN (aL TD) (U (uE PU) ah))) [some (SC ns),some (.ref q0),some (.ref k),some (.int (κ ns 15)),some (.ref q4),some v,some d,none,none] jF=.nx [some (SC ns),some (.ref q0),some (.ref k),some (.int (κ ns 15)),some (.ref q4),some v,some d,some u,none] fx:=by
   rw[cu,h7];rfl
  unfold AA;rw[ai,r1,aJ,ai,r2,aJ,ai,r3,aJ,ai,r4,aJ,ai,r5,aJ,ai,r6,aJ,ai,r7,aJ];exact h8
 rcases xE (tot rs + 1) rs (by omega) with ⟨o,M,ho⟩ | S
 ·have oo:=Dy M
  have hox:∀ x∈o,x∈xs:=fun x hx=>by
   obtain⟨r,h1,h2⟩:=qG M x hx;exact hmx r h1 x h2
  have hol:o.length<=24:=Nat.le_trans (iP o xs oo.nd hox) x24;have hone:∀ x∈o,x≠"":=fun x hx=>Qz x (hox x hx)
  obtain⟨q,jF,e6,g6,K6⟩:=tO o M (by omega)
  have JH:=K5.trans K6;obtain⟨kp,jp,AD,e7,R7,K7⟩:=put jF (.str "order") (.ref q) JH;obtain⟨QD,_⟩:=hT AD kp jp _ R7 (by simp;omega) (by rw[s_];exact ht)
  obtain⟨qa,fx,e8,g8,K8⟩:=QD (o.map (eT xs ys)) (M.map hin) (by simp;omega)
  have Ol:=K7.trans K8;have Ml:=JH.trans Ol
  have Mm:(mN (aL TD) (U (uE PU) ah)) [some (SC ns),some (.ref q0),some (.ref k),some (.int (κ ns 15)),some (.ref q4),some (.str "order"),some (.ref q),none,none] jF=.ok (.tup [.str "order",.ref qa]) fx:=by
   simp[e7,e8]
  have Om:=Ol.get _ _ g6 (by simp)
  have Oo:=Ml.get _ _ g4 (by simp)
  have QE:=Ml.get _ _ gy (by simp)
  have R8:=R4.keep Ml;have c0:(dh (m2 (aD .Eq) (aa 5) (ae (.str "ring"))) (ao (aW xR) aj) aj) [some (SC ns),some (.ref q0),some (.ref k),some (.int (κ ns 15)),some (.ref q4),some (.str "order"),some (.ref q),some (.tup [.str "order",.ref qa]),none] fx=.nx [some (SC ns),some (.ref q0),some (.ref k),some (.int (κ ns 15)),some (.ref q4),some (.str "order"),some (.ref q),some (.tup [.str "order",.ref qa]),none] fx:=rfl;have ep:=hP fx q0 q4 q xs ys o Oo QE Om yl hox (by omega)
  have K9:aq [] fx (fx++[.lst ((o.map (eT xs ys)).map .str)]):=aq.app;have g9:(fx++[Cell.lst ((o.map (eT xs ys)).map .str)])[fx.length]?=some (.lst ((o.map (eT xs ys)).map .str)):=aF;have QF:=K9.get _ _ g8 (by simp)
  generalize QG:fx++[Cell.lst ((o.map (eT xs ys)).map .str)]=uD at *;have hne:=Aw (a:="order") QF g9 (by simp;omega)
  have c1:pJ (DA PU) [some (SC ns),some (.ref q0),some (.ref k),some (.int (κ ns 15)),some (.ref q4),some (.str "order"),some (.ref q),some (.tup [.str "order",.ref qa]),none] fx=.nx [some (SC ns),some (.ref q0),some (.ref k),some (.int (κ ns 15)),some (.ref q4),some (.str "order"),some (.ref q),some (.tup [.str "order",.ref qa]),none] uD:=jU (by
   have et:(mN ky (U (ae (.str "order")) (U (mN (aL PU) (U (aa 1) (U (aa 4) (U (aa 6) ah)))) ah))) [some (SC ns),some (.ref q0),some (.ref k),some (.int (κ ns 15)),some (.ref q4),some (.str "order"),some (.ref q),some (.tup [.str "order",.ref qa]),none] fx=.ok (.tup [.str "order",.ref fx.length]) uD:=by
    simp[ep,ba]
   unfold DA;rw[c8,show aa 7 [some (SC ns),some (.ref q0),some (.ref k),some (.int (κ ns 15)),some (.ref q4),some (.str "order"),some (.ref q),some (.tup [.str "order",.ref qa]),none] fx=.ok (.tup [.str "order",.ref qa]) fx from rfl,aO,et,aO]
   exact hne)
  have f9:=K9.get _ _ Om (by simp)
  have o9:=K9.get _ _ Oo (by simp)
  have R9:=R8.keep K9;have ef:=Dm (ρ:=[some (SC ns),some (.ref q0),some (.ref k),some (.int (κ ns 15)),some (.ref q4),some (.str "order"),some (.ref q),some (.tup [.str "order",.ref qa]),none]) (i:=1) (di:=6) rfl rfl o9 f9 (by omega)
  have hwl:(xs.filter fun n=>decide (n∈o)).length<=24:=Nat.le_trans (List.length_filter_le _ _) x24
  generalize (xs.filter fun n=>decide (n∈o))=w at *
  have KA:aq [] uD (uD++[.lst (w.map .str)]):=aq.app;have gw:(uD++[Cell.lst (w.map .str)])[uD.length]?=some (.lst (w.map .str)):=aF;have c2:(ax 8 (bq (aa 0) false (m2 (aD .In) (aa 0) (aa 1)) (bf (aa 1)) 0 [6])) [some (SC ns),some (.ref q0),some (.ref k),some (.int (κ ns 15)),some (.ref q4),some (.str "order"),some (.ref q),some (.tup [.str "order",.ref qa]),none] uD=.nx [some (SC ns),some (.ref q0),some (.ref k),some (.int (κ ns 15)),some (.ref q4),some (.str "order"),some (.ref q),some (.tup [.str "order",.ref qa]),some (.ref uD.length)] (uD++[.lst (w.map .str)]):=by rw[cu,ef];rfl
  generalize Su:uD.length=qw at *;generalize uD++[Cell.lst (w.map .str)]=JI at *;have RA:=R9.keep KA;have fA:=KA.get _ _ f9 (by simp)
  obtain⟨b,JJ,eB,KB,hb⟩:=hI JI qw k js rs w xs RA gw hl hw hnd (by omega) x24 hmx
  have c3:∃ Bk,pJ (Ay IO DP) [some (SC ns),some (.ref q0),some (.ref k),some (.int (κ ns 15)),some (.ref q4),some (.str "order"),some (.ref q),some (.tup [.str "order",.ref qa]),some (.ref qw)] JI=.nx [some (SC ns),some (.ref q0),some (.ref k),some (.int (κ ns 15)),some (.ref q4),some (.str "order"),some (.ref q),some (.tup [.str "order",.ref qa]),some (.ref qw)] Bk/\aq [] JI Bk:=by
   have ei:mN (aL IO) (U (aa 8) (U (aa 2) ah)) [some (SC ns),some (.ref q0),some (.ref k),some (.int (κ ns 15)),some (.ref q4),some (.str "order"),some (.ref q),some (.tup [.str "order",.ref qa]),some (.ref qw)] JI=.ok (.bl b) JJ:=by simp[eB]
   cases b with
   | false=>
    refine⟨JJ,jU ?_,KB⟩;unfold Ay;rw[gN,ei,aO,c9,sI]
   | true=>
    have hw':=hb rfl;obtain⟨Bk,eC,KC⟩:=hD JJ q qw k js rs o w (RA.keep KB) (KB.get _ _ fA (by simp)) (KB.get _ _ gw (by simp)) M hw' hnd hl hw hol (Av oo hw') hone
    refine⟨Bk,jU ?_,KB.trans KC⟩;have ed:(iD (mN (aL DP) (U (aa 6) (U (aa 8) (U (aa 2) ah))))) [some (SC ns),some (.ref q0),some (.ref k),some (.int (κ ns 15)),some (.ref q4),some (.str "order"),some (.ref q),some (.tup [.str "order",.ref qa]),some (.ref qw)] JJ=.ok (.bl false) Bk:=by simp[eC]
    unfold Ay;rw[gN,ei,aO,c9,w6,ed]
  obtain⟨Bk,c3,KC⟩:=c3;have RC:=RA.keep KC;have fC:=KC.get _ _ fA (by simp)
  obtain⟨w',qe,QH,eD,gD,QI,QJ,KD⟩:=hE Bk (κ ns 15) q k js rs o xs RC fC hl hw hnd x24 hmx hol oo;obtain⟨Mn,eE,KE⟩:=hD QH q qe k js rs o w' (RC.keep KD) (KD.get _ _ fC (by simp)) gD M QJ hnd hl hw hol QI hone
  have fin:DB DP EX [some (SC ns),some (.ref q0),some (.ref k),some (.int (κ ns 15)),some (.ref q4),some (.str "order"),some (.ref q),some (.tup [.str "order",.ref qa]),some (.ref qw)] Bk=.ok (.bl true) Mn:=by
   simp[DB,eD,eE]
  refine⟨Mn,?_⟩;rw[pre _ _ _ jF fx (.rt (.bl true) Mn) e6 Mm ?_]
  ·rfl
  ·unfold Az
   rw[ai,c0,aJ,ai,c1,aJ,ai,c2,aJ,ai,c3,aJ,ai,dM,fin];rfl
 ·obtain⟨ss,p,jF,e6,g6,rg,K6⟩:=tR S
  have JH:=K5.trans K6;obtain⟨kp,jp,AD,e7,R7,K7⟩:=put jF (.str "ring") (.ref p) JH;obtain⟨_,QK⟩:=hT AD kp jp _ R7 (by simp;omega) (by rw[s_];exact ht)
  obtain⟨Sv,p2,fx,e8,g8,_,K8⟩:=QK (S.map hin)
  have Mm:(mN (aL TD) (U (uE PU) ah)) [some (SC ns),some (.ref q0),some (.ref k),some (.int (κ ns 15)),some (.ref q4),some (.str "ring"),some (.ref p),none,none] jF=.ok (.tup [.str "ring",.ref p2]) fx:=by
   simp[e7,e8]
  have fin:xR [some (SC ns),some (.ref q0),some (.ref k),some (.int (κ ns 15)),some (.ref q4),some (.str "ring"),some (.ref p),some (.tup [.str "ring",.ref p2]),none] fx=.ok (.bl true) fx:=by
   have hi:aM (.tup [.str "ring",.ref p2]) (.int 0) fx=.ok (.str "ring") fx:=w_ (L2.bK (j:=0) rfl);unfold xR;rw[c8,c8,show aa 7 [some (SC ns),some (.ref q0),some (.ref k),some (.int (κ ns 15)),some (.ref q4),some (.str "ring"),some (.ref p),some (.tup [.str "ring",.ref p2]),none] fx=.ok (.tup [.str "ring",.ref p2]) fx from rfl,aO,jM,aO,hi,aO,jM,aO]
   rfl
  refine⟨fx,?_⟩;rw[pre _ _ _ jF fx (.rt (.bl true) fx) e6 Mm ?_]
  ·rfl
  ·have c0:(dh (m2 (aD .Eq) (aa 5) (ae (.str "ring"))) (ao (aW xR) aj) aj) [some (SC ns),some (.ref q0),some (.ref k),some (.int (κ ns 15)),some (.ref q4),some (.str "ring"),some (.ref p),some (.tup [.str "ring",.ref p2]),none] fx=.rt (.bl true) fx:=by
    have ec:m2 (aD .Eq) (aa 5) (ae (.str "ring")) [some (SC ns),some (.ref q0),some (.ref k),some (.int (κ ns 15)),some (.ref q4),some (.str "ring"),some (.ref p),some (.tup [.str "ring",.ref p2]),none] fx=.ok (.bl true) fx:=rfl;rw[cS,ec];simp only[jO,c9,jN,eQ,if_true];rw[ai,dM,fin];rfl
   unfold Az;rw[ai,c0];rfl
end Mir
namespace DC
open PySem PySem.Spec PyProof.Rows L2 Mir
noncomputable def top(i:Nat):Stmt:=PySem.Challenge.pw_taglook_k18_other_names_other_orders.main.body.getD i (.Pass ⟨0,0,0,0⟩)
instance clos:aA:=⟨fun _=>⟨"","",b8 (top 0),[],af (top 0),[],[]⟩,fun _=>0⟩
noncomputable def td:List Str:=[]
def JK:aX:=(({}:aX).zS "DEEPEST" (.int 8))
noncomputable def Oq:List Str:=["_law_script","_law_k"]
noncomputable def Ot:List Str:=["_law_script","_law_k"]
def Ou:SM:=
 (ao (dh (m2 (aD .Lt) (aa 1) (mN (aZ .len) (U (aa 0) ah)))
 (ao (aW (m2 aM (aa 0) (aa 1)))
 aj)
 aj)
 (ao (aW (ae (.int 0)))
 aj))
def QL:bg:=bB 2 2 Ou
def F0:List Mir.D->Out Rs:=pureOf QL
def Mo:aX:=JK.uj "_law_cell" F0
theorem QM:bW Oq Ot (af (top 11))=true:=by decide +kernel
theorem QN:de JK td (top 11) Oq=some Ou:=rfl
noncomputable def Ov:List Str:=["_law_cell_here","_law_turn","_law_many","_law_rest","_law_k","_law_turns","_law_one","_law_two"]
noncomputable def Ow:List Str:=["_law_cell_here","_law_turn","_law_many"]
def Ox:SM:=
 (ao (ax 3 (m2 (aI .FloorDiv) (aa 0) (ae (.int 2))))
 (ao (dh (eI (m2 (aD .Eq) (m2 (aI .Mod) (aa 0) (ae (.int 2))) (ae (.int 1))) (m2 (aD .Gt) (aa 0) (m2 (aI .Pow) (ae (.int 10)) (ae (.int 18)))))
 (ao (cF (bA 4) (bG (U (aa 1) ah))
 (ao (ax 3 (m2 (aI .FloorDiv) (aa 3) (ae (.int 840))))
 aj))
 (ao (aW (m2 (aI .Mod) (m2 (aI .Mod) (aa 3) (ae (.int 840))) (aa 2)))
 aj))
 aj)
 (ao (ax 5 (mN cQ (U (ae (.int 48271)) (U (ae (.int 69621)) (U (ae (.int 40692)) (U (ae (.int 39373)) (U (ae (.int 16807)) (U (ae (.int 30323)) (U (ae (.int 21403)) (U (ae (.int 62089)) (U (ae (.int 45742)) (U (ae (.int 37907)) (U (ae (.int 53611)) (U (ae (.int 28411)) (U (ae (.int 59393)) (U (ae (.int 33391)) ah))))))))))))))))
 (ao (ax 6 (m2 (aI .Mod) (m2 (aI .Mult) (m2 (aI .Add) (m2 (aI .Mod) (aa 0) (ae (.int 1000000007))) (ae (.int 11))) (m2 aM (aa 5) (m2 (aI .Mod) (aa 1) (ae (.int 14))))) (ae (.int 2147483629))))
 (ao (ax 7 (m2 (aI .Mod) (m2 (aI .Mult) (aa 6) (m2 (aI .Add) (aa 6) (aa 1))) (ae (.int 1999999973))))
 (ao (aW (m2 (aI .Mod) (m2 (aI .FloorDiv) (m2 (aI .Mod) (m2 (aI .Mult) (aa 7) (ae (.int 16807))) (ae (.int 998244353))) (ae (.int 1000))) (aa 2)))
 aj))))))
def QO:bg:=bB 8 3 Ox
def F1:List Mir.D->Out Rs:=pureOf QO
def Oy:aX:=Mo.uj "_law_mix" F1
theorem QP:bW Ov Ow (af (top 12))=true:=by decide +kernel
theorem QQ:de Mo td (top 12) Ov=some Ox:=rfl
def U0:aX:=Oy
noncomputable def Oz:List Str:=["thing","depth"]
noncomputable def AE:List Str:=["thing","depth"]
def QR:bg:=bB 2 2 (gZ fun _ _=>.bad)
def QS:bg:=bB 2 2 (gZ QR)
def O0:bg:=bB 2 2 (gZ QS)
def U1:aX:=U0
theorem Mp:bW Oz AE (af (top 2))=true:=by decide +kernel
theorem Mq(O:bg):de (JK.cH "own_copy" O) td (top 2) Oz=some (gZ O):=rfl
noncomputable def OA:List Str:=["left","name","place","row"]
noncomputable def OB:List Str:=["left","name"]
def d1:SM:=
 (ao (cF (ji [2,3]) (ub (aa 0))
 (ao (dh (m2 (aD .In) (aa 1) (cf (aa 3) false (ae (.int 1)) true (ae .non)))
 (ao (aW (aa 2))
 aj)
 aj)
 aj))
 (ao (aW (ae .non))
 aj))
def O1:bg:=bB 4 2 d1
def U2:aX:=U1.cH "place_behind" O1
theorem QT:bW OA OB (af (top 8))=true:=by decide +kernel
theorem QU:de U1 td (top 8) OA=some d1:=rfl
noncomputable def OD:List Str:=["left","row"]
noncomputable def OE:List Str:=["left"]
def d2:SM:=
 (ao (cF (bA 1) (bf (aa 0))
 (ao (dh (eI (aa 1) (m2 (aD .Is) (mN (aL O1) (U (aa 0) (U (m2 aM (aa 1) (ae (.int 0))) ah))) (ae .non)))
 (ao (aW (m2 aM (aa 1) (ae (.int 0))))
 aj)
 aj)
 aj))
 (ao (aW (ae .non))
 aj))
def O2:bg:=bB 2 1 d2
def U3:aX:=U2.cH "free_name" O2
theorem QV:bW OD OE (af (top 7))=true:=by decide +kernel
theorem QW:de U2 td (top 7) OD=some d2:=rfl
noncomputable def Mr:List Str:=["left","heads","name","met","steps","place"]
noncomputable def OF:List Str:=["left"]
def O3:bg:=bB 6 1 (Ao O1)
def U4:aX:=U3.cH "ring_among" O3
theorem QX:bW Mr OF (af (top 9))=true:=by decide +kernel
theorem QY:cz (kU (Bd U3 (af (top 9)) Mr) U3 td 60 (af (top 9)) Mr 30) (aS (top 9))=some (Ao O1):=rfl
noncomputable def Ms:List Str:=["rows","left","order","name"]
noncomputable def Mt:List Str:=["rows"]
def T4:aX:={ U4 with xt:=true }
def O4:bg:=bB 4 1 (uv (qZ O0 O3) O2)
def U5:aX:=U4
theorem QZ:bW Ms Mt (af (top 6))=true:=by decide +kernel
theorem Q0:cz (kU (sU T4 (af (top 6)) Ms "Ring" "steps" (En O0)) T4 td 60 (af (top 6)) Ms 30) (aS (top 6))=some (uv (qZ O0 O3) O2):=rfl
noncomputable def OG:List Str:=["_law_cell_here","_law_many","_law_letters","_law_k","_law_base","_law_size","_law_at","_law_names_here","_law_name","_law_j","_law_turn"]
noncomputable def OH:List Str:=["_law_cell_here","_law_many"]
def d5:SM:=
 (ao (ax 2 (ae (.str "abcdefghijklmnopqrstuvwxyz")))
 (ao (ax 4 (bq (mN (aU F1) (U (aa 1) (U (aa 0) (U (ae (.int 26)) ah)))) true (ae .non) (bG (U (ae (.int 8)) ah)) 0 [0]))
 (ao (ax 5 (m2 (aI .Add) (ae (.int 1)) (mN (aU F1) (U (aa 0) (U (ae (.int 8)) (U (ae (.int 8)) ah))))))
 (ao (ax 6 (mN (aU F1) (U (aa 0) (U (ae (.int 9)) (U (aa 5) ah)))))
 (ao (ax 7 (mN cQ ah))
 (ao (cF (bA 3) (bG (U (aa 1) ah))
 (ao (ax 8 (ae (.str "")))
 (ao (cF (bA 9) (bG (U (aa 5) ah))
 (ao (ax 8 (m2 (aI .Add) (aa 8) (m2 aM (aa 2) (m2 (aI .Mod) (m2 (aI .Add) (m2 aM (aa 4) (aa 9)) (m2 (aI .Mult) (aa 3) (mN (aZ .int) (U (m2 (aD .Eq) (aa 9) (aa 6)) ah)))) (ae (.int 26))))))
 aj))
 (ao (dh (eI (m2 (aD .Eq) (mN (aU F1) (U (aa 0) (U (ae (.int 10)) (U (ae (.int 4)) ah)))) (ae (.int 1))) (m2 (aD .Lt) (aa 1) (ae (.int 9))))
 (ao (ax 8 (bE wt kG (ae (.str "")) (U (bq (m2 aM (aa 1) (aa 0)) true (ae .non) (bf (cf (aa 4) true (ae .non) false (m2 (aI .Add) (aa 3) (ae (.int 1))))) 0 [2]) ah)))
 aj)
 aj)
 (ao (ft (bE eY bu (aa 7) (U (aa 8) ah)))
 aj)))))
 (ao (ax 10 (mN (aU F1) (U (aa 0) (U (ae (.int 11)) (U (aa 1) ah)))))
 (ao (aW (m2 (aI .Add) (cf (aa 7) false (aa 10) true (ae .non)) (cf (aa 7) true (ae .non) false (aa 10))))
 aj))))))))
def O5:bg:=bB 11 2 d5
def U6:aX:=U5.cH "_law_names" O5
theorem Q1:bW OG OH (af (top 13))=true:=by decide +kernel
theorem Q2:de U5 td (top 13) OG=some d5:=rfl
noncomputable def OI:List Str:=["_law_cell_here","_law_turn","_law_names_here","_law_pool","_law_found","_law_k"]
noncomputable def OJ:List Str:=["_law_cell_here","_law_turn","_law_names_here"]
def d6:SM:=
 (ao (ax 3 (mN (aZ .list) (U (aa 2) ah)))
 (ao (ax 4 (mN cQ ah))
 (ao (cF (bA 5) (bG (U (mN (aZ .len) (U (aa 2) ah)) ah))
 (ao (ft (bE eY bu (aa 4) (U (bE eY gC (aa 3) (U (mN (aU F1) (U (aa 0) (U (m2 (aI .Add) (aa 1) (aa 5)) (U (mN (aZ .len) (U (aa 3) ah)) ah)))) ah)) ah)))
 aj))
 (ao (aW (aa 4))
 aj))))
def O6:bg:=bB 6 3 d6
def U7:aX:=U6.cH "_law_shuffled" O6
theorem Q3:bW OI OJ (af (top 14))=true:=by decide +kernel
theorem Q4:de U6 td (top 14) OI=some d6:=rfl
noncomputable def OK:List Str:=["_law_cell_here","_law_order_here","_law_some"]
noncomputable def OL:List Str:=["_law_cell_here","_law_order_here"]
def d7:SM:=
 (ao (ax 2 (m2 (aI .Add) (ae (.int 1)) (mN (aU F1) (U (aa 0) (U (ae (.int 0)) (U (ae (.int 4)) ah))))))
 (ao (aW (bq (m2 aM (aa 2) (aa 0)) false (m2 (aD .Lt) (mN (aU F1) (U (aa 1) (U (m2 (aI .Add) (ae (.int 1)) (aa 0)) (U (ae (.int 4)) ah)))) (aa 3)) (bG (U (mN (aZ .len) (U (aa 1) ah)) ah)) 0 [0,1,2]))
 aj))
def O7:bg:=bB 3 2 d7
def U8:aX:=U7.cH "_law_part" O7
theorem Q5:bW OK OL (af (top 15))=true:=by decide +kernel
theorem Q6:de U7 td (top 15) OK=some d7:=rfl
noncomputable def OM:List Str:=["_law_script","_law_cell_here","_law_size"]
noncomputable def ON:List Str:=["_law_script"]
def d8:SM:=
 (ao (ax 1 (mN (aU F0) (U (aa 0) (U (ae (.int 0)) ah))))
 (ao (ax 2 (m2 (aI .Add) (ae (.int 2)) (mN (aU F1) (U (aa 1) (U (ae (.int 0)) (U (ae (.int 7)) ah))))))
 (ao (dh (m2 (aD .Eq) (mN (aU F1) (U (aa 1) (U (ae (.int 1)) (U (ae (.int 12)) ah)))) (ae (.int 5)))
 (ao (ax 2 (ae (.int 24)))
 aj)
 aj)
 (ao (aW (mN (aL O6) (U (mN (aU F0) (U (aa 0) (U (ae (.int 2)) ah))) (U (ae (.int 0)) (U (mN (aL O5) (U (mN (aU F0) (U (aa 0) (U (ae (.int 1)) ah))) (U (aa 2) ah))) ah)))))
 aj))))
def O8:bg:=bB 3 1 d8
def U9:aX:=U8.cH "_law_order" O8
theorem Q7:bW OM ON (af (top 16))=true:=by decide +kernel
theorem Q8:de U8 td (top 16) OM=some d8:=rfl
noncomputable def OO:List Str:=["_law_script","_law_order_here","_law_most","_law_cell_here","_law_many"]
noncomputable def OP:List Str:=["_law_script","_law_order_here","_law_most"]
def d9:SM:=
 (ao (ax 3 (mN (aU F0) (U (aa 0) (U (ae (.int 0)) ah))))
 (ao (ax 4 (m2 (aI .Add) (ae (.int 1)) (mN (aU F1) (U (aa 3) (U (ae (.int 2)) (U (ae (.int 6)) ah))))))
 (ao (dh (eI (m2 (aD .Eq) (mN (aU F1) (U (aa 3) (U (ae (.int 3)) (U (ae (.int 8)) ah)))) (ae (.int 3))) (m2 (aD .Lt) (mN (aZ .len) (U (aa 1) ah)) (ae (.int 9))))
 (ao (ax 4 (ae (.int 12)))
 aj)
 aj)
 (ao (aW (bq (mN (aL O7) (U (mN (aU F0) (U (aa 2) (U (m2 (aI .Add) (ae (.int 3)) (aa 0)) ah))) (U (aa 1) ah))) true (ae .non) (bG (U (mN (aZ .min) (U (aa 4) (U (aa 2) ah))) ah)) 0 [1,0]))
 aj))))
def O9:bg:=bB 5 3 d9
def Mu:aX:=U9.cH "_law_rows" O9
theorem Q9:bW OO OP (af (top 17))=true:=by decide +kernel
theorem Q_:de U9 td (top 17) OO=some d9:=rfl
noncomputable def Hd:List Str:=["_law_rows_here","_law_names_here","_law_row","_law_name"]
noncomputable def He:List Str:=["_law_rows_here"]
def OQ:SM:=
 (ao (ax 1 (mN cQ ah))
 (ao (cF (bA 2) (bf (aa 0))
 (ao (cF (bA 3) (bf (aa 2))
 (ao (dh (m2 (aD .NotIn) (aa 3) (aa 1))
 (ao (ft (bE eY bu (aa 1) (U (aa 3) ah)))
 aj)
 aj)
 aj))
 aj))
 (ao (aW (aa 1))
 aj)))
def JL:bg:=bB 4 1 OQ
def Mv:aX:=Mu.cH "_law_all" JL
theorem Mw:bW Hd He (af (top 18))=true:=by decide +kernel
theorem Mx:de Mu td (top 18) Hd=some OQ:=rfl
noncomputable def Hf:List Str:=["_law_found","_law_rows_here","_law_row","_law_places"]
noncomputable def Hg:List Str:=["_law_found","_law_rows_here"]
def OS:SM:=
 (ao (dh (wg (iD (m1 (dJ .list) (aa 0))) (iD (mN (aZ .all) (U (bq (m1 (dJ .str) (aa 0)) true (ae .non) (bf (aa 0)) 0 []) ah))))
 (ao (aW (ae (.bl false)))
 aj)
 aj)
 (ao (dh (m2 (aD .NotEq) (mN fk (U (aa 0) ah)) (mN fk (U (mN (aL JL) (U (aa 1) ah)) ah)))
 (ao (aW (ae (.bl false)))
 aj)
 aj)
 (ao (cF (bA 2) (bf (aa 1))
 (ao (ax 3 (bq (bE eY bF (aa 1) (U (aa 0) ah)) true (ae .non) (bf (aa 2)) 0 [0]))
 (ao (dh (m2 (aD .NotEq) (aa 3) (mN fk (U (aa 3) ah)))
 (ao (aW (ae (.bl false)))
 aj)
 aj)
 aj)))
 (ao (aW (ae (.bl true)))
 aj))))
def DD:bg:=bB 4 2 OS
def My:aX:=Mv.cH "_law_is_order" DD
theorem Mz:bW Hf Hg (af (top 19))=true:=by decide +kernel
theorem MA:de Mv td (top 19) Hf=some OS:=rfl
noncomputable def DE:List Str:=["_law_rows_here","_law_found","e"]
noncomputable def Hh:List Str:=["_law_rows_here"]
def JM:bg:=qS 3 1 (cbT O4) GW hdT
def MB:aX:=My.cH "_law_told" JM
theorem Hi:bW DE Hh (af (top 20))=true:=by decide +kernel
theorem MC:cz (iJ My td 60 (af (top 20)) DE 30) ((aS (top 20)).drop 1)=some GW:=rfl
noncomputable def Hj:List Str:=["_law_names_here","_law_others","_law_row"]
noncomputable def Hk:List Str:=["_law_names_here","_law_others","_law_row"]
def OT:SM:=
 (ao (aW (bq (m2 aM (aa 2) (bE eY bF (aa 1) (U (aa 0) ah))) true (ae .non) (bf (aa 2)) 0 [0,1]))
 aj)
def Hl:bg:=bB 3 3 OT
def MD:aX:=MB.cH "_law_put" Hl
theorem ME:bW Hj Hk (af (top 21))=true:=by decide +kernel
theorem MF:de MB td (top 21) Hj=some OT:=rfl
noncomputable def Hm:List Str:=["_law_cell_here","_law_told_here","_law_rows_here","_law_other","_law_k","_law_found"]
noncomputable def Hn:List Str:=["_law_cell_here","_law_told_here","_law_rows_here"]
def OU:SM:=
 (ao (ax 3 (mN (aZ .list) (U (aa 1) ah)))
 (ao (cF (bA 4) (bG (U (m2 (aI .Sub) (mN (aZ .len) (U (aa 1) ah)) (ae (.int 1))) ah))
 (ao (ax 5 (m2 (aI .Add) (m2 (aI .Add) (cf (aa 3) true (ae .non) false (aa 4)) (mN cQ (U (m2 aM (aa 3) (m2 (aI .Add) (aa 4) (ae (.int 1)))) (U (m2 aM (aa 3) (aa 4)) ah)))) (cf (aa 3) false (m2 (aI .Add) (aa 4) (ae (.int 2))) true (ae .non))))
 (ao (dh (eI (m2 (aD .Eq) (mN (aU F1) (U (aa 0) (U (m2 (aI .Add) (ae (.int 10)) (aa 4)) (U (ae (.int 2)) ah)))) (ae (.int 0))) (mN (aL DD) (U (aa 5) (U (aa 2) ah))))
 (ao (ax 3 (aa 5))
 aj)
 aj)
 aj)))
 (ao (aW (aa 3))
 aj)))
def JN:bg:=bB 6 3 OU
def MH:aX:=MD.cH "_law_exchanged" JN
theorem MI:bW Hm Hn (af (top 22))=true:=by decide +kernel
theorem MJ:de MD td (top 22) Hm=some OU:=rfl
noncomputable def Ho:List Str:=["_law_told_here","_law_other","_law_rows_here","_law_at","_law_left","_law_firsts"]
noncomputable def Hq:List Str:=["_law_told_here","_law_other","_law_rows_here"]
def OV:SM:=
 (ao (ax 3 (ae (.int 0)))
 (ao (kI (eI (m2 (aD .Lt) (aa 3) (mN (aZ .len) (U (aa 0) ah))) (m2 (aD .Eq) (m2 aM (aa 0) (aa 3)) (m2 aM (aa 1) (aa 3))))
 (ao (ax 3 (m2 (aI .Add) (aa 3) (ae (.int 1))))
 aj))
 (ao (dh (m2 (aD .Eq) (aa 3) (mN (aZ .len) (U (aa 0) ah)))
 (ao (aW (ae (.bl true)))
 aj)
 aj)
 (ao (ax 4 (bq (bq (aa 0) false (m2 (aD .NotIn) (aa 0) (cf (aa 2) true (ae .non) false (aa 1))) (bf (aa 0)) 0 [1,2]) true (ae .non) (bf (aa 2)) 0 [3,0]))
 (ao (ax 5 (bq (A4 (m2 (aD .NotEq) (aa 0) (mN cQ ah)) (m2 aM (aa 0) (ae (.int 0))) (ae (.str ""))) true (ae .non) (bf (aa 4)) 0 []))
 (ao (dh (wg (m2 (aD .NotIn) (m2 aM (aa 0) (aa 3)) (aa 5)) (m2 (aD .NotIn) (m2 aM (aa 1) (aa 3)) (aa 5)))
 (ao (aW (ae (.bl false)))
 aj)
 aj)
 (ao (aW (m2 (aD .Lt) (bE eY bF (aa 5) (U (m2 aM (aa 0) (aa 3)) ah)) (bE eY bF (aa 5) (U (m2 aM (aa 1) (aa 3)) ah))))
 aj)))))))
def Hr:bg:=bB 6 3 OV
def OW:aX:=MH.cH "_law_departs" Hr
theorem MK:bW Ho Hq (af (top 23))=true:=by decide +kernel
theorem ML:de MH td (top 23) Ho=some OV:=rfl
noncomputable def Hs:List Str:=["_law_script","_law_order_here","_law_rows_here","_law_cell_here","_law_others","_law_word","_law_found","_law_again","_law_names_here"]
noncomputable def DF:List Str:=["_law_script"]
def OX:SM:=
 (ao (ax 1 (mN (aL O8) (U (aa 0) ah)))
 (ao (ax 2 (mN (aL O9) (U (aa 0) (U (aa 1) (U (ae (.int 12)) ah)))))
 (ao (ax 3 (mN (aU F0) (U (aa 0) (U (ae (.int 15)) ah))))
 (ao (dh (m2 (aD .Eq) (mN (aU F1) (U (aa 3) (U (ae (.int 0)) (U (ae (.int 3)) ah)))) (ae (.int 2)))
 (ao (ft (bE eY ej (m2 aM (aa 2) (mN (aU F1) (U (aa 3) (U (ae (.int 1)) (U (mN (aZ .len) (U (aa 2) ah)) ah))))) ah))
 aj)
 aj)
 (ao (ax 4 (mN (aL O6) (U (mN (aU F0) (U (aa 0) (U (ae (.int 16)) ah))) (U (ae (.int 0)) (U (mN (aL O5) (U (mN (aU F0) (U (aa 0) (U (ae (.int 17)) ah))) (U (mN (aZ .len) (U (aa 1) ah)) ah))) ah)))))
 (ao (ud [5,6] (mN (aL JM) (U (bq (mN (aZ .list) (U (aa 0) ah)) true (ae .non) (bf (aa 2)) 0 []) ah)))
 (ao (ax 7 (mN (aL JM) (U (bq (mN (aL Hl) (U (aa 1) (U (aa 2) (U (aa 0) ah)))) true (ae .non) (bf (aa 2)) 0 [1,4]) ah)))
 (ao (dh (m2 (aD .Eq) (aa 5) (ae (.str "ring")))
 (ao (aW (m2 (aD .Eq) (m2 aM (aa 7) (ae (.int 0))) (ae (.str "ring"))))
 aj)
 aj)
 (ao (dh (m2 (aD .NotEq) (aa 7) (mN ky (U (ae (.str "order")) (U (mN (aL Hl) (U (aa 1) (U (aa 4) (U (aa 6) ah)))) ah))))
 (ao (aW (ae (.bl false)))
 aj)
 aj)
 (ao (ax 8 (bq (aa 0) false (m2 (aD .In) (aa 0) (aa 1)) (bf (aa 1)) 0 [6]))
 (ao (dh (eI (mN (aL DD) (U (aa 8) (U (aa 2) ah))) (iD (mN (aL Hr) (U (aa 6) (U (aa 8) (U (aa 2) ah))))))
 (ao (aW (ae (.bl false)))
 aj)
 aj)
 (ao (aW (mN (aL Hr) (U (aa 6) (U (mN (aL JN) (U (aa 3) (U (aa 6) (U (aa 2) ah)))) (U (aa 2) ah)))))
 aj))))))))))))
def Ht:bg:=bB 9 1 OX
theorem MM:bW Hs DF (af (top 24))=true:=by decide +kernel
theorem MN:de OW td (top 24) Hs=some OX:=rfl
theorem Ra:F0=pureOf (bB 2 2 nQ):=rfl
theorem Rb:F1=pureOf (bB 8 3 l9):=rfl
theorem o1:O1=bB 4 2 pA:=rfl
theorem o2:O2=bB 2 1 (Ad O1):=rfl
theorem o5:O5=bB 11 2 (Ag F1):=rfl
theorem o6:O6=bB 6 3 (C0 F1):=rfl
theorem o7:O7=bB 3 2 (C3 F1):=rfl
theorem o8:O8=bB 3 1 (Ak F1 F0 O6 O5):=rfl
theorem o9:O9=bB 5 3 (C5 F1 F0 O7):=rfl
theorem Rc:JL=bB 4 1 C7:=rfl
theorem Rf:DD=bB 4 2 (Al JL):=rfl
theorem Rg:Hl=bB 3 3 Dr:=rfl
theorem Rh:JN=bB 6 3 (Ds F1 DD):=rfl
theorem Ri:Hr=bB 6 3 Au:=rfl
theorem Rj:Ht=bB 9 1 (AA F1 F0 O8 O9 O6 O5 JM Hl DD Hr JN):=rfl
theorem Rk:Dj O4:=GU GV (GS (by rw[o1];exact GQ)) (by rw[o2,o1];exact Be)
theorem Rl:CW O4:=Gx (by rw[o2,o1];exact Be)
theorem xT(ns:List Int)(hl:ns.length<=63):∃ ak,Ht [.lst (ns.map .int)] []=.ok (.bl true) ak:=by
 obtain⟨μ,hμ⟩:=Af;rw[← Rb]at hμ;have pz:=xu;rw[← Ra]at pz;have hS:Aj O6:=by rw[o6];exact GG hμ
 have hI:G2 DD:=by rw[Rf,Rc];exact Ma GL
 rw[Rj];refine xS hμ pz ?_ ?_ hS ?_ ?_ ?_ hI ?_ ?_ ns
 ·rw[o8];exact C4 (P:=fun xs=>xs.Nodup/\∀ x∈xs,x≠"") (fun xs ys h q=>⟨h.nodup_iff.mpr q.1,fun x hx=>q.2 x (h.mem_iff.mp hx)⟩) hμ pz hS (by rw[o5];exact xB hμ)
 ·rw[o9];exact C6 hμ pz (by rw[o7];exact GI hμ)
 ·rw[o5];exact GD hμ
 ·exact GY Rl Rk
 ·rw[Rg];exact G4
 ·rw[Ri];exact G_
 ·rw[Rh];exact G8 hμ hI
noncomputable section
def stI:Stmt:=inClass (top 4) 0
def vI:Expr:=match aS stI with
 | .Assign _ v _::_=>v
 | _=>.Constant .none 0 ⟨0,0,0,0⟩
theorem Rm:bW ["self","steps"] ["self","steps"] (af stI)=true:=by decide +kernel
def Hu:List Stmt:=match aS (top 20) with
 | .Try _ [.ExceptHandler _ _ b _] _ _ _::_=>b
 | _=>[]
end
theorem Hv{K:PySem.W.Frag}{mg:Str->Option Value}{B0:Addr}(XB:XBase K mg "LookError" B0):∃ (bn:Str) (B0:Addr) (a1 a2 a3 p1 p2 p3 p4 p5 apos pos:Pos) (pl:Env->Sem Bool),XBase K mg bn B0/\(bn == ("__debug__":Str))=false/\(af stI).names.lookup bn=some .globalImplicit /\
  aS stI=[.Assign [.Attribute (.Name "self" a1) "steps" a2] vI a3,.Expr (.Call (.Attribute (.Name bn p1) "__init__" apos) [.Name "self" p2,.Attribute (.Name "self" p3) "steps" p4] [] pos) p5] /\
  (∀ env,swapsWith vI (some (.Attribute (.Name "self" a1) "steps" a2)) a3.line env=pure false)/\(apos.endLine == pos.line)=true /\
  (∀ env:Env,eval (.Call (.Attribute (.Name bn p1) "__init__" apos) [.Name "self" p2,.Attribute (.Name "self" p3) "steps" p4] [] pos) env=(do
   let ov ← eval (.Name bn p1) env
   standAt apos.atName
   let (f,first) ← holding [ov] (getMethod ov "__init__" (pl env))
   callWith pos f first (backTo pos (starEach [.Name "self" p2,.Attribute (.Name "self" p3) "steps" p4] env)) (backToKw pos (keywordEach [] env)))):=
 ⟨"LookError",B0,_,_,_,_,_,_,_,_,_,_,_,XB,rfl,rfl,rfl,fun _=>rfl,rfl,fun _=>rfl⟩
theorem MO{P:Program}{w:World}{K:PySem.W.Frag}{mg:Str->Option Value}{base:Heap}(W:bN P w K mg base U4 6){fo fI cI:Addr}{fd:FuncData}{tk:Tok}(F:bU P w K mg base dR 6 fo fd AE (cL (bh mg) O0))(hb:Binds K fd AE [.int 0 tk])(hm:mg "own_copy"=some (.ref fo))(hk:PySem.W.keepIn K (.ref fo)=true) :
    ∀ (A':Around) (ot:List Env) (s':Shared) (e:Addr) (H1:Hp) (E':XK),bP 6 (A'.deeper (envOfC "Ring.__init__" (af stI) s'.heap.objs.size fI (.ref cI)))->bj ((bZ dR P w K mg base ["self","steps"] "Ring.__init__" (af stI) fI (.ref cI) A' ot s' H1 E').i8.mk1 e) (bh mg) iY vI (En O0):=by
  intro A' ot s' e H1 E' hr
  have G:GoodO ((bZ dR P w K mg base ["self","steps"] "Ring.__init__" (af stI) fI (.ref cI) A' ot s' H1 E').i8.mk1 e) (bh mg) U4 6 (af stI) ["self","steps"]:=
    { scope:=rfl,names:=rfl,calm:=rfl,room:=hr,cR:=W.cR,fld:=W.fld,cst:=W.cst
      iF:=fun x F h=>⟨W.iF x F h⟩,fn:=fun x F h=>⟨W.fn x F h⟩,met:=fun m C F h=>⟨W.met m C F h⟩,cls:=fun C F h=>let ⟨j,h1,h2⟩:=W.cls C F h;⟨j,h1,⟨h2⟩⟩,clo:=W.clo }
  exact uu (Dd:=[.int 0]) (rj:=[.int 0]) F hr rfl hm hk hb (.cons ⟨tk,rfl⟩ .nil) (fun _ _ _=>.one (by simp only[au])) rfl rfl rfl (ku ((gG 60 _ (af stI) ["self","steps"] _ (mN (aZ .list) (U (aa 1) ah)) G rfl).1 _) mY rfl)
theorem Hw{K:PySem.W.Frag}{mg:Str->Option Value}{C N0 fI:Addr}(na:PySem.W.findIn K (.ref C) "steps"=some none) :
  ∀ (X:Cx) (e d:Addr) (oe:Obj),X.env.scope=af (top 20)->X.mg=mg->X.K=K->X.N=DE->Ic X e C oe d N0 fI->∃ t,ij X Hu t/\∀ (D:Ends) (σ:L2.St) (H:Hp) (v:V),((some ("e":Str)).isSome=true->σ[2]?=some (some (.ref e)))->H d=some (.xd [("steps",v)])->(∀ p,H p=none->D.rt (.ref p) (upd H p (.tup [.str "ring",v])))->t D σ H:=by
 intro X e d oe h1 h2 h3 h4 LP;subst h2 h3;obtain⟨p1,p2,p3,g1,g2,j1,x1,LN⟩:∃ (p1 p2 p3 g1 g2:Pos) (j1 x1:Nat),Hu=[.Return (some (.Tuple [.Constant (.str "ring") j1 p1,.Attribute (.Name "e" g1) "steps" g2] x1 p2)) p3]:=⟨_,_,_,_,_,_,_,rfl⟩;rw[LN];have hi:X.N[2]?=some ("e":Str):=by rw[h4];rfl
 have hv:xV X.env.scope ("e":Str):=.inl (by rw[h1];rfl)
 refine⟨_,yf (uM (uY (cV uJ (cV (Fe LP na hi hv rfl rfl) iR rfl) rfl))),fun D σ H v g1 g3 g5 => ?_⟩
 exact⟨g1 rfl,_,v,g3,by simp[List.lookup],(show 2<=sizeLine by decide),g5⟩
set_option maxHeartbeats 8000000 in
theorem all_mk{P:Program}{w:World}{K:PySem.W.Frag}{h:Heap}{mg:Str->Option Value}{fa:Addr}(X:K.In h)(G:h.Ns mainGlobals mg)(hfa:mg "law"=some (.ref fa))
  (nb:rY K=true)
  {q0:Tok} (z0:PySem.W.nsIn K mainGlobals "DEEPEST"=some (some (.int 8 q0)))
  {f0:Addr} {Rn:FuncData} (a0:dz K "_law_cell" (top 11) f0 Rn)
  {f1:Addr} {Ro:FuncData} (a1:dz K "_law_mix" (top 12) f1 Ro)
  {Hx T1:Addr} {OY:Obj} {MP:Tok} {n1:Nat} {MQ DG:Option Addr} {MR:Array (Option Value)} {MS DH DI DJ AF DK:Value} (Er:PySem.W.nsIn K mainGlobals "own_copy"=some (some (.ref Hx))) (MT:K.lookup Hx=some ⟨MS,MQ,.func (PySem.W.fnOf "own_copy" "own_copy" (b8 (top 2)) (aS (top 2)) (af (top 2)) (.ref T1) DH DI DJ DG AF DK),MR⟩) (MU:PySem.W.codeIn K AF "own_copy"=true) (DL:PySem.W.keepIn K (.ref Hx)=true) (JO:K.lookup T1=some OY) (JP:OY.data=.seq #[.int 0 MP] n1)
  {Rp:Addr} {MV:FuncData} (JQ:dz K "place_behind" (top 8) Rp MV)
  {Rq:Addr} {MW:FuncData} (JR:dz K "free_name" (top 7) Rq MW)
  {Rr:Addr} {MX:FuncData} (JS:dz K "ring_among" (top 9) Rr MX)
  {OZ:Addr} {MY:FuncData} (JT:dz K "merged" (top 6) OZ MY)
  {Rt:Addr} {MZ:FuncData} (JU:dz K "_law_names" (top 13) Rt MZ)
  {Ru:Addr} {M0:FuncData} (JV:dz K "_law_shuffled" (top 14) Ru M0)
  {Rv:Addr} {M1:FuncData} (JW:dz K "_law_part" (top 15) Rv M1)
  {Rx:Addr} {M3:FuncData} (JX:dz K "_law_order" (top 16) Rx M3)
  {Ry:Addr} {M4:FuncData} (JY:dz K "_law_rows" (top 17) Ry M4)
  {M5:Addr} {Hy:FuncData} (AG:dz K "_law_all" (top 18) M5 Hy)
  {M6:Addr} {Hz:FuncData} (AH:dz K "_law_is_order" (top 19) M6 Hz)
  {DM:Addr} {HD HE:Option Addr} {HF:Array (Option Value)} {HG HH HI HJ HK:Value} {c12:Addr} (DN:PySem.W.nsIn K mainGlobals "_law_told"=some (some (.ref DM))) (DO:K.lookup DM=some ⟨HG,HD,.func (PySem.W.fnOf "_law_told" "_law_told" (b8 (top 20)) (aS (top 20)) (af (top 20)) .none HH HI HJ HE (.ref c12) HK),HF⟩) (DQ:PySem.W.codeIn K (.ref c12) "_law_told"=true) (AI:PySem.W.keepIn K (.ref DM)=true)
  {M7:Addr} {HL:FuncData} (AJ:dz K "_law_put" (top 21) M7 HL)
  {M8:Addr} {HM:FuncData} (AK:dz K "_law_exchanged" (top 22) M8 HM)
  {M9:Addr} {HN:FuncData} (AL:dz K "_law_departs" (top 23) M9 HN)
  {DR:Addr} {HP Bl:Option Addr} {HQ:Array (Option Value)} {HR Bm Bn Bo xU Bp:Value} (DS:PySem.W.nsIn K mainGlobals "law"=some (some (.ref DR))) (DT:K.lookup DR=some ⟨HR,HP,.func (PySem.W.fnOf "law" "law" (b8 (top 24)) (aS (top 24)) (af (top 24)) .none Bm Bn Bo Bl xU Bp),HQ⟩) (DU:PySem.W.codeIn K xU "law"=true) (DV:PySem.W.keepIn K (.ref DR)=true)
  {C N0 B0 fI cI:Addr} (aC:PySem.W.nsIn K mainGlobals "Ring"=some (some (.ref C)))
  {Rz qC:Str} {Gz O_:List Value} {RB:List Str} {M_:List Value} {RD:Bool} {Na:Option Bool} {RE:Option Addr} {RF RG RH RI RJ:Option Value} (lC:K.lookup C=some (excClassObj Rz qC C N0 Gz O_ true RB M_ RD Na RE RF RG RH RI RJ "ValueError.__new__")) (nC:PySem.W.nsIn K N0 "__init__"=some (some (.ref fI))) (tC:om K O_=true)
  {Nb:ClassData} (x1:PySem.W.clsIn K C=some Nb) (x2:eU Nb.mro=true) (x3:Nb.hasDict=true) (x4:PySem.W.findIn K (.ref C) "__setattr__"=some (some (.builtin "object.__setattr__"))) (x5:PySem.W.findIn K (.ref C) "__getattribute__"=some (some (.builtin "BaseException.__getattribute__"))) (Nc:PySem.W.findIn K (.ref C) "__getattr__"=some none) (x5c:PySem.W.mroIn K C (.type "BaseException")=some true) (x6:PySem.W.hasDictIn K C=true) (x7:Ie K N0 "__init__"=some (some (.ref fI))) (x8:PySem.W.keepIn K (.ref C)=true) (x9:PySem.W.typeIn K (.ref fI)=some (.type "function"))
  {RK RL:Option Addr} {RM:Array (Option Value)} {RN RO RP RQ RR:Value} (lI:K.lookup fI=some ⟨RN,RK,.func (PySem.W.fnOf "__init__" "Ring.__init__" (b8 stI) (aS stI) (af stI) .none RO RP RQ RL (.ref cI) RR),RM⟩) (yI:PySem.W.codeIn K (.ref cI) "Ring.__init__"=true) (wI:PySem.W.keepIn K (.ref fI)=true)
  (JZ:PySem.W.findIn K (.ref C) "steps"=some none) (aB:PySem.W.nsIn K mainGlobals "LookError"=some (some (.ref B0))) (gB:PySem.W.specialIn K (.ref B0) "__getattribute__"=some (some (.builtin "type.__getattribute__"))) (rB:PySem.W.readsIn K B0 (.type "type")=true) (iB:PySem.W.findCls K (.ref B0) (.type "type") "__init__"=some (.val (.builtin "ValueError.__init__")))
  (i1:PySem.W.findIn K (.ref C) "__class__"=some (some (.builtin "object.__class__"))) (i2:PySem.W.specialIn K (.builtin "object.__class__") "__get__"=some (some (.builtin "getset_descriptor.__get__"))) (i3:PySem.W.takesIn K (.builtin "object.__class__")=some true) (i4:PySem.W.mroIn K C (.type "object")=some true)
  (DW:PySem.W.exmOne K (.ref C) (.ref C)=some true)
  : ∃ fd:FuncData,(∀ (s:Shared) (v:Value),BindsTo s fd ⟨[v],[]⟩ [("_law_script",v)])/\∀ base:Heap,K.In base->base.Ns mainGlobals mg->bU P w K mg base dR 22 fa fd DF (cL (bh mg) Ht):=by
 have e:=hfa.symm.trans (PySem.W.mg_of X G DS);cases e;have E0:=a0.fn;have b0:=E0.binds (ps:=Ot) fun _ _ _ _ _ _=>all2 fun _ _=>rfl
 have E1:=a1.fn;have b1:=E1.binds (ps:=Ow) fun _ _ _ _ _ _=>uk fun _ _ _=>rfl
 have Nd:CL K "own_copy" "own_copy" (top 2) (.ref T1) Hx _:=⟨⟨_,_,_,_,_,_,_,_,_,rfl,MT,MU⟩,DL⟩
 have Nf:Binds K (PySem.W.fnOf "own_copy" "own_copy" (b8 (top 2)) (aS (top 2)) (af (top 2)) (.ref T1) DH DI DJ DG AF DK) AE []:=fun s us X hl=>by
  rw[List.append_nil]at hl ⊢;exact all2 (p:=fun us=>BindsTo s _ ⟨us,[]⟩ (AE.zip us)) (fun _ _=>PySem.W.binds_K X rfl JO JP rfl rfl) us hl
 have Ng:Binds K (PySem.W.fnOf "own_copy" "own_copy" (b8 (top 2)) (aS (top 2)) (af (top 2)) (.ref T1) DH DI DJ DG AF DK) AE [.int 0 MP]:=fun s us X hl=>
  all1 (p:=fun us=>BindsTo s _ ⟨us,[]⟩ (AE.zip (us++[.int 0 MP]))) (fun _=>PySem.W.binds_K X rfl JO JP rfl rfl) us (by simpa[AE] using hl)
 have EI:=mJ (st:=stI) lI yI wI;have bI:=EI.binds (ps:=["self","steps"]) fun _ _ _ _ _ _=>all2 fun _ _=>rfl
 have XB:XBase K mg "LookError" B0:=⟨PySem.W.mg_of X G aB,gB,rB,iB⟩;have XC:mK K C N0 fI:=⟨⟨_,_,_,_,_,_,_,_,_,_,_,_,_,_,lC,rJ tC⟩,⟨_,x1,x2,x3⟩,x4,⟨x5,Nc,x5c⟩,x6,AY x7,x8,x9⟩;have XD:vm K mg C N0 fI cI _ stI "Ring.__init__" "steps" "self" "steps" vI:=⟨⟨_,EI⟩,rfl,dG Rm,XC,bI,JZ,rfl,rfl,rfl,Hv XB⟩;have Nh:=JQ.fn;have RT:=Nh.binds (ps:=OB) fun _ _ _ _ _ _=>all2 fun _ _=>rfl
 have Ni:=JR.fn;have RU:=Ni.binds (ps:=OE) fun _ _ _ _ _ _=>all1 fun _=>rfl
 have Nj:=JS.fn;have RV:=Nj.binds (ps:=OF) fun _ _ _ _ _ _=>all1 fun _=>rfl
 have J0:=JT.fn;have RW:=J0.binds (ps:=Mt) fun _ _ _ _ _ _=>all1 fun _=>rfl
 have Nk:=JU.fn;have RX:=Nk.binds (ps:=OH) fun _ _ _ _ _ _=>all2 fun _ _=>rfl
 have Nl:=JV.fn;have RY:=Nl.binds (ps:=OJ) fun _ _ _ _ _ _=>uk fun _ _ _=>rfl
 have Nn:=JW.fn;have RZ:=Nn.binds (ps:=OL) fun _ _ _ _ _ _=>all2 fun _ _=>rfl
 have Np:=JX.fn;have R_:=Np.binds (ps:=ON) fun _ _ _ _ _ _=>all1 fun _=>rfl
 have Nq:=JY.fn;have Sa:=Nq.binds (ps:=OP) fun _ _ _ _ _ _=>uk fun _ _ _=>rfl
 have DX:=AG.fn;have Nr:=DX.binds (ps:=He) fun _ _ _ _ _ _=>all1 fun _=>rfl
 have DY:=AH.fn;have Nt:=DY.binds (ps:=Hg) fun _ _ _ _ _ _=>all2 fun _ _=>rfl
 have HS:=mJ (st:=(top 20)) DO DQ AI;have Nu:=HS.binds (ps:=Hh) fun _ _ _ _ _ _=>all1 fun _=>rfl
 have DZ:=AJ.fn;have Nv:=DZ.binds (ps:=Hk) fun _ _ _ _ _ _=>uk fun _ _ _=>rfl
 have D1:=AK.fn;have Nw:=D1.binds (ps:=Hn) fun _ _ _ _ _ _=>uk fun _ _ _=>rfl
 have D2:=AL.fn;have Nx:=D2.binds (ps:=Hq) fun _ _ _ _ _ _=>uk fun _ _ _=>rfl
 have Ny:=mJ (st:=(top 24)) DT DU DV;refine⟨PySem.W.fnOf "law" "law" (b8 (top 24)) (aS (top 24)) (af (top 24)) .none Bm Bn Bo Bl xU Bp,fun s v=>.of_eq rfl,fun base _ _ => ?_⟩
 have V0:bN P w K mg base ({}:aX) 0:=bN.start (v8 X G nb);have V1:=V0.zS (x:="DEEPEST") (d:=.int 8) (v:=.int 8) (PySem.W.mg_of X G z0) ⟨_,rfl⟩ rfl;have Y0:bN P w K mg base JK 0:=V1;have q0:=cg Y0 E0 QM QN;have Y1:bN P w K mg base Mo 1:=(Y0.mono (Nat.le_succ 0)).uj (x:="_law_cell") (PySem.W.mg_of X G a0.ns) E0.kp b0 (sG q0) (Nat.le_refl _);have q1:=cg Y1 E1 QP QQ;have Y2:bN P w K mg base Oy 2:=(Y1.mono (Nat.le_succ 1)).uj (x:="_law_mix") (PySem.W.mg_of X G a1.ns) E1.kp b1 (sG q1) (Nat.le_refl _);have X0:bN P w K mg base U0 2:=Y2;have wA:=V1.cH (x:="own_copy") (PySem.W.mg_of X G Er) DL Nf CN;have rA:=nM wA Nd Mp (Mq _);have wB:=(V1.mono (Nat.le_succ 0)).cH (x:="own_copy") (PySem.W.mg_of X G Er) DL Nf rA;have Sb:=nM wB Nd Mp (Mq _);have wC:=(V1.mono (by decide:0<=2)).cH (x:="own_copy") (PySem.W.mg_of X G Er) DL Nf Sb
 have r0:bU P w K mg base dR 4 Hx _ AE (cL (bh mg) O0):=nM wC Nd Mp (Mq _);have X1:bN P w K mg base U1 3:=X0.mono (Nat.le_succ 2);have r1:=cg X1 Nh QT QU;have X2:bN P w K mg base U2 4:=X1.cH (PySem.W.mg_of X G JQ.ns) Nh.kp RT r1;have r2:=cg X2 Ni QV QW;have X3:bN P w K mg base U3 5:=X2.cH (PySem.W.mg_of X G JR.ns) Ni.kp RU r2;have r3:=Ab X3 Nj QX QY (fun X G _ st c h=>xj G st c h)
 have X4:bN P w K mg base U4 6:=X3.cH (PySem.W.mg_of X G JS.ns) Nj.kp RV r3;have Sd:bN P w K mg base T4 6:=X4.toXt;have r4:bU P w K mg base (jz P w) 9 OZ _ Mt (l_ (bh mg) O4):=z_ Sd rfl ⟨J0.ex,J0.kp⟩ QZ Q0 (fun cdv A outer s H E hr G' st' c' h=>qT XD hr (PySem.W.mg_of X G aC) rfl G' (MO X4 (r0.mono (by decide)) Ng (PySem.W.mg_of X G Er) DL) st' c' h)
 have X5:bN P w K mg base U5 10:=X4.mono (by decide:6<=10)
 have r5:=cg X5 Nk Q1 Q2;have X6:bN P w K mg base U6 11:=X5.cH (PySem.W.mg_of X G JU.ns) Nk.kp RX r5;have r6:=cg X6 Nl Q3 Q4;have X7:bN P w K mg base U7 12:=X6.cH (PySem.W.mg_of X G JV.ns) Nl.kp RY r6;have r7:=cg X7 Nn Q5 Q6;have X8:bN P w K mg base U8 13:=X7.cH (PySem.W.mg_of X G JW.ns) Nn.kp RZ r7;have r8:=cg X8 Np Q7 Q8;have X9:bN P w K mg base U9 14:=X8.cH (PySem.W.mg_of X G JX.ns) Np.kp R_ r8;have r9:=cg X9 Nq Q9 Q_;have Pa:bN P w K mg base Mu 15:=X9.cH (PySem.W.mg_of X G JY.ns) Nq.kp Sa r9;have r10:=cg Pa DX Mw Mx;have Pb:bN P w K mg base Mv 16:=Pa.cH (PySem.W.mg_of X G AG.ns) DX.kp Nr r10;have r11:=cg Pb DY Mz MA;have Pc:bN P w K mg base My 17:=Pb.cH (PySem.W.mg_of X G AH.ns) DY.kp Nt r11
 have r12:=xh (nm:=some "e") (cn:="Ring") (fld:="steps") (i:=2) (cb:=cbT O4) (hnd:=hdT) (R:=fun v H Q=>∀ p,H p=none->Q (.ref p) (upd H p (.tup [.str "ring",v]))) Pc HS rfl Hi rfl MC (PySem.W.mg_of X G aC) XC ⟨i1,i2,i3,i4⟩ (PySem.W.mg_of X G aC) DW rfl (fun _ h=>by cases h;rfl) (fun _ h=>by cases h;rfl) rfl
  (fun A outer s H E xe E' hr G' CM=>Gu (j:=0) (i:=1) (y:="_law_found") G' (r4.mono (by decide)) rfl (PySem.W.mg_of X G JT.ns) J0.kp RW CM rfl rfl (dG Hi).nd rfl rfl)
  Dq (Hw JZ) (fun α Z Ω H d v r aw Q S r1 hq k=>by
   simp only[hdT,sZ]at hq;cases hq;exact gu (Φ:=iY) (ds:=[.str "ring",d]) S (.cons (by simp only[au]) (.one r1)) (fun v' H' α' Z' g s r=>k v' H' α' Z' g s r))
 have Pd:bN P w K mg base MB 18:=Pc.cH (PySem.W.mg_of X G DN) AI Nu r12;have r13:=cg Pd DZ ME MF;have Pe:bN P w K mg base MD 19:=Pd.cH (PySem.W.mg_of X G AJ.ns) DZ.kp Nv r13;have r14:=cg Pe D1 MI MJ;have Pf:bN P w K mg base MH 20:=Pe.cH (PySem.W.mg_of X G AK.ns) D1.kp Nw r14;have r15:=cg Pf D2 MK ML;have Se:bN P w K mg base OW 21:=Pf.cH (PySem.W.mg_of X G AL.ns) D2.kp Nx r15;have r16:=cg Se Ny MM MN;exact r16
theorem walk{l:PySem.W.OpenLaw}{q:Program}{loose:List Str}{XP:(Str->Option Value)->Heap->Prop}{YP:World->Heap->Prop}{d:DefRec}{K:Params->PySem.W.Frag}(hn:l.most=some 63)(hdf:d.params.defaults=[])
  (hY:∀ (w:World) (h:Heap),YP w h->(K w.params).In h) (hK:∀ pm,oJ (K pm)=true)
  (F:∀ (w:World) (mg:Str->Option Value) (fa:Addr) (h:Heap),(K w.params).In h->h.Ns mainGlobals mg->mg d.name=some (.ref fa) ->
   ∃ fd:FuncData,(∀ (s:Shared) (u:Value),BindsTo s fd ⟨[u],[]⟩ [("_law_script",u)])/\∀ base:Heap,(K w.params).In base->base.Ns mainGlobals mg->bU l.prog w (K w.params) mg base dR 22 fa fd DF (cL (bh mg) Ht)) :
  PySem.W.WalkO q loose XP YP l.row.toRowW d [] (fun f vs=>PySem.call f vs):=
 L2.yz (n:=63) (k:=22) (x:="_law_script") (CX:=fun _=>dR) (sp:=fun w=>FT Ht) hn (by decide) hdf ⟨rfl,by decide,by decide⟩ hY (fun w mg fa h a b c=>let ⟨fd,q1,q2⟩:=F w mg fa h a b c;⟨fd,q1,fun base d e=>(q2 base d e).imp fun vs H Q E z=>z (bh mg)⟩) (fun w H a ns hl _ hS κ=>zR (Fu (hK w.params) hS) (xT ns hl).choose_spec) fun _ _ _ _ _ z=>z
end DC
def PySem.W.Fast.tw8555612540605446515:Nat:=0
theorem PySem.W.Fast.te8555612540605446515:PySem.W.Fast.tw8555612540605446515=0:=rfl
open PySem PySem.W PyProof.Rows
set_option maxRecDepth 100000 in
set_option maxHeartbeats 0 in
theorem PySem.Challenge.cw_taglook_k18_other_names_other_orders_holds : PySem.Challenge.rw_taglook_k18_other_names_other_orders.Holds := by
 w_on;o_law;k_head;(case hw=>w_witness2)
 k_fill
 refine DC.walk (l:=PySem.Challenge.rw_taglook_k18_other_names_other_orders) rfl rfl (fun w h Y=>PySem.W.kIn_of Y) ?hK ?F
 case hK=>intro pm;exact(Eq.refl true)
 case F=>
  intro w mg fa h KX G hmg;refine' DC.all_mk KX G hmg ?nb ?z0 ?a0 ?a1 ?Er ?MT ?MU ?DL ?JO ?JP ?JQ ?JR ?JS ?JT ?JU ?JV ?JW ?JX ?JY ?AG ?AH ?DN ?DO ?DQ ?AI ?AJ ?AK ?AL ?DS ?DT ?DU ?DV ?aC ?lC ?nC ?tC ?x1 ?x2 ?x3 ?x4 ?x5 ?Nc ?x5c ?x6 ?x7 ?x8 ?x9 ?lI ?yI ?wI ?JZ ?aB ?gB ?rB ?iB ?i1 ?i2 ?i3 ?i4 ?DW
  (case nb=>exact(Eq.refl true))
  (case z0=>k_is)
  (case a0 | a1=>refine' Mir.kQ ?a ?l ?c ?k;(case a=>k_is);(case l=>k_is);(case c=>k_is);(case k=>k_is))
  (case Er | MT | MU | DL | JO=>k_is)
  (case JP=>exact rfl)
  (case JQ | JR | JS | JT | JU | JV | JW | JX | JY | AG | AH=>refine' Mir.kQ ?a ?l ?c ?k;(case a=>k_is);(case l=>k_is);(case c=>k_is);(case k=>k_is))
  (case DN | DO | DQ | AI=>k_is)
  (case AJ | AK | AL=>refine' Mir.kQ ?a ?l ?c ?k;(case a=>k_is);(case l=>k_is);(case c=>k_is);(case k=>k_is))
  (case DS | DT | DU | DV | aC | lC | nC=>k_is)
  (case tC=>exact(Eq.refl true))
  (case x1=>k_is)
  (case x2 | x3=>exact rfl)
  (case x4 | x5 | Nc | x5c | x6=>k_is)
  (case x7=>exact rfl)
  (case x8 | x9 | lI | yI | wI | JZ | aB | gB | rB | iB | i1 | i2 | i3 | i4=>k_is)
  (case DW=>exact(Eq.refl (some true)))
