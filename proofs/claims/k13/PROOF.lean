import PyProof.Rows.All
import Wide.All
import OpenK.AllK
import Wide.FinOn
import Lean
import PyProof.EqAt
import PyProof.EqKinds
import PyProof.TupleCall
import PyProof.ExcClass3
import PyProof.ExcAttrAll.ValueError
import KE.KIsAll
import PyProof.ExcBaseAll.ValueError
import PyProof.RulesAs
import KE.KTryMore
import PyProof.EnumFor
import PyProof.EnumMake
import PyProof.EnumStmt
import PyProof.Rows.EnumRows
import PyProof.RulesTry
import PyProof.Rows.StrWeight2
import PyProof.AutoListH
import PyProof.ListRange
import PyProof.ListCopy
import PyProof.Rows.FactsT1
import PyProof.Rows.FactsT2
import PyProof.Rows.SetFrom
import PyProof.SetRoads
import PyProof.Draws
import PyProof.Rows.SortStr
import PyProof.Rows.SortShell
import PyProof.Rows.SortWalk
import PyProof.Rows.StrMeet
import PyProof.FitsReplace
import PySem.Challenge.RW_taglook_k13_hidden_rings
set_option Elab.async false
set_option bootstrap.genMatcherCode false
set_option genSizeOfSpec false
set_option linter.all false
set_option maxRecDepth 100000
set_option maxHeartbeats 4000000
noncomputable section
namespace L2
open PySem PySem.Spec PyProof.Rows
abbrev Key:=Sum Int Str
noncomputable def qN:Key->Value->Bool
 | .inl k,v=>Value.isInt k v
 | .inr x,v=>Value.isStrOf x v
noncomputable def JV(w:World):Key->Int
 | .inl k=>hashInt k
 | .inr x=>hashStr w x
theorem bH:∀ {k:Key} {v:Value},qN k v=true->(∃ i t,k=Sum.inl i/\v=Value.int i t)\/(∃ x t,k=Sum.inr x/\v=Value.str x t)
 | .inl i,v,h=>by
  obtain⟨t,e⟩:=Value.isInt_shape (k:=i) (v:=v) h;exact .inl ⟨i,t,rfl,e⟩
 | .inr x,v,h=>by
  obtain⟨t,e⟩:=Value.isStrOf_shape (x:=x) (v:=v) h;exact .inr ⟨x,t,rfl,e⟩
theorem sQ(x:Str)(t:Tok):qN (.inr x) (.str x t)=true:=by simp[qN,Value.isStrOf]
theorem Bb(a b:Int):decide ((Sum.inl a:Key)=Sum.inl b)=(a == b):=by
 by_cases e:a=b
 ·subst e;simp
 ·have h:¬ (Sum.inl a:Key)=Sum.inl b:=fun q=>e (Sum.inl.inj q)
  rw[decide_eq_false h];exact(beq_eq_false_iff_ne.mpr e).symm
theorem Bc(a b:Str):decide ((Sum.inr a:Key)=Sum.inr b)=decide (a=b):=by
 by_cases e:a=b
 ·subst e;simp
 ·have h:¬ (Sum.inr a:Key)=Sum.inr b:=fun q=>e (Sum.inr.inj q)
  rw[decide_eq_false h,decide_eq_false e]
theorem Bd(a:Int)(b:Str):decide ((Sum.inl a:Key)=Sum.inr b)=false:=decide_eq_false (fun q=>nomatch q)
theorem Be(a:Str)(b:Int):decide ((Sum.inr a:Key)=Sum.inl b)=false:=decide_eq_false (fun q=>nomatch q)
def cx(prog:Program)(w:World):PySem.KeyKind prog w Key where
 is:=qN
 hash:=JV w
 inj:=fun v a b ha hb=>by
  rcases bH ha with ⟨i,t,rfl,rfl⟩ | ⟨x,t,rfl,rfl⟩
  ·rcases bH hb with ⟨j,u,rfl,e⟩ | ⟨y,u,rfl,e⟩
   ·injection e with e1 _;rw[e1]
   ·exact nomatch e
  ·rcases bH hb with ⟨j,u,rfl,e⟩ | ⟨y,u,rfl,e⟩
   ·exact nomatch e
   ·injection e with e1 _;rw[e1]
 byValue:=fun k v h=>by
  rcases bH h with ⟨i,t,rfl,rfl⟩ | ⟨x,t,rfl,rfl⟩<;>rfl
 pyHash:=fun hv h=>by
  rcases bH hv with ⟨i,t,rfl,rfl⟩ | ⟨x,t,rfl,rfl⟩
  ·exact wpAny_pyHash_int h
  ·exact wpAny_pyHash_str h
 eqBool:=fun hu hv h=>by
  rcases bH hu with ⟨i,t,rfl,rfl⟩ | ⟨x,t,rfl,rfl⟩
  ·rcases bH hv with ⟨j,u,rfl,rfl⟩ | ⟨y,u,rfl,rfl⟩
   ·rw[Bb]at h;exact wpAny_eqBool_int h
   ·rw[Bd]at h;exact SeqAt.EqAt.int_str i t y u _ _ _ _ h
  ·rcases bH hv with ⟨j,u,rfl,rfl⟩ | ⟨y,u,rfl,rfl⟩
   ·rw[Be]at h;exact SeqAt.EqAt.str_int x t j u _ _ _ _ h
   ·rw[Bc]at h;exact wpAny_eqBool_str h
 «strs» := fun k x t v h=>by
  rcases bH h with ⟨i,u,rfl,e⟩ | ⟨y,u,rfl,e⟩
  ·exact nomatch e
  ·injection e with e1 _
   subst e1;cases v<;>rfl
theorem iR(prog:Program)(w:World)(x:Str)(t:Tok):(cx prog w).is (.inr x) (.str x t)=true:=sQ x t
inductive V where
 | non | bl (b:Bool) | int (i:Int) | str (x:Str) | DM (b:Array UInt8) | flt (b:UInt64) | ref (a:Addr) | ty (n:String)
 deriving DecidableEq
def RelV:V->Value->Prop
 | .non,u=>u=Value.none
 | .bl b,u=>u=Value.bool b
 | .int i,u=>∃ t,u=Value.int i t
 | .str x,u=>∃ t,u=Value.str x t
 | .DM b,u=>∃ t,u=Value.bytes b t
 | .flt b,u=>∃ t,u=Value.float b t
 | .ref a,u=>u=Value.ref a
 | .ty n,u=>u=Value.type n
abbrev Vals:List V->List Value->Prop:=Paired RelV
theorem Vals.length{xs:List V}{us:List Value}(r:Vals xs us):xs.length=us.length:=Paired.length r
theorem Vals.get:∀ {xs:List V} {us:List Value} {i:Nat} {x:V},Vals xs us->xs[i]?=some x->∃ u,us[i]?=some u/\RelV x u
 | _,_,_,_,.nil,e=>by simp at e
 | _,_,0,_,.cons r _,e=>by simp at e;subst e;exact⟨_,rfl,r⟩
 | _,_,i + 1,x,.cons _ t,e=>by
  obtain⟨u,h1,h2⟩:=Vals.get (i:=i) (x:=x) t (by simpa using e)
  exact⟨u,by simpa using h1,h2⟩
theorem Vals.append:∀ {xs ys:List V} {us ws:List Value},Vals xs us->Vals ys ws->Vals (xs++ys) (us++ws)
 | _,_,_,_,.nil,s=>s
 | _,_,_,_,.cons r t,s=>.cons r (Vals.append t s)
theorem Vals.take:∀ {xs:List V} {us:List Value} (n:Nat),Vals xs us->Vals (xs.take n) (us.take n)
 | _,_,0,_=>.nil
 | _,_,_ + 1,.nil=>.nil
 | _,_,n + 1,.cons r t=>.cons r (Vals.take n t)
theorem Vals.drop:∀ {xs:List V} {us:List Value} (n:Nat),Vals xs us->Vals (xs.drop n) (us.drop n)
 | _,_,0,r=>r
 | _,_,_ + 1,.nil=>.nil
 | _,_,n + 1,.cons _ t=>Vals.drop n t
def lX:Option V->Option Value->Prop
 | some v,some u=>RelV v u
 | none,none=>True
 | _,_=>False
def KV{κ:Type}:List (κ×V)->List (κ×Value)->Prop:=Paired fun (p:κ×V) (q:κ×Value)=>p.1=q.1/\RelV p.2 q.2
noncomputable def kV:Key->V
 | .inl i=>.int i
 | .inr x=>.str x
inductive HO where
 | lst (xs:List V)
 | tup (xs:List V)
 | dK (kvs:List (Key×V)) | dT (kvs:List (List Key×V))
 | set (S:Int->Bool) (n:Nat)
 | ins (C dx:Addr) (fs:List (Str×V))
 | own (x:Addr)
 | xd (fs:List (Str×V))
 | met (f x:Addr)
 | JW (lo hi:Int)
 | i7 (o:Obj) (u:HO)
 | Bf (ps:Array Value)
 | ext (φ:Heap->Prop)
abbrev Hp:=Addr->Option HO
noncomputable def upd(H:Hp)(a:Addr)(o:HO):Hp:=fun b=>if b=a then some o else H b
theorem bo{H:Hp}{a:Addr}{o:HO}:upd H a o a=some o:=by unfold upd;rw[if_pos rfl]
theorem aG{H:Hp}{a b:Addr}{o:HO}(h:b≠a):upd H a o b=H b:=by unfold upd;rw[if_neg h]
theorem ba{H:Hp}{a b:Addr}{o:HO}(h:H a=some o)(h':H b=none):a≠b:=by
 intro e;subst e;rw[h]at h';cases h'
section
variable(P:Program)(w:World)
def cy(H:Hp)(h:Heap)(a:Addr):HO->Prop
 | .lst xs=>xs.length<=sizeLine/\∃ (its:List Value) (n:Nat),Vals xs its/\h.get? a=some { cls:=.type "list",data:=.seq its.toArray n }
 | .tup xs=>xs.length<=sizeLine/\∃ its:List Value,Vals xs its/\IsTup h a its.toArray
 | .dK kvs=>kvs.length<=sizeLine/\(a == sysModules)=false/\∃ vs,KV kvs vs/\h.DictOf (cx P w) a vs
 | .dT kvs=>kvs.length<=sizeLine/\(a == sysModules)=false/\∃ xs:List (List Key×Addr×Value),
   Paired (fun (p:List Key×V) (q:List Key×Addr×Value)=>p.1=q.1/\H q.2.1=some (.tup (p.1.map kV))/\RelV p.2 q.2.2) kvs xs /\
   ∃ o es ep,h.get? a=some o/\o.ExactDict/\o.data=.dict es ep/\es.toList=xs.map (entryOfKey (tupleKind (cx P w)))/\(xs.map (·.1)).Nodup
 | .set S n=>h.SetOf (intKind P w) a S n
 | .ins C dx fs=>H dx=some (.own a)/\fs.length<=1000/\dx≠a/\h.get? a=some (PySem.W.instObj C dx) /\
   ∃ mA,h.Ns1 dx mA/\(∀ f,lX (fs.lookup f) (mA f))/\PySem.Within mA (fs.map (·.1))
 | .own _=>∃ o,h.get? a=some o
 | .xd fs=>∃ mA,h.Ns1 a mA/\∀ f,lX (fs.lookup f) (mA f)
 | .JW lo hi=>∃ t u v,h.get? a=some { cls:=.type "range",data:=.fields #[.int lo t,.int hi u,.int 1 v] }
 | .i7 o u=>h.get? a=some o/\cy H h a u
 | .Bf ps=>h.get? a=some { cls:=.none,data:=.fields ps }
 | .met f x=>h.get? a=some (PySem.W.methodObj (.ref f) (.ref x))
 | .ext φ=>φ h/\(∃ o,h.get? a=some o)/\∀ h1 h2:Heap,φ h1->(∀ o,h1.get? a=some o->h2.get? a=some o)->φ h2
def iS(H:Hp)(h:Heap):Prop:=∀ a o,H a=some o->cy P w H h a o
end
section
variable{P:Program}{w:World}{H H':Hp}{h h':Heap}{a:Addr}{o:HO}
theorem cy.lt(x:cy P w H h a o):a < h.objs.size:=by
 cases o with
 | lst xs=>obtain⟨_,_,_,_,e⟩:=x;exact Heap.lt_size e
 | tup xs=>obtain⟨_,_,_,p⟩:=x;exact p.lt
 | dK kvs=>obtain⟨_,_,_,_,o,_,_,e,_⟩:=x;exact Heap.lt_size e
 | dT kvs=>obtain⟨_,_,_,_,o,_,_,e,_⟩:=x;exact Heap.lt_size e
 | set S n=>obtain⟨o,_,_,_,e,_⟩:=x;exact Heap.lt_size e
 | ins C dx fs=>obtain⟨_,_,_,e,_⟩:=x;exact Heap.lt_size e
 | own y=>obtain⟨_,e⟩:=x;exact Heap.lt_size e
 | xd fs=>obtain⟨_,⟨_,_,_,e,_⟩,_⟩:=x;exact Heap.lt_size e
 | JW lo hi=>obtain⟨_,_,_,e⟩:=x;exact Heap.lt_size e
 | i7 ob u=>obtain⟨e,_⟩:=x;exact Heap.lt_size e
 | Bf ps=>exact Heap.lt_size (show h.get? a=some _ from x)
 | met f y=>exact Heap.lt_size (show h.get? a=some _ from x)
 | ext φ=>obtain⟨_,⟨_,e⟩,_⟩:=x;exact Heap.lt_size e
theorem Paired.Ef{α β:Type}{F G:α->β->Prop}:∀ {l₁:List α} {l₂:List β},Paired F l₁ l₂->(∀ a b,F a b->G a b)->Paired G l₁ l₂
 | _,_,.nil,_=>.nil
 | _,_,.cons r t,f=>.cons (f _ _ r) (Paired.Ef t f)
theorem cy.stay(x:cy P w H h a o)(k:∀ b u,(b=a\/H b=some (.own a))->h.get? b=some u->h'.get? b=some u)
  (ho:∀ b,H b=some (.own a)->H' b=some (.own a)) (ht:∀ b xs,H b=some (.tup xs)->H' b=some (.tup xs)):cy P w H' h' a o:=by
 induction o with
 | lst xs=>obtain⟨z,its,n,r,e⟩:=x;exact⟨z,its,n,r,k _ _ (.inl rfl) e⟩
 | tup xs=>obtain⟨z,its,r,ob,e,c⟩:=x;exact⟨z,its,r,ob,k _ _ (.inl rfl) e,c⟩
 | dK kvs=>obtain⟨z,y,vs,r,ob,es,ep,e,c⟩:=x;exact⟨z,y,vs,r,ob,es,ep,k _ _ (.inl rfl) e,c⟩
 | dT kvs=>
  obtain⟨z,y,xs,r,ob,es,ep,e,c⟩:=x;exact⟨z,y,xs,Paired.Ef r fun p q z=>⟨z.1,ht _ _ z.2.1,z.2.2⟩,ob,es,ep,k _ _ (.inl rfl) e,c⟩
 | set S n=>obtain⟨ob,es,ep,t,e,c⟩:=x;exact⟨ob,es,ep,t,k _ _ (.inl rfl) e,c⟩
 | ins C dx fs=>
  obtain⟨d,z,ne,e,mA,⟨od,es,ep,e2,c⟩,r⟩:=x;exact⟨ho _ d,z,ne,k _ _ (.inl rfl) e,mA,⟨od,es,ep,k _ _ (.inr d) e2,c⟩,r⟩
 | own y=>obtain⟨ob,e⟩:=x;exact⟨ob,k _ _ (.inl rfl) e⟩
 | xd fs=>obtain⟨mA,⟨od,es,ep,e,c⟩,r⟩:=x;exact⟨mA,⟨od,es,ep,k _ _ (.inl rfl) e,c⟩,r⟩
 | JW lo hi=>obtain⟨t,u,v,e⟩:=x;exact⟨t,u,v,k _ _ (.inl rfl) e⟩
 | i7 ob u ih=>obtain⟨e,q⟩:=x;exact⟨k _ _ (.inl rfl) e,ih q⟩
 | Bf ps=>
  have e:h.get? a=some { cls:=.none,data:=.fields ps }:=x
  show h'.get? a=some { cls:=.none,data:=.fields ps }
  exact k a _ (.inl rfl) e
 | met f y=>
  have e:h.get? a=some (PySem.W.methodObj (.ref f) (.ref y)):=x
  show h'.get? a=some (PySem.W.methodObj (.ref f) (.ref y))
  exact k a _ (.inl rfl) e
 | ext φ=>obtain⟨p,⟨o,e⟩,st⟩:=x;exact⟨st _ _ p fun o q=>k _ _ (.inl rfl) q,⟨o,k _ _ (.inl rfl) e⟩,st⟩
theorem iS.lt(x:iS P w H h)(e:H a=some o):a < h.objs.size:=(x a o e).lt
theorem iS.fresh(x:iS P w H h)(e:h.objs.size<=a):H a=none:=by
 cases q:H a with
 | none=>rfl
 | some u=>exact absurd (Nat.lt_of_lt_of_le (x.lt q) e) (Nat.lt_irrefl _)
theorem iS.kept(x:iS P w H h)(k:∀ b u,h.get? b=some u->h'.get? b=some u):iS P w H h':=fun a o e=>
 (x a o e).stay (fun b u _ q=>k b u q) (fun _ q=>q) fun _ _ q=>q
theorem iS.laid(x:iS P w H h)(k:∀ b u,h.get? b=some u->h'.get? b=some u)(hp:h.objs.size<=a)(new:cy P w (upd H a o) h' a o):iS P w (upd H a o) h':=fun b u e=>by
 have hn:=x.fresh hp
 by_cases hb:b=a
 ·subst hb;rw[bo]at e;cases e;exact new
 ·rw[aG hb]at e
  exact(x b u e).stay (fun c v _ q=>k c v q) (fun c q=>by rw[aG (ba q hn)];exact q) fun c xs q=>by rw[aG (ba q hn)];exact q
end
def Rd(H:Hp)(a:Addr)(u:HO):Prop:=H a=some u\/∃ o,H a=some (.i7 o u)
theorem Rd.ok{P:Program}{w:World}{H:Hp}{h:Heap}{a:Addr}{u:HO}(r:Rd H a u)(x:iS P w H h):cy P w H h a u:=by
 rcases r with r | ⟨o,r⟩
 ·exact x a u r
 ·obtain⟨_,q⟩:=x a _ r
  exact q
def HX:Option HO->Prop
 | some (.lst _)=>True
 | some (.dK _)=>True
 | some (.dT _)=>True
 | some (.set _ _)=>True
 | some (.ins _ _ _)=>True
 | some (.ext _)=>True
 | _=>False
section
variable{P:Program}{w:World}{H:Hp}{h h':Heap}{x e:Addr}{o':HO}
theorem iS.write(ok:iS P w H h)(mu:HX (H x))(he:e=x\/H e=some (.own x))(k:∀ b u,b≠e->h.get? b=some u->h'.get? b=some u)(heo:∃ u,h'.get? e=some u)
  (new:cy P w (upd H x o') h' x o'):iS P w (upd H x o') h':=fun b u q=>by
 have Eg:∀ c y,H c=some (.own y)->c≠x:=fun c y r z=>by subst z;rw[r]at mu;exact mu
 have JX:∀ c xs,H c=some (.tup xs)->c≠x:=fun c xs r z=>by subst z;rw[r]at mu;exact mu
 by_cases hb:b=x
 ·subst hb;rw[bo]at q;cases q;exact new
 ·rw[aG hb]at q
  by_cases hbe:b=e
  ·have q':H b=some (.own x):=by
    rcases he with z | z
    ·exact absurd (hbe.trans z) hb
    ·rw[hbe];exact z
   rw[q]at q';cases q'
   obtain⟨v,hv⟩:=heo;exact⟨v,by rw[hbe];exact hv⟩
  ·refine(ok b u q).stay (fun c v hc r=>k c v ?_ r) (fun c r=>by rw[aG (Eg c b r)];exact r) fun c xs r=>by rw[aG (JX c xs r)];exact r
   rcases hc with rfl | hc
   ·exact hbe
   ·rintro rfl
    rcases he with z | z
    ·exact Eg c b hc z
    ·rw[hc]at z;cases z;exact hb rfl
end
structure Un(fs ex:List Addr)(H H':Hp)(h h':Heap):Prop where
 keep:∀ b o,h.get? b=some o->H b=none->b∉fs->b∉ex->h'.get? b=some o
 slot:∀ b o,h.get? b=some o->H b=none->b∈fs->b∉ex->∃ sl,h'.get? b=some { o with slots:=sl }
 free:∀ b o,h.get? b=some o->H b=none->b∉ex->H' b=none
 there:∀ b o,h.get? b=some o->b∉ex->∃ o',h'.get? b=some o'
 tups:∀ b xs,H b=some (.tup xs)->H' b=some (.tup xs)
 gO:∀ b o u,H b=some (.i7 o u)->H' b=some (.i7 o u)
 i8:∀ b ps,H b=some (.Bf ps)->∃ more,H' b=some (.Bf (ps++more))
section
variable{fs fs' ex ex':List Addr}{H H1 H2:Hp}{h h1 h2 h':Heap}{a x e:Addr}{o:HO}
theorem Un.any(u:Un fs ex H H1 h h1){b:Addr}{ob:Obj}(q:h.get? b=some ob)(n:H b=none)(hx:b∉ex):∃ sl,h1.get? b=some { ob with slots:=sl }:=by
 by_cases hb:b∈fs
 ·exact u.slot b ob q n hb hx
 ·exact⟨ob.slots,u.keep b ob q n hb hx⟩
theorem Un.kept(k:∀ b u,h.get? b=some u->h'.get? b=some u):Un fs ex H H h h':=
 ⟨fun b ob q _ _ _=>k b ob q,fun b ob q _ _ _=>⟨ob.slots,k b ob q⟩,fun _ _ _ n _=>n,fun b ob q _=>⟨ob,k b ob q⟩,fun _ _ q=>q,fun _ _ _ q=>q,fun _ ps q=>⟨#[],by rw[q];simp⟩⟩
theorem Un.refl:Un fs ex H H h h:=Un.kept fun _ _ q=>q
theorem Un.laid(k:∀ b u,h.get? b=some u->h'.get? b=some u)(hp:h.objs.size<=a)(hn:H a=none):Un fs ex H (upd H a o) h h' where
 keep:=fun b u q _ _ _=>k b u q
 slot:=fun b u q _ _ _=>⟨u.slots,k b u q⟩
 free:=fun b u q n _=>by rw[aG (Nat.ne_of_lt (Nat.lt_of_lt_of_le (Heap.lt_size q) hp))];exact n
 there:=fun b u q _=>⟨u,k b u q⟩
 tups:=fun b xs q=>by rw[aG (ba q hn)];exact q
 gO:=fun b u xs q=>by rw[aG (ba q hn)];exact q
 i8:=fun b ps q=>⟨#[],by rw[aG (ba q hn),q];simp⟩
theorem Un.write(mu:HX (H x))(he:e=x\/H e=some (.own x))(k:∀ b u,b≠e->h.get? b=some u->h'.get? b=some u)(heo:∃ u,h'.get? e=some u):Un fs ex H (upd H x o) h h':=by
 have hx:∀ b,H b=none->b≠x:=fun b n z=>by subst z;rw[n]at mu;exact mu
 have hb:∀ b,H b=none->b≠e:=fun b n z=>by
  subst z;rcases he with r | r
  ·exact hx b n r
  ·rw[n]at r;cases r
 have hm:∀ b u,H b=some u->¬ HX (some u)->b≠x:=fun b u q nm z=>by subst z;rw[q]at mu;exact nm mu
 refine⟨fun b u q n _ _=>k b u (hb b n) q,fun b u q n _ _=>⟨u.slots,k b u (hb b n) q⟩,fun b u q n _=>by rw[aG (hx b n)];exact n,fun b u q _ => ?_,
  fun b xs q=>by rw[aG (hm b _ q fun z=>z)];exact q,fun b u xs q=>by rw[aG (hm b _ q fun z=>z)];exact q,fun b ps q=>⟨#[],by rw[aG (hm b _ q fun z=>z),q];simp⟩⟩
 by_cases hbe:b=e
 ·subst hbe;exact heo
 ·exact⟨u,k b u hbe q⟩
theorem Un.mono(u:Un fs ex H H1 h h1)(hs:∀ b∈fs,b∈fs')(hx:∀ b∈ex,b∈ex'):Un fs' ex' H H1 h h1:=
 ⟨fun b ob q n hb he=>u.keep b ob q n (fun z=>hb (hs b z)) fun z=>he (hx b z),fun _ _ q n _ he=>u.any q n fun z=>he (hx _ z),fun b ob q n he=>u.free b ob q n fun z=>he (hx b z),fun b ob q he=>u.there b ob q fun z=>he (hx b z),u.tups,u.gO,u.i8⟩
end
noncomputable def HY(h:Heap)(H:Hp):List Addr:=(List.range h.objs.size).filter fun a=>(H a).isSome
def lY(h:Heap)(H:Hp):Heap:=PySem.W.hideAll h (HY h H)
theorem sR(h:Heap)(H:Hp):(lY h H).objs.size=h.objs.size:=PySem.W.hideAll_size _ _
theorem uy{h:Heap}{H:Hp}{b:Addr}{o:Obj}(e:h.get? b=some o)(n:H b=none):(lY h H).get? b=some o:=
 PySem.W.hideAll_get _ e fun hm=>by
  have q:(H b).isSome=true:=(List.mem_filter.mp hm).2;rw[n]at q;simp at q
theorem xU{h:Heap}{H:Hp}{b:Addr}{o:Obj}(e:(lY h H).get? b=some o):h.get? b=some o/\H b=none:=by
 have e':h.get? b=some o:=PySem.W.of_hideAll (HY h H) e;refine⟨e',?_⟩;cases q:H b with
 | none=>rfl
 | some x=>
  have hm:b∈HY h H:=List.mem_filter.mpr ⟨List.mem_range.mpr (Heap.lt_size e'),by simp[q]⟩
  have z:(lY h H).get? b=none:=PySem.W.hideAll_none (HY h H) hm;rw[z]at e;cases e
noncomputable def xV(g h:Heap)(L:Addr):List (Addr×Obj):=(List.range h.objs.size).filterMap fun a=>if a=L\/(g.get? a).isSome=true then none else (h.get? a).map fun o=>(a,o)
def rest(g h:Heap)(L d:Addr):List (Addr×Obj):=(xV g h L).filter fun p=>decide (p.1≠d)
structure Mod(K:PySem.W.Frag)(mg:Str->Option Value)(base:Heap):Prop where
 DN:K.In base
 glob:base.Ns mainGlobals mg
 blt:∃ mb,base.Ns builtinsNs mb/\∀ x:Str,x≠"__name__"->mb x=bootBuiltins x
 nolimit:base.NoLimit
structure Cx where
 prog:Program
 w:World
 K:PySem.W.Frag
 mg:Str->Option Value
 base:Heap
 A:Around
 N:List Str
 s₀:Shared
 H₀:Hp
 env:Env
 outer:List Env
 stack:List Env
 ex:List Addr
 fn:Str->Bool
 calm:Bool
 pn:List (Addr×Obj)
 xe:Value->Shared->Prop
noncomputable def frs(l:List Env):List Addr:=l.filterMap (·.frame)
abbrev Cx.fs(X:Cx):List Addr:=frs X.outer
def uu(sc:Scope)(x:Str):Prop:=sc.names.lookup x=some .local\/sc.names.lookup x=some .cell\/sc.names.lookup x=some .free
def Loc(sc:Scope)(x:Str):Prop:=sc.names.lookup x=some .local\/sc.names.lookup x=some .cell
def Look(env:Env)(h:Heap)(m:Str->Option Value)(x:Str)(u:Value):Prop:=
 (env.kindOf x=some .local/\m x=some u)\/((env.kindOf x=some .cell\/env.kindOf x=some .free)/\∃ c,env.cells.lookup x=some c/\h.IsCell c (some u))
structure Cx.Ok(X:Cx):Prop where
 mod:Mod X.K X.mg X.base
 kind:X.env.scope.kind=.function
 glob:X.env.globals=mainGlobals
 blt:X.env.builtins=builtinsNs
 above:X.s₀.heap.objs.size<=X.env.locals
 inj:∀ x y c,X.env.cells.lookup x=some c->X.env.cells.lookup y=some c->x=y
 has:∀ x,(X.env.kindOf x=some .cell\/X.env.kindOf x=some .free)->∃ c,X.env.cells.lookup x=some c
 cab:∀ x c,X.fn x=true->X.env.cells.lookup x=some c->X.s₀.heap.objs.size<=c
 hd:X.calm=true->X.A.handled=none
 frames:X.A.frames=some X.stack
 Av:X.stack=X.outer\/(X.stack=X.env::X.outer/\X.env.frame=some X.env.locals)
 Bg:∀ b∈X.ex,b≠X.env.locals/\∀ x c,X.env.cells.lookup x=some c->c≠b
 bs:∀ b o,X.base.get? b=some o->X.s₀.heap.get? b=some o/\X.H₀ b=none
 sS:X.base.objs.size<=X.s₀.heap.objs.size
 nP:∀ b o,X.base.get? b=some o->b∉X.ex
 nQ:∀ b∈X.ex,b∉X.fs
 fN:X.s₀.heap.FunFrames X.base X.outer
 uA:∀ b∈X.fs,X.H₀ b=none
structure Inv(X:Cx)(pins:List (Addr×Obj))(σ:List (Option V))(H:Hp)(s:Shared):Prop where
 ok:X.Ok
 os:s.os=X.s₀.os
 bare:AllBare s.gens
 base:Un X.fs X.ex X.H₀ H X.s₀.heap s.heap
 loc:∃ m,s.heap.Ns X.env.locals m/\∀ (i:Nat) (x:Str) (v:V),X.N[i]?=some x->σ[i]?=some (some v)->uu X.env.scope x->∃ u,RelV v u/\Look X.env s.heap m x u
 cell:∀ x c,X.env.cells.lookup x=some c->∃ v,s.heap.IsCell c v
 free:H X.env.locals=none
 cX:∀ x c,X.env.cells.lookup x=some c->(H c=none\/∃ o u,H c=some (.i7 o u))/\(X.fn x=true->H c=none)
 pin:∀ p∈X.pn++pins,s.heap.get? p.1=some p.2/\H p.1=none/\p.1≠X.env.locals/\p.1∉X.fs/\∀ v,p.2.data≠.cell v
 hok:iS X.prog X.w H s.heap
 len:σ.length=X.N.length
section
variable{X:Cx}{pins:List (Addr×Obj)}{σ:List (Option V)}{H H':Hp}{s:Shared}{h':Heap}
theorem Cx.Ok.JY(ok:X.Ok){b:Addr}{o:Obj}(e:X.base.get? b=some o):b∉X.fs:=fun hb=>by
 have:=(ok.fN.mem hb).1;rw[e]at this;cases this
theorem Inv.bs(I:Inv X pins σ H s):∀ b o,X.base.get? b=some o->s.heap.get? b=some o/\H b=none:=fun b o e=>
 ⟨I.base.keep b o (I.ok.bs b o e).1 (I.ok.bs b o e).2 (I.ok.JY e) (I.ok.nP b o e),I.base.free b o (I.ok.bs b o e).1 (I.ok.bs b o e).2 (I.ok.nP b o e)⟩
theorem Inv.bk(I:Inv X pins σ H s):∀ b o,X.base.get? b=some o->s.heap.get? b=some o:=fun b o e=>(I.bs b o e).1
theorem Inv.mod(I:Inv X pins σ H s):Mod X.K X.mg X.base:=I.ok.mod
theorem Inv.fG(I:Inv X pins σ H s):X.K.In s.heap:=I.ok.mod.DN.keeps I.bk
theorem Inv.lt(I:Inv X pins σ H s):X.env.locals < s.heap.objs.size:=let ⟨_,hn,_⟩:=I.loc;hn.lt
theorem Inv.sz(I:Inv X pins σ H s):X.s₀.heap.objs.size<=s.heap.objs.size:=Nat.le_trans I.ok.above (Nat.le_of_lt I.lt)
theorem Inv.JZ(I:Inv X pins σ H s){a:Addr}(h:s.heap.objs.size<=a):a∉X.fs:=fun hb=>by
 obtain⟨_,o,ho,_⟩:=I.ok.fN.mem hb;exact absurd (Nat.lt_of_lt_of_le (Heap.lt_size ho) (Nat.le_trans I.sz h)) (Nat.lt_irrefl _)
theorem Inv.xM(I:Inv X pins σ H s):∀ x c,X.env.cells.lookup x=some c->c≠X.env.locals:=fun x c e z=>by
 obtain⟨v,o,ho,hd⟩:=I.cell x c e;obtain⟨m,⟨o',es,ep,ho',hd',_⟩,_⟩:=I.loc;rw[z,ho']at ho;cases ho;rw[hd']at hd;cases hd
theorem Inv.fN(I:Inv X pins σ H s):s.heap.FunFrames X.base X.outer:=by
 have all:∀ (l:List Env),(∀ b∈frs l,b∈X.fs)->X.s₀.heap.FunFrames X.base l->s.heap.FunFrames X.base l:=by
  intro l
  induction l with
  | nil=>intro _ _;trivial
  | cons env r ih=>
   intro hs hl;obtain⟨hk,⟨L,o,hf,hn,ho,hd⟩,hr⟩:=hl;have hL:L∈X.fs:=hs L (by unfold frs;rw[List.filterMap_cons,hf];exact List.mem_cons_self)
   obtain⟨sl,e⟩:=I.base.slot L o ho (I.ok.uA L hL) hL fun z=>I.ok.nQ L z hL
   exact⟨hk,⟨L,_,hf,hn,e,hd⟩,ih (fun b hb=>hs b (by unfold frs;rw[List.filterMap_cons,hf];exact List.mem_cons_of_mem _ hb)) hr⟩
 exact all X.outer (fun _ hb=>hb) I.ok.fN
theorem Inv.stack(I:Inv X pins σ H s):s.heap.FunFrames X.base X.stack:=by
 rcases I.ok.Av with e | ⟨e,hf⟩
 ·rw[e];exact I.fN
 ·rw[e]
  obtain⟨m,hn,_⟩:=I.loc;refine .cons (by rw[I.ok.kind];decide) hf hn ?_ I.fN
  exact Heap.get?_none_of_le (Nat.le_trans I.ok.sS I.ok.above)
theorem Inv.lZ(I:Inv X pins σ H s):∀ b∈frs X.stack,b∈X.env.locals::X.fs:=fun b hb=>by
 rcases I.ok.Av with e | ⟨e,hf⟩
 ·rw[e]at hb;exact List.mem_cons_of_mem _ hb
 ·rw[e]at hb
  unfold frs at hb;rw[List.filterMap_cons,hf]at hb;exact hb
theorem Inv.jf(I:Inv X pins σ H s):∀ b∈frs X.stack,H b=none:=fun b hb=>by
 rcases List.mem_cons.mp (I.lZ b hb) with e | hb
 ·rw[e];exact I.free
 ·obtain⟨_,o,ho,_⟩:=I.ok.fN.mem hb
  exact I.base.free b o ho (I.ok.uA b hb) fun z=>I.ok.nQ b z hb
theorem Inv.step{g':Array GenState}{t':Nat}{d':Drawn}{ch:List Addr}(I:Inv X pins σ H s)
  (hch:∀ b∈ch,(b∈X.ex\/X.s₀.heap.objs.size<=b)/\b≠X.env.locals/\(∀ x c,X.env.cells.lookup x=some c->c≠b)/\∀ p∈X.pn++pins,p.1≠b)
  (keep:∀ b o,b≠X.env.locals->b∉X.fs->b∉ch->s.heap.get? b=some o->H b=none->h'.get? b=some o)
  (slot:∀ b o,b≠X.env.locals->b∈X.fs->b∉ch->s.heap.get? b=some o->H b=none->∃ sl,h'.get? b=some { o with slots:=sl }) (free:∀ b o,b∉ch->s.heap.get? b=some o->H b=none->H' b=none)
  (there:∀ b o,b∉ch->s.heap.get? b=some o->∃ o',h'.get? b=some o')
  (tups:∀ b xs,H b=some (.tup xs)->H' b=some (.tup xs)) (gO:∀ b o u,H b=some (.i7 o u)->H' b=some (.i7 o u)) (i8:∀ b ps,H b=some (.Bf ps)->∃ more,H' b=some (.Bf (ps++more)))
  (ns:∀ m,s.heap.Ns X.env.locals m->h'.Ns X.env.locals m) (hok:iS X.prog X.w H' h') (hg:AllBare g') :
  Inv X pins σ H' { s with heap:=h',gens:=g',drawn:=d',toks:=t' }:=by
 have DO:∀ b o,X.s₀.heap.get? b=some o->b≠X.env.locals:=fun b o e=>Nat.ne_of_lt (Nat.lt_of_lt_of_le (Heap.lt_size e) I.ok.above)
 have DP:∀ b o,X.s₀.heap.get? b=some o->b∉X.ex->b∉ch:=fun b o e hx hb=>by
  rcases(hch b hb).1 with z | z
  ·exact hx z
  ·exact absurd (Nat.lt_of_lt_of_le (Heap.lt_size e) z) (Nat.lt_irrefl _)
 have cellK:∀ x c,X.env.cells.lookup x=some c->∀ v,s.heap.IsCell c v->h'.IsCell c v:=fun x c e v ⟨o,ho,hd⟩=>by
  have Aw:c∉ch:=fun z=>(hch c z).2.2.1 x c e rfl
  rcases(I.cX x c e).1 with hn | ⟨oz,uz,hz⟩
  ·by_cases hc:c∈X.fs
   ·obtain⟨sl,q⟩:=slot c o (I.xM x c e) hc Aw ho hn
    exact⟨_,q,hd⟩
   ·exact⟨o,keep c o (I.xM x c e) hc Aw ho hn,hd⟩
  ·have e1:s.heap.get? c=some oz:=(I.hok c _ hz).1
   have e2:h'.get? c=some oz:=(hok c _ (gO c oz uz hz)).1;rw[ho]at e1;cases e1
   exact⟨o,e2,hd⟩
 refine⟨I.ok,I.os,hg,⟨fun b o e n hb hx => ?_,fun b o e n hb hx => ?_,fun b o e n hx => ?_,fun b o e hx => ?_,fun b xs e=>tups b xs (I.base.tups b xs e),fun b o xs e=>gO b o xs (I.base.gO b o xs e),fun b ps e => ?_⟩,?_,fun x c e => ?_,?_,fun x c e => ?_,fun p hp => ?_,hok,I.len⟩
 ·exact keep b o (DO b o e) hb (DP b o e hx) (I.base.keep b o e n hb hx) (I.base.free b o e n hx)
 ·obtain⟨sl,e1⟩:=I.base.slot b o e n hb hx
  obtain⟨sl',e2⟩:=slot b _ (DO b o e) hb (DP b o e hx) e1 (I.base.free b o e n hx);exact⟨sl',e2⟩
 ·obtain⟨o',e1⟩:=I.base.there b o e hx
  exact free b o' (DP b o e hx) e1 (I.base.free b o e n hx)
 ·obtain⟨o',e1⟩:=I.base.there b o e hx
  exact there b o' (DP b o e hx) e1
 ·obtain⟨m1,e1⟩:=I.base.i8 b ps e
  obtain⟨m2,e2⟩:=i8 b _ e1;exact⟨m1++m2,by rw[e2,Array.append_assoc]⟩
 ·obtain⟨m,hn,hl⟩:=I.loc
  refine⟨m,ns m hn,fun i x v e1 e2 e3 => ?_⟩
  obtain⟨u,r,l⟩:=hl i x v e1 e2 e3;refine⟨u,r,?_⟩;rcases l with l | ⟨k,c,e,z⟩
  ·exact .inl l
  ·exact .inr ⟨k,c,e,cellK x c e _ z⟩
 ·obtain⟨v,z⟩:=I.cell x c e
  exact⟨v,cellK x c e v z⟩
 ·obtain⟨m,⟨o,_,_,ho,_⟩,_⟩:=I.loc
  exact free _ o (fun z=>(hch _ z).2.1 rfl) ho I.free
 ·obtain⟨v,o,ho,hd⟩:=I.cell x c e
  have Aw:c∉ch:=fun z=>(hch c z).2.2.1 x c e rfl
  refine⟨?_,fun hf=>free c o Aw ho ((I.cX x c e).2 hf)⟩
  rcases(I.cX x c e).1 with hn | ⟨oz,uz,hz⟩
  ·exact .inl (free c o Aw ho hn)
  ·exact .inr ⟨oz,uz,gO c oz uz hz⟩
 ·obtain⟨e,n,ne,nf,d⟩:=I.pin p hp
  have Aw:p.1∉ch:=fun z=>(hch p.1 z).2.2.2 p hp rfl
  exact⟨keep p.1 p.2 ne nf Aw e n,free p.1 p.2 Aw e n,ne,nf,d⟩
theorem Inv.un{t':Nat}(I:Inv X pins σ H s)(u:Un X.fs [] H H' s.heap h')(hok:iS X.prog X.w H' h'):Inv X pins σ H' { s with heap:=h',toks:=t' }:=by
 obtain⟨m,⟨o,es,ep,ho,r⟩,_⟩:=id I.loc;obtain⟨sl,hL⟩:=u.any ho I.free (by simp)
 exact I.step (g':=s.gens) (d':=s.drawn) (ch:=[]) (fun _ z=>nomatch z) (fun b o _ hb _ e n=>u.keep b o e n hb (by simp)) (fun b o _ hb _ e n=>u.slot b o e n hb (by simp)) (fun b o _ e n=>u.free b o e n (by simp)) (fun b o _ e=>u.there b o e (by simp)) u.tups u.gO u.i8 (fun m' hm=>by
  obtain⟨o',es',ep',ho',r'⟩:=hm;rw[ho]at ho';cases ho'
  exact⟨_,es',ep',hL,r'⟩) hok I.bare
theorem Inv.call{g':Array GenState}{t':Nat}{d':Drawn}{ch:List Addr}(I:Inv X pins σ H s)(u:Un (frs X.stack) ch H H' s.heap h')(hok:iS X.prog X.w H' h')(hg:AllBare g')
  (hch:∀ b∈ch,(b∈X.ex\/X.s₀.heap.objs.size<=b)/\b≠X.env.locals/\(∀ x c,X.env.cells.lookup x=some c->c≠b)/\∀ p∈X.pn++pins,p.1≠b) :
  Inv X pins σ H' { s with heap:=h',gens:=g',drawn:=d',toks:=t' }:=by
 obtain⟨m,⟨o,es,ep,ho,r⟩,_⟩:=id I.loc;obtain⟨sl,hL⟩:=u.any ho I.free fun z=>(hch _ z).2.1 rfl
 exact I.step (ch:=ch) hch (fun b o hL hb hc e n=>u.keep b o e n (fun z=>(List.mem_cons.mp (I.lZ b z)).elim hL hb) hc) (fun b o _ _ hc e n=>u.any e n hc) (fun b o hc e n=>u.free b o e n hc) (fun b o hc e=>u.there b o e hc) u.tups u.gO u.i8 (fun m' hm=>by
  obtain⟨o',es',ep',ho',r'⟩:=hm;rw[ho]at ho';cases ho'
  exact⟨_,es',ep',hL,r'⟩) hok hg
theorem Inv.turned{t':Nat}{it:Addr}(I:Inv X pins σ H s)(k:∀ b o,b≠it->s.heap.get? b=some o->h'.get? b=some o)(hn:H it=none)(hL:it≠X.env.locals)
  (h1:it∈X.ex\/X.s₀.heap.objs.size<=it) (h2:∀ x c,X.env.cells.lookup x=some c->c≠it) (h3:∀ p∈X.pn++pins,p.1≠it):Inv X pins σ H { s with heap:=h',toks:=t' }:=by
 have NS:∀ b u,H b=some u->b≠it:=fun b u e z=>by rw[z,hn]at e;cases e
 refine I.step (g':=s.gens) (d':=s.drawn) (ch:=[it]) (fun b hb => ?_) (fun b o _ _ hc e _=>k b o (fun z=>hc (by simp[z])) e) (fun b o _ _ hc e _=>⟨o.slots,k b o (fun z=>hc (by simp[z])) e⟩) (fun _ _ _ _ n=>n)
  (fun b o hc e=>⟨o,k b o (fun z=>hc (by simp[z])) e⟩) (fun _ _ e=>e) (fun _ _ _ e=>e) (fun b ps e=>⟨#[],by rw[e];simp⟩) (fun m hm => ?_) (fun b u e => ?_) I.bare
 ·have e:b=it:=by simpa using hb
  subst e;exact⟨h1,hL,h2,h3⟩
 ·obtain⟨o,es,ep,ho,r⟩:=hm
  exact⟨o,es,ep,k _ o (Ne.symm hL) ho,r⟩
 ·refine(I.hok b u e).stay (fun c v hc q=>k c v ?_ q) (fun _ q=>q) fun _ _ q=>q
  rcases hc with z | z
  ·rw[z];exact NS b u e
  ·exact NS c _ z
theorem Inv.tok(I:Inv X pins σ H s)(t:Nat):Inv X pins σ H { s with toks:=t }:=I.un (h':=s.heap) (t':=t) Un.refl I.hok
theorem Inv.kept{t':Nat}(I:Inv X pins σ H s)(k:∀ b u,s.heap.get? b=some u->h'.get? b=some u):Inv X pins σ H { s with heap:=h',toks:=t' }:=I.un (Un.kept k) (I.hok.kept k)
theorem Inv.laid{a:Addr}{o:HO}{t':Nat}(I:Inv X pins σ H s)(k:∀ b u,s.heap.get? b=some u->h'.get? b=some u)(hp:s.heap.objs.size<=a)(new:cy X.prog X.w (upd H a o) h' a o) :
  Inv X pins σ (upd H a o) { s with heap:=h',toks:=t' }:=I.un (Un.laid k hp (I.hok.fresh hp)) (I.hok.laid k hp new)
theorem Inv.write{x e:Addr}{o:HO}{t':Nat}(I:Inv X pins σ H s)(mu:HX (H x))(he:e=x\/H e=some (.own x))(k:∀ b u,b≠e->s.heap.get? b=some u->h'.get? b=some u)(heo:∃ u,h'.get? e=some u)
  (new:cy X.prog X.w (upd H x o) h' x o):Inv X pins σ (upd H x o) { s with heap:=h',toks:=t' }:=I.un (Un.write mu he k heo) (I.hok.write mu he k heo new)
theorem Inv.weak{σ':List (Option V)}(I:Inv X pins σ H s)(hl:σ'.length=σ.length)(w:∀ (i:Nat) v,σ'[i]?=some (some v)->σ[i]?=some (some v)):Inv X pins σ' H s:=
 ⟨I.ok,I.os,I.bare,I.base,let ⟨m,hn,hl'⟩:=I.loc;⟨m,hn,fun i x v e1 e2 e3=>hl' i x v e1 (w i v e2) e3⟩,I.cell,I.free,I.cX,I.pin,I.hok,hl.trans I.len⟩
theorem Inv.qO{Ax:List (Addr×Obj)}(I:Inv X pins σ H s)(h:∀ p∈Ax,s.heap.get? p.1=some p.2/\H p.1=none/\p.1≠X.env.locals/\p.1∉X.fs/\∀ v,p.2.data≠.cell v):Inv X Ax σ H s:=
 ⟨I.ok,I.os,I.bare,I.base,I.loc,I.cell,I.free,I.cX,fun p hp=>(List.mem_append.mp hp).elim (fun z=>I.pin p (List.mem_append_left _ z)) (h p),I.hok,I.len⟩
theorem nR{N:List Str}(hN:N.Nodup){i j:Nat}{x:Str}(a:N[i]?=some x)(b:N[j]?=some x):i=j:=by
 obtain⟨h1,e1⟩:=List.getElem?_eq_some_iff.mp a;obtain⟨h2,e2⟩:=List.getElem?_eq_some_iff.mp b;exact(List.getElem_inj hN).mp (e1.trans e2.symm)
theorem la{M:Model}{A:Around}{E:Value->Shared->Prop}{i:Nat}{x:Str}{v:V}{u:Value}{Q:Unit->Shared->Prop}(I:Inv X pins σ H s)(hN:X.N.Nodup)(hi:X.N[i]?=some x)(hx:Loc X.env.scope x)(r:RelV v u)
  (h:∀ s',Inv X pins (σ.set i (some v)) H s'->(∃ a,Heap.SameBut a s.heap s'.heap/\(a=X.env.locals\/X.env.cells.lookup x=some a))->Q () s') (hf:X.fn x=true\/X.env.scope.names.lookup x=some .local:=by first | exact .inl rfl | exact .inr rfl | assumption):wpAny M A (storeName X.env x u) Q E s:=by
 obtain⟨m,hn,hl⟩:=id I.loc;have hcls:(X.env.scope.kind == .class || (X.env.scope.kind == .module && X.env.locals != X.env.globals))=false:=by rw[I.ok.kind];rfl
 have Eh:i < σ.length:=by rw[I.len];exact(List.getElem?_eq_some_iff.mp hi).1
 have xM:=I.xM
 have tracked:∀ {a:Addr} {h':Heap},(∃ o,s.heap.get? a=some o/\H a=none)->Heap.SameBut a s.heap h'->iS X.prog X.w H h':=fun {a h'} ha hs b ob e=>by
  obtain⟨_,_,hfree⟩:=ha;refine(I.hok b ob e).stay (fun c w' hc q=>(hs.2 c ?_).trans q) (fun _ q=>q) fun _ _ q=>q
  rintro rfl;rcases hc with rfl | hc
  ·rw[hfree]at e;cases e
  ·rw[hfree]at hc;cases hc
 rcases hx with hk | hk
 ·refine wpAny_storeName_local hk hn (fun h' hn' hs => ?_) hcls
  obtain⟨oL,_,_,hoL,_⟩:=id hn;refine h _ ⟨I.ok,I.os,I.bare,⟨fun b o e n hb hx => ?_,fun b o e n hb hx => ?_,I.base.free,fun b o e hx => ?_,I.base.tups,I.base.gO,I.base.i8⟩,⟨_,hn',fun j y v' e1 e2 e3 => ?_⟩,fun y c e => ?_,I.free,I.cX,fun p hp => ?_,tracked ⟨oL,hoL,I.free⟩ hs,by simpa using I.len⟩ ⟨_,hs,.inl rfl⟩
  ·exact(hs.2 b (Nat.ne_of_lt (Nat.lt_of_lt_of_le (Heap.lt_size e) I.ok.above))).trans (I.base.keep b o e n hb hx)
  ·obtain⟨sl,e1⟩:=I.base.slot b o e n hb hx
   exact⟨sl,(hs.2 b (Nat.ne_of_lt (Nat.lt_of_lt_of_le (Heap.lt_size e) I.ok.above))).trans e1⟩
  ·obtain⟨o',e1⟩:=I.base.there b o e hx
   exact⟨o',(hs.2 b (Nat.ne_of_lt (Nat.lt_of_lt_of_le (Heap.lt_size e) I.ok.above))).trans e1⟩
  ·by_cases hj:j=i
   ·subst hj
    rw[hi]at e1;cases e1
    rw[List.getElem?_set_self Eh]at e2;cases e2;exact⟨u,r,.inl ⟨hk,by simp⟩⟩
   ·rw[List.getElem?_set_ne (Ne.symm hj)]at e2
    obtain⟨u',r',q⟩:=hl j y v' e1 e2 e3;refine⟨u',r',?_⟩;rcases q with ⟨k,e⟩ | ⟨k,c,e,z⟩
    ·refine .inl ⟨k,?_⟩
     have:y≠x:=fun e=>hj (nR hN e1 (e▸hi))
     simp[this,e]
    ·exact .inr ⟨k,c,e,z.sameBut hs (xM y c e)⟩
  ·obtain⟨w',z⟩:=I.cell y c e
   exact⟨w',z.sameBut hs (xM y c e)⟩
  ·obtain⟨e,n,ne,nf,d⟩:=I.pin p hp
   exact⟨(hs.2 p.1 ne).trans e,n,ne,nf,d⟩
 ·have hfn:X.fn x=true:=by
   rcases hf with z | z
   ·exact z
   ·rw[z]at hk;cases hk
  obtain⟨c,hc⟩:=I.ok.has x (.inl hk);obtain⟨w',z⟩:=I.cell x c hc;refine wpAny_storeName_cell I.ok.kind hk hc z (fun h' hc' hs => ?_)
  obtain⟨oc,hoc,J0⟩:=id z;refine h { s with heap:=h' } ⟨I.ok,I.os,I.bare,⟨fun b o e n hb hx => ?_,fun b o e n hb hx => ?_,I.base.free,fun b o e hx => ?_,I.base.tups,I.base.gO,I.base.i8⟩,⟨m,hn.sameBut hs (Ne.symm (xM x c hc)),fun j y v' e1 e2 e3 => ?_⟩,fun y c' e => ?_,I.free,I.cX,fun p hp => ?_,tracked ⟨oc,hoc,(I.cX x c hc).2 hfn⟩ hs,by simpa using I.len⟩ ⟨c,hs,.inr hc⟩
  ·exact(hs.2 b (Nat.ne_of_lt (Nat.lt_of_lt_of_le (Heap.lt_size e) (I.ok.cab x c hfn hc)))).trans (I.base.keep b o e n hb hx)
  ·obtain⟨sl,e1⟩:=I.base.slot b o e n hb hx
   exact⟨sl,(hs.2 b (Nat.ne_of_lt (Nat.lt_of_lt_of_le (Heap.lt_size e) (I.ok.cab x c hfn hc)))).trans e1⟩
  ·obtain⟨o',e1⟩:=I.base.there b o e hx
   exact⟨o',(hs.2 b (Nat.ne_of_lt (Nat.lt_of_lt_of_le (Heap.lt_size e) (I.ok.cab x c hfn hc)))).trans e1⟩
  ·by_cases hj:j=i
   ·subst hj
    rw[hi]at e1;cases e1
    rw[List.getElem?_set_self Eh]at e2;cases e2;exact⟨u,r,.inr ⟨.inl hk,c,hc,hc'⟩⟩
   ·rw[List.getElem?_set_ne (Ne.symm hj)]at e2
    obtain⟨u',r',q⟩:=hl j y v' e1 e2 e3;refine⟨u',r',?_⟩;rcases q with q | ⟨k,c',e,z'⟩
    ·exact .inl q
    ·refine .inr ⟨k,c',e,z'.sameBut hs ?_⟩
     rintro rfl;exact hj (nR hN e1 (I.ok.inj _ _ _ e hc▸hi))
  ·by_cases hcc:c'=c
   ·subst hcc;exact⟨_,hc'⟩
   ·obtain⟨w2,z2⟩:=I.cell y c' e
    exact⟨w2,z2.sameBut hs hcc⟩
  ·obtain⟨e,n,ne,nf,d⟩:=I.pin p hp
   refine⟨(hs.2 p.1 ?_).trans e,n,ne,nf,d⟩;intro q;rw[q,hoc]at e;have q':oc=p.2:=Option.some.inj e;exact d w' (by rw[← q'];exact J0)
theorem jE{M:Model}{A:Around}{E:Value->Shared->Prop}{i:Nat}{x:Str}{v:V}{u:Value}{Q:Unit->Shared->Prop}(I:Inv X pins σ H s)(hN:X.N.Nodup)(hi:X.N[i]?=some x)(hx:Loc X.env.scope x)(r:RelV v u)
  (h:∀ s',Inv X pins (σ.set i (some v)) H s'->Q () s') (hf:X.fn x=true\/X.env.scope.names.lookup x=some .local:=by first | exact .inl rfl | exact .inr rfl | assumption):wpAny M A (storeName X.env x u) Q E s:=
 la I hN hi hx r (fun s' I' _=>h s' I') hf
theorem Inv.call'{s':Shared}{ch:List Addr}(I:Inv X pins σ H s)(ho:s'.os=s.os)(u:Un (frs X.stack) ch H H' s.heap s'.heap)(hok:iS X.prog X.w H' s'.heap)(hg:AllBare s'.gens)
  (hch:∀ b∈ch,(b∈X.ex\/X.s₀.heap.objs.size<=b)/\b≠X.env.locals/\(∀ x c,X.env.cells.lookup x=some c->c≠b)/\∀ p∈X.pn++pins,p.1≠b):Inv X pins σ H' s':=by
 obtain⟨h',g',d',t',o'⟩:=s';have e:o'=s.os:=ho;subst e;exact I.call (g':=g') (t':=t') (d':=d') u hok hg hch
end
abbrev XK:=Value->Option Addr->Hp->Prop
abbrev St:=List (Option V)
abbrev VK:=V->Hp->Prop
abbrev TE:=St->Hp->VK->Prop
abbrev TT:=St->Hp->(Bool->Hp->Prop)->Prop
abbrev TA:=St->Hp->(List V->Hp->Prop)->Prop
structure Ends where
 nx:St->Hp->Prop
 rt:VK
 bk:St->Hp->Prop:=fun _ _=>False
 ct:St->Hp->Prop:=fun _ _=>False
abbrev TS:=Ends->St->Hp->Prop
def EP(X:Cx)(pins:List (Addr×Obj))(σ:St)(Q:VK)(u:Value)(s':Shared):Prop:=∃ v H',Inv X pins σ H' s'/\RelV v u/\Q v H'
def TP(X:Cx)(pins:List (Addr×Obj))(σ:St)(Q:Bool->Hp->Prop)(b:Bool)(s':Shared):Prop:=∃ H',Inv X pins σ H' s'/\Q b H'
def AP(X:Cx)(pins:List (Addr×Obj))(σ:St)(Q:List V->Hp->Prop)(us:List Value)(s':Shared):Prop:=∃ vs H',Inv X pins σ H' s'/\Vals vs us/\Q vs H'
def SP(X:Cx)(pins:List (Addr×Obj))(D:Ends)(f:Flow)(s':Shared):Prop:=
 match f with
 | .next=>∃ σ' H',Inv X pins σ' H' s'/\D.nx σ' H'
 | .brk=>∃ σ' H',Inv X pins σ' H' s'/\D.bk σ' H'
 | .cont=>∃ σ' H',Inv X pins σ' H' s'/\D.ct σ' H'
 | .ret u=>∃ v σ' H',Inv X pins σ' H' s'/\RelV v u/\D.rt v H'
def PE(X:Cx)(e:Expr)(t:TE):Prop:=
 ∀ (pins:List (Addr×Obj)) (s:Shared) (σ:St) (H:Hp) (Q:VK),Inv X pins σ H s->t σ H Q->wpAny (model X.prog X.w) X.A (eval e X.env) (EP X pins σ Q) X.xe s
def PT(X:Cx)(e:Expr)(t:TT):Prop:=
 ∀ (pins:List (Addr×Obj)) (s:Shared) (σ:St) (H:Hp) (Q:Bool->Hp->Prop),Inv X pins σ H s->t σ H Q->wpAny (model X.prog X.w) X.A (isTrue e X.env (eval e X.env)) (TP X pins σ Q) X.xe s
def PW(X:Cx)(e:Expr)(t:TT):Prop:=
 ∀ (whole:Sem Value) (pins:List (Addr×Obj)) (s:Shared) (σ:St) (H:Hp) (Q:Bool->Hp->Prop),Inv X pins σ H s->t σ H Q->wpAny (model X.prog X.w) X.A (isTrue e X.env whole) (TP X pins σ Q) X.xe s
theorem PW.pt{X:Cx}{e:Expr}{t:TT}(h:PW X e t):PT X e t:=h _
def PA(X:Cx)(es:List Expr)(t:TA):Prop:=
 ∀ (pos:Pos) (pins:List (Addr×Obj)) (s:Shared) (σ:St) (H:Hp) (Q:List V->Hp->Prop),Inv X pins σ H s->t σ H Q->wpAny (model X.prog X.w) X.A (spliced (backTo pos (starEach es X.env))) (AP X pins σ Q) X.xe s
def PS(X:Cx)(st:Stmt)(t:TS):Prop:=
 ∀ (pins:List (Addr×Obj)) (s:Shared) (σ:St) (H:Hp) (D:Ends),Inv X pins σ H s->t D σ H->wpAny (model X.prog X.w) X.A (exec st X.env) (SP X pins D) X.xe s
def gZ(X:Cx)(st:List Stmt)(t:TS):Prop:=
 ∀ (pins:List (Addr×Obj)) (s:Shared) (σ:St) (H:Hp) (D:Ends),Inv X pins σ H s->t D σ H->wpAny (model X.prog X.w) X.A (execs st X.env) (SP X pins D) X.xe s
theorem bU{α:Type}{t:Sem α}{Q Q':α->Shared->Prop}{M:Model}{A:Around}{E:Value->Shared->Prop}{s:Shared}(h:wpAny M A t Q E s)(hQ:∀ a s,Q a s->Q' a s):wpAny M A t Q' E s:=wpAny_mono h hQ fun _ _ x=>x
section
variable{X:Cx}
noncomputable def J7(i:Nat):TE:=fun σ H Q=>∃ v,σ[i]?=some (some v)/\Q v H
noncomputable def tC(v:V):TE:=fun _ H Q=>Q v H
theorem gP{i:Nat}{x:Str}{pos:Pos}(hN:X.N[i]?=some x)(hv:uu X.env.scope x)(hd:(x == ("__debug__":Str))=false:=by decide)(hcd:(x == ("__classdict__":Str))=false:=by decide):PE X (.Name x pos) (J7 i):=by
 intro pins s σ H Q I h;obtain⟨v,e,h⟩:=h;obtain⟨m,hn,hl⟩:=I.loc;obtain⟨u,r,l⟩:=hl i x v hN e hv;have fin:EP X pins σ Q u s:=⟨v,H,I,r,h⟩;rcases l with ⟨hk,hm⟩ | ⟨hk,c,hc,hcell⟩
 ·exact wpAny_Name (wpAny_loadName_local I.ok.kind hk hn hm fin) hd
 ·rcases hk with hk | hk
  ·exact wpAny_Name (wpAny_loadName_cell I.ok.kind hk hc hcell fin) hd
  ·exact wpAny_Name (wpAny_loadName_free I.ok.kind hk hc hcell fin hcd) hd
theorem Bh{i j pos}:PE X (.Constant (.int i) j pos) (tC (.int i)):=fun _ _ _ H _ I h=>wpAny_Constant_int ⟨.int i,H,I.tok _,⟨_,rfl⟩,h⟩
theorem Ay{b j pos}:PE X (.Constant (.bool b) j pos) (tC (.bl b)):=fun _ _ _ H _ I h=>Constant_bool ⟨.bl b,H,I,rfl,h⟩
theorem uB{j pos}:PE X (.Constant .none j pos) (tC .non):=fun _ _ _ H _ I h=>Constant_none ⟨.non,H,I,rfl,h⟩
theorem Bi{x j pos}:PE X (.Constant (.str x) j pos) (tC (.str x)):=fun _ _ _ H _ I h=>Calls.Constant_str ⟨.str x,H,I.tok _,⟨_,rfl⟩,h⟩
def Gl(X:Cx)(x:Str):Prop:=X.env.kindOf x=some .globalImplicit
theorem fi{E:Value->Shared->Prop}{pins:List (Addr×Obj)}{s:Shared}{σ:St}{H:Hp}{x:Str}{u:Value}{pos:Pos}{Q:Value->Shared->Prop}(I:Inv X pins σ H s)(hg:Gl X x)(hm:X.mg x=some u)(h:Q u s)
  (hd:(x == ("__debug__":Str))=false:=by decide):wpAny (model X.prog X.w) X.A (eval (.Name x pos) X.env) Q E s:=
 Calls.Name_function_global I.ok.kind hg (Calls.loadGlobal_global (by rw[I.ok.glob];exact I.mod.glob.keeps I.bk) hm h) hd
theorem dF{E:Value->Shared->Prop}{pins:List (Addr×Obj)}{s:Shared}{σ:St}{H:Hp}{x:Str}{u:Value}{pos:Pos}{Q:Value->Shared->Prop}(I:Inv X pins σ H s)(hg:Gl X x)(hm:X.mg x=none)(hv:bootBuiltins x=some u)(h:Q u s)
  (hn:x≠"__name__":=by decide) (hd:(x == ("__debug__":Str))=false:=by decide):wpAny (model X.prog X.w) X.A (eval (.Name x pos) X.env) Q E s:=by
 obtain⟨mb,h1,h2⟩:=I.mod.blt;exact Calls.Name_function_global I.ok.kind hg (Calls.loadGlobal_builtin (by rw[I.ok.glob];exact I.mod.glob.keeps I.bk) hm (by rw[I.ok.blt];exact h1.keeps I.bk) ((h2 x hn).trans hv) h) hd
theorem xW{x:Str}{v:V}{u:Value}{pos:Pos}(hg:Gl X x)(hm:X.mg x=some u)(r:RelV v u)(hd:(x == ("__debug__":Str))=false:=by decide):PE X (.Name x pos) (tC v):=
 fun _ _ _ H _ I h=>fi I hg hm ⟨v,H,I,r,h⟩ hd
theorem xX{x:Str}{v:V}{u:Value}{pos:Pos}(hg:Gl X x)(hm:X.mg x=none)(hv:bootBuiltins x=some u)(r:RelV v u)(hn:x≠"__name__":=by decide)(hd:(x == ("__debug__":Str))=false:=by decide):PE X (.Name x pos) (tC v):=
 fun _ _ _ H _ I h=>dF I hg hm hv ⟨v,H,I,r,h⟩ hn hd
variable{a b:Expr}{ta tb:TE}{pos:Pos}
noncomputable def tB(t:TE):TT:=fun σ H Q=>t σ H fun x H1=>∃ c,x=.bl c/\Q c H1
theorem pC{e:Expr}{t:TE}(h:PE X e t)(he:∀ whole,isTrue e X.env whole=(do let v ← whole;standAt e.pos;holding [v] (truthy v)):=by intro _;rfl):PT X e (tB t):=by
 intro pins s σ H Q I hw;refine isTrue_plain (bU (h pins s σ H _ I hw) fun v s1 ⟨x,H1,I1,r1,q1⟩ => ?_) (he _)
 obtain⟨d,rfl,q⟩:=q1;cases r1;exact wpAny_truthy_bool ⟨H1,I1,q⟩
variable{tA HZ:TT}{rest:List Expr}
noncomputable def J8(t u:TT):TT:=fun σ H Q=>t σ H fun c H1=>if c=true then u σ H1 Q else Q false H1
noncomputable def PQ(t u:TT):TT:=fun σ H Q=>t σ H fun c H1=>if c=true then Q true H1 else u σ H1 Q
noncomputable def J9(t:TT):TT:=fun σ H Q=>t σ H fun c H1=>Q (!c) H1
theorem pw_and1(ha:PT X a tA):PW X (.BoolOp .And [a] pos) tA:=by
 intro wh pins s σ H Q I h;refine isTrue_and (bU (ha pins s σ H Q I h) fun c s1 e => ?_)
 cases c with
 | true=>exact isTrue_and_nil e
 | false=>exact e
theorem pw_or1(ha:PT X a tA):PW X (.BoolOp .Or [a] pos) tA:=by
 intro wh pins s σ H Q I h;refine isTrue_or (bU (ha pins s σ H Q I h) fun c s1 e => ?_)
 cases c with
 | false=>exact isTrue_or_nil e
 | true=>exact e
theorem pw_and(ha:PT X a tA)(hb:PW X (.BoolOp .And (b::rest) pos) HZ):PW X (.BoolOp .And (a::b::rest) pos) (J8 tA HZ):=by
 intro wh pins s σ H Q I h;refine isTrue_and (bU (ha pins s σ H _ I h) fun c s1 ⟨H1,I1,q1⟩ => ?_)
 cases c with
 | true=>exact hb wh pins s1 σ H1 Q I1 q1
 | false=>exact⟨H1,I1,q1⟩
theorem pw_or(ha:PT X a tA)(hb:PW X (.BoolOp .Or (b::rest) pos) HZ):PW X (.BoolOp .Or (a::b::rest) pos) (PQ tA HZ):=by
 intro wh pins s σ H Q I h;refine isTrue_or (bU (ha pins s σ H _ I h) fun c s1 ⟨H1,I1,q1⟩ => ?_)
 cases c with
 | true=>exact⟨H1,I1,q1⟩
 | false=>exact hb wh pins s1 σ H1 Q I1 q1
theorem Bj(ha:PT X a tA):PT X (.UnaryOp .Not a pos) (J9 tA):=by
 intro pins s σ H Q I h;exact isTrue_not (ha pins s σ H (fun c H1=>Q (!c) H1) I h)
theorem Bk{op}{t:TE}(h:PE X a t):PE X (.BoolOp op [a] pos) t:=fun pins s σ H Q I hw=>BoolOp_one (h pins s σ H Q I hw)
noncomputable def DQ(t:TT)(ta tb:TE):TE:=fun σ H Q=>t σ H fun c H1=>if c=true then ta σ H1 Q else tb σ H1 Q
theorem uC{c:Expr}(hc:PT X c tA)(ha:PE X a ta)(hb:PE X b tb):PE X (.IfExp c a b pos) (DQ tA ta tb):=by
 intro pins s σ H Q I h;refine wpAny_IfExp (bU (hc pins s σ H _ I h) fun d s1 ⟨H1,I1,q1⟩ => ?_)
 cases d with
 | true=>exact ha pins s1 σ H1 Q I1 q1
 | false=>exact hb pins s1 σ H1 Q I1 q1
end
def jg(K:PySem.W.Frag)(H:Hp)(a:Addr)(xs:List V):Prop:=
 Rd H a (.lst xs) \/
  ∃ (o:Obj) (its:Array Value) (n:Nat),K.lookup a=some o/\o.cls=.type "list"/\o.dict=none/\o.data=.seq its n/\its.size<=sizeLine/\Vals xs its.toList
def fH(K:PySem.W.Frag)(H:Hp)(a:Addr)(xs:List V):Prop:=
 Rd H a (.tup xs) \/
  ∃ (o:Obj) (its:Array Value) (n:Nat),K.lookup a=some o/\o.cls=.type "tuple"/\o.data=.seq its n/\its.size<=sizeLine/\Vals xs its.toList
noncomputable def J_:Value->Option V
 | .none=>some .non
 | .bool b=>some (.bl b)
 | .int i _=>some (.int i)
 | .str x _=>some (.str x)
 | .bytes b _=>some (.DM b)
 | .float b _=>some (.flt b)
 | .ref a=>some (.ref a)
 | .type n=>some (.ty n)
 | _=>none
theorem RelV.abs{x:V}{u:Value}(r:RelV x u):J_ u=some x:=by
 cases x with
 | non=>cases r;rfl
 | bl _=>cases r;rfl
 | int _=>obtain⟨t,rfl⟩:=r;rfl
 | str _=>obtain⟨t,rfl⟩:=r;rfl
 | DM _=>obtain⟨t,rfl⟩:=r;rfl
 | flt _=>obtain⟨t,rfl⟩:=r;rfl
 | ref _=>cases r;rfl
 | ty _=>cases r;rfl
theorem RelV.inj{x y:V}{u:Value}(r:RelV x u)(q:RelV y u):x=y:=Option.some.inj (r.abs.symm.trans q.abs)
theorem Vals.inj:∀ {xs ys:List V} {us:List Value},Vals xs us->Vals ys us->xs=ys
 | _,_,_,.nil,.nil=>rfl
 | _,_,_,.cons r t,.cons r' t'=>by rw[r.inj r',Vals.inj t t']
section
variable{X:Cx}{pins:List (Addr×Obj)}{σ:St}{H:Hp}{s:Shared}{a:Addr}{xs ys:List V}
theorem fH.of{K:PySem.W.Frag}(h:H a=some (.tup xs)):fH K H a xs:=.inl (.inl h)
theorem Inv.list(I:Inv X pins σ H s)(h:jg X.K H a xs):∃ its:List Value,Vals xs its/\PlainL s.heap a its.toArray/\xs.length<=sizeLine:=by
 rcases h with h | ⟨o,its,n,hk,hc,hd,hs,hz,r⟩
 ·obtain⟨z,its,n,r,e⟩:=h.ok I.hok
  exact⟨its,r,⟨_,n,e,rfl,rfl,rfl⟩,z⟩
 ·refine⟨its.toList,r,⟨o,n,I.fG a o hk,hc,hd,by simpa using hs⟩,?_⟩
  have e:=r.length;simp only[Array.length_toList]at e;omega
theorem Inv.tuple(I:Inv X pins σ H s)(h:fH X.K H a xs):∃ its:List Value,Vals xs its/\IsTup s.heap a its.toArray/\xs.length<=sizeLine:=by
 rcases h with h | ⟨o,its,n,hk,hc,hs,hz,r⟩
 ·obtain⟨z,its,r,p⟩:=h.ok I.hok
  exact⟨its,r,p,z⟩
 ·refine⟨its.toList,r,⟨o,I.fG a o hk,hc,n,by simpa using hs⟩,?_⟩
  have e:=r.length;simp only[Array.length_toList]at e;omega
theorem Inv.nS(I:Inv X pins σ H s)(h:jg X.K H a xs)(h':jg X.K H a ys):xs=ys:=by
 obtain⟨its,r,⟨o,n,e,_,_,d⟩,_⟩:=I.list h;obtain⟨its',r',⟨o',n',e',_,_,d'⟩,_⟩:=I.list h';rw[e]at e';cases e'
 rw[d]at d';injection d' with d1 _;have:its=its':=by simpa using congrArg Array.toList d1
 subst this;exact r.inj r'
theorem Inv.lb(I:Inv X pins σ H s)(h:fH X.K H a xs)(h':fH X.K H a ys):xs=ys:=by
 obtain⟨its,r,⟨o,e,_,n,d⟩,_⟩:=I.tuple h;obtain⟨its',r',⟨o',e',_,n',d'⟩,_⟩:=I.tuple h';rw[e]at e';cases e'
 rw[d]at d';injection d' with d1 _;have:its=its':=by simpa using congrArg Array.toList d1
 subst this;exact r.inj r'
end
abbrev Cx.wish(X:Cx)(E:Value->Shared->Prop):Cx:={ X with xe:=E }
abbrev Cx.iT(X:Cx):Cx:=X.wish fun _ _=>False
theorem Cx.Ok.wish{X:Cx}(ok:X.Ok)(E:Value->Shared->Prop):(X.wish E).Ok:=
 ⟨ok.mod,ok.kind,ok.glob,ok.blt,ok.above,ok.inj,ok.has,ok.cab,ok.hd,ok.frames,ok.Av,ok.Bg,ok.bs,ok.sS,ok.nP,ok.nQ,ok.fN,ok.uA⟩
theorem Cx.Ok.eO{X:Cx}{E:Value->Shared->Prop}(ok:(X.wish E).Ok):X.Ok:=
 ⟨ok.mod,ok.kind,ok.glob,ok.blt,ok.above,ok.inj,ok.has,ok.cab,ok.hd,ok.frames,ok.Av,ok.Bg,ok.bs,ok.sS,ok.nP,ok.nQ,ok.fN,ok.uA⟩
section
variable{X:Cx}{pins:List (Addr×Obj)}{σ:St}{H:Hp}{s:Shared}{E:Value->Shared->Prop}
theorem Inv.wish(I:Inv X pins σ H s)(E:Value->Shared->Prop):Inv (X.wish E) pins σ H s:=⟨I.ok.wish E,I.os,I.bare,I.base,I.loc,I.cell,I.free,I.cX,I.pin,I.hok,I.len⟩
theorem Inv.eO(I:Inv (X.wish E) pins σ H s):Inv X pins σ H s:=⟨I.ok.eO,I.os,I.bare,I.base,I.loc,I.cell,I.free,I.cX,I.pin,I.hok,I.len⟩
theorem SP.eO{D:Ends}{f:Flow}{s':Shared}(h:SP (X.wish E) pins D f s'):SP X pins D f s':=by
 cases f with
 | next=>obtain⟨σ',H',I,q⟩:=h;exact⟨σ',H',I.eO,q⟩
 | brk=>obtain⟨σ',H',I,q⟩:=h;exact⟨σ',H',I.eO,q⟩
 | cont=>obtain⟨σ',H',I,q⟩:=h;exact⟨σ',H',I.eO,q⟩
 | ret u=>obtain⟨v,σ',H',I,r,q⟩:=h;exact⟨v,σ',H',I.eO,r,q⟩
theorem gZ.iT{st:List Stmt}{t:TS}(h:gZ X.iT st t):gZ X st t:=fun pins s σ H D I hw=>
 wpAny_mono (h pins s σ H D (I.wish _) hw) (fun _ _ q=>q.eO) fun _ _ z=>False.elim z
end
section
variable{X:Cx}{st:Stmt}{rest:List Stmt}{t u:TS}{e:Expr}{te:TE}{pos:Pos}
noncomputable def Ei:TS:=fun D σ H=>D.nx σ H
noncomputable def Ka(t u:TS):TS:=fun D σ H=>t { D with nx:=u D } σ H
theorem l0:gZ X [] Ei:=fun _ _ σ H _ I h=>wpAny_execs_nil ⟨σ,H,I,h⟩
theorem nT(h1:PS X st t)(h2:gZ X rest u):gZ X (st::rest) (Ka t u):=by
 intro pins s σ H D I h;refine wpAny_execs_cons (bU (h1 pins s σ H { D with nx:=u D } I h) fun f s1 q => ?_)
 cases f with
 | next=>
  obtain⟨σ',H',I',q⟩:=q;exact h2 pins s1 σ' H' D I' q
 | ret v=>exact q
 | brk=>exact q
 | cont=>exact q
theorem jh(h1:PS X st t):gZ X [st] t:=by
 intro pins s σ H D I h;refine wpAny_execs_cons (bU (h1 pins s σ H D I h) fun f s1 q => ?_)
 cases f with
 | next=>exact wpAny_execs_nil q
 | ret v=>exact q
 | brk=>exact q
 | cont=>exact q
theorem Inv.quiet{pins:List (Addr×Obj)}{σ:St}{H:Hp}{s:Shared}(I:Inv X pins σ H s):interactive X.env=false:=by simp[interactive,I.ok.kind]
noncomputable def Ej(te:TE):TS:=fun D σ H=>te σ H fun _ H1=>D.nx σ H1
theorem xY(he:PE X e te)(hs:swapsWith e none pos.line X.env=pure false:=by rfl):PS X (.Expr e pos) (Ej te):=by
 intro pins s σ H D I h;exact wpAny_Expr_any (bU (he pins s σ H _ I h) fun v s1 ⟨x,H1,I1,r1,q1⟩=>⟨σ,H1,I1,q1⟩) I.quiet hs
noncomputable def Kb(te:TE):TS:=fun D σ H=>te σ H D.rt
theorem l4(he:PE X e te):PS X (.Return (some e) pos) (Kb te):=by
 intro pins s σ H D I h;exact wpAny_Return_some (bU (he pins s σ H _ I h) fun v s1 ⟨x,H1,I1,r1,q1⟩=>⟨x,σ,H1,I1,r1,q1⟩)
noncomputable def Kc(c:TT)(t u:TS):TS:=fun D σ H=>c σ H fun b H1=>if b=true then t D σ H1 else u D σ H1
theorem uD{c:Expr}{a b:List Stmt}{tc:TT}(hc:PT X c tc)(ha:gZ X a t)(hb:gZ X b u):PS X (.If c a b pos) (Kc tc t u):=by
 intro pins s σ H D I h;refine wpAny_If (bU (hc pins s σ H _ I h) fun d s1 ⟨H1,I1,q1⟩ => ?_)
 cases d with
 | true=>exact ha pins s1 σ H1 D I1 q1
 | false=>exact hb pins s1 σ H1 D I1 q1
end
abbrev TG:=V->St->Hp->(St->Hp->Prop)->Prop
abbrev Az:=List V->St->Hp->(St->Hp->Prop)->Prop
def PG(X:Cx)(target:Expr)(t:TG):Prop:=
 ∀ (pins:List (Addr×Obj)) (s:Shared) (σ:St) (H:Hp) (v:V) (u:Value) (Q:St->Hp->Prop),Inv X pins σ H s->RelV v u->t v σ H Q ->
  wpAny (model X.prog X.w) X.A (assign target X.env u) (fun _ s'=>∃ σ' H',Inv X pins σ' H' s'/\Q σ' H') X.xe s
def Ek(X:Cx)(ts:List Expr)(t:Az):Prop:=
 ∀ (pins:List (Addr×Obj)) (s:Shared) (σ:St) (H:Hp) (vs:List V) (us:List Value) (Q:St->Hp->Prop),Inv X pins σ H s->Vals vs us->t vs σ H Q ->
  wpAny (model X.prog X.w) X.A (assignInOrder ((assignEach ts X.env).map (·.2)) us) (fun _ s'=>∃ σ' H',Inv X pins σ' H' s'/\Q σ' H') X.xe s
section
variable{X:Cx}{pos:Pos}
noncomputable def gF(i:Nat):TG:=fun v σ H Q=>Q (σ.set i (some v)) H
theorem ji{i:Nat}{x:Str}(hN:X.N.Nodup)(hi:X.N[i]?=some x)(hx:Loc X.env.scope x)(hf:X.fn x=true\/X.env.scope.names.lookup x=some .local:=by first | exact .inl rfl | exact .inr rfl | assumption):PG X (.Name x pos) (gF i):=by
 intro pins s σ H v u Q I r h;exact wpAny_assign_Name (jE I hN hi hx r (fun s' I'=>⟨_,H,I',h⟩) hf)
noncomputable def El:Az:=fun vs σ H Q=>vs=[]/\Q σ H
noncomputable def AA(t:TG)(u:Az):Az:=fun vs σ H Q=>∃ v r,vs=v::r/\t v σ H fun σ' H'=>u r σ' H' Q
theorem xZ:Ek X [] El:=by
 intro pins s σ H vs us Q I r h;obtain⟨e,h⟩:=h;subst e;cases r;exact assignInOrder_nil ⟨σ,H,I,h⟩
theorem uE{e:Expr}{es:List Expr}{t:TG}{u:Az}(h1:PG X e t)(h2:Ek X es u)
  (hs:(assignEach (e::es) X.env).map (·.2)=assign e X.env::(assignEach es X.env).map (·.2):=by rfl):Ek X (e::es) (AA t u):=by
 intro pins s σ H vs us Q I r h;obtain⟨v,vr,e1,h⟩:=h;subst e1;cases r with
 | cons r rr=>
  rw[hs];refine assignInOrder_cons (bU (h1 pins s σ H _ _ _ I r h) fun _ s1 ⟨Bl,H1,I1,q1⟩ => ?_)
  exact h2 pins s1 Bl H1 _ _ Q I1 rr q1
noncomputable def x_(K:PySem.W.Frag)(n:Nat)(t:Az):TG:=fun v σ H Q=>∃ a xs,v=.ref a/\fH K H a xs/\xs.length=n/\t xs σ H Q
theorem Bm{es:List Expr}{k:Nat}{t:Az}{n:Nat}(hc:X.calm=true)(h:Ek X es t)
  (hn:(assignEach es X.env).length=n:=by rfl) (hst:(assignEach es X.env).findIdx? (·.1)=none:=by rfl):PG X (.Tuple es k pos) (x_ X.K n t):=by
 intro pins s σ H v u Q I r hw;obtain⟨a,xs,e1,hq,hl,hw⟩:=hw;subst e1;cases r;obtain⟨its,rv,ht,hz⟩:=I.tuple hq;refine assign_Tuple_tuple (I.ok.hd hc) ht (by simp[hn,← hl,rv.length]) hst fun h' hx => ?_
 have I1:Inv X pins σ H { s with heap:=h' }:=I.kept (t':=s.toks) fun b o e=>hx b o (Nat.ne_of_lt (Heap.lt_size e)) e
 exact h pins _ σ H xs _ Q I1 (by simpa using rv) hw
noncomputable def Bn(te:TE)(g:TG):TS:=fun D σ H=>te σ H fun x H1=>g x σ H1 D.nx
theorem Bo{tg e:Expr}{te:TE}{g:TG}(he:PE X e te)(hg:PG X tg g)(hs:swapsWithSole [tg] e pos.line X.env=pure false:=by rfl)(hw:swappedStores [tg] e X.env=pure none:=by rfl)
  (h1:(assignEach [tg] X.env).map (·.2)=[assign tg X.env]:=by rfl):PS X (.Assign [tg] e pos) (Bn te g):=by
 intro pins s σ H D I h;refine wpAny_Assign_stores (bU (he pins s σ H _ I h) fun v s1 ⟨x,H1,I1,r1,q1⟩ => ?_) hs hw
 rw[h1];exact bU (hg pins s1 σ H1 x v _ I1 r1 q1) fun _ s2 q=>q
theorem Bp{i:Nat}{x:Str}{e:Expr}{te:TE}{pos':Pos}(hN:X.N.Nodup)(hi:X.N[i]?=some x)(hx:Loc X.env.scope x)(he:PE X e te)(hs:swapsWith e (some (.Name x pos')) pos.line X.env=pure false:=by rfl)(hf:X.fn x=true\/X.env.scope.names.lookup x=some .local:=by first | exact .inl rfl | exact .inr rfl | assumption) :
  PS X (.Assign [.Name x pos'] e pos) (Bn te (gF i)):=by
 intro pins s σ H D I h;refine wpAny_Assign_Name (bU (he pins s σ H _ I h) fun v s1 ⟨y,H1,I1,r1,q1⟩ => ?_) hs
 exact jE I1 hN hi hx r1 (fun s2 I2=>⟨_,H1,I2,q1⟩) hf
noncomputable def Bq(c:TT)(tb:TS):TS:=fun D σ H=>∃ W:Nat->St->Hp->Prop,(∃ m,W m σ H)/\∀ m σ H,W m σ H ->
 c σ H fun b H1=>if b=true then ∃ N:St->Hp->Prop,(∀ σ' H',N σ' H'->∃ m',m' < m/\W m' σ' H')/\tb { D with nx:=N,ct:=N,bk:=D.nx } σ H1 else D.nx σ H1
theorem uF{c:Expr}{body:List Stmt}{tc:TT}{tb:TS}(hp:PassesOwn (model X.prog X.w) X.A X.env X.xe)(hc:PT X c tc)(hb:gZ X body tb):PS X (.While c body [] pos) (Bq tc tb):=by
 intro pins s σ H D I h;obtain⟨W,⟨m0,w0⟩,turn⟩:=h;refine wpAny_While (codeAny_whileLoop (fun n s'=>∃ σ' H',Inv X pins σ' H' s'/\W n σ' H') ?_ m0 ⟨σ,H,I,w0⟩)
 rintro n s1 ⟨Bl,H1,I1,w1⟩;refine wpAny_passesOwn hp (bU (hc pins s1 Bl H1 _ I1 (turn n Bl H1 w1)) fun b s2 ⟨H2,I2,q2⟩ => ?_)
 cases b with
 | true=>
  obtain⟨N,hN,q2⟩:=q2;rw[if_pos rfl];refine wpAny_passesOwn hp (bU (hb pins s2 Bl H2 _ I2 q2) fun f s3 q3 => ?_)
  cases f with
  | next=>
   obtain⟨pD,H3,I3,n3⟩:=q3;obtain⟨m',hm,w3⟩:=hN pD H3 n3;exact⟨m',hm,pD,H3,I3,w3⟩
  | cont=>
   obtain⟨pD,H3,I3,n3⟩:=q3;obtain⟨m',hm,w3⟩:=hN pD H3 n3;exact⟨m',hm,pD,H3,I3,w3⟩
  | brk=>exact q3
  | ret v=>exact q3
 | false=>
  rw[if_neg Bool.false_ne_true];exact wpAny_execs_nil ⟨Bl,H2,I2,q2⟩
end
structure It where
 go:Nat->Hp->Prop
 H_:Nat->Hp->V->Hp->Prop
 stop:Nat->Hp->Prop
def kP(X:Cx)(pins:List (Addr×Obj))(H:Hp)(b:Addr):Prop:=
 H b=none/\b≠X.env.locals/\b∉X.fs/\(b∈X.ex\/X.s₀.heap.objs.size<=b)/\(∀ x c,X.env.cells.lookup x=some c->c≠b)/\∀ p∈X.pn++pins,p.1≠b
theorem Inv.uG{X:Cx}{pins:List (Addr×Obj)}{σ:St}{H H':Hp}{s:Shared}{b:Addr}(I:Inv X pins σ H s)(hb:s.heap.objs.size<=b)(hn:H' b=none):kP X pins H' b:=by
 refine⟨hn,Nat.ne_of_gt (Nat.lt_of_lt_of_le I.lt hb),I.JZ hb,.inr (Nat.le_trans I.sz hb),fun x c e z => ?_,fun p hp z => ?_⟩
 ·obtain⟨v,q⟩:=I.cell x c e
  exact absurd (Nat.lt_of_lt_of_le q.lt (by rw[z];exact hb)) (Nat.lt_irrefl _)
 ·exact absurd (Nat.lt_of_lt_of_le (Heap.lt_size (I.pin p hp).1) (by rw[z];exact hb)) (Nat.lt_irrefl _)
structure Turn(P:Program)(w:World)(K:PySem.W.Frag)(tg:Expr)(J:It)(fp:List Addr)(it:Addr)(tn:Nat->Heap->Prop):Prop where
 mem:it∈fp
 obj:∀ i h,tn i h->∀ b∈fp,∃ o,h.get? b=some o/\∀ v,o.data≠.cell v
 keep:∀ i h h',tn i h->(∀ b∈fp,∀ o,h.get? b=some o->h'.get? b=some o)->tn i h'
 item:∀ (X:Cx),X.prog=P->X.w=w->X.K=K->X.calm=true->∀ (i:Nat) (pins:List (Addr×Obj)) (s:Shared) (σ:St) (H:Hp) (E:Value->Shared->Prop),Inv X pins σ H s->(∀ b∈fp,kP X pins H b)->tn i s.heap->J.go i H ->
  wpAny (model P w) X.A (pyNext (.ref it)) (fun r s1=>∃ u,r=some u /\
   wpAny (model P w) X.A (letOwnedTupleGo tg (.ref it) u) (fun _ s2=>∃ x H',Inv X pins σ H' s2/\RelV x u/\J.H_ i H x H'/\tn (i + 1) s2.heap/\∀ b∈fp,H' b=none) E s1) E s
 done:∀ (X:Cx),X.prog=P->X.w=w->X.K=K->X.calm=true->∀ (i:Nat) (pins:List (Addr×Obj)) (s:Shared) (σ:St) (H:Hp) (E:Value->Shared->Prop),Inv X pins σ H s->(∀ b∈fp,kP X pins H b)->tn i s.heap->J.stop i H ->
  wpAny (model P w) X.A (pyNext (.ref it)) (fun r s1=>r=none/\Inv X pins σ H s1) E s
 self:∀ (A:Around) (i:Nat) (s:Shared) (Q:Value->Shared->Prop) (E:Value->Shared->Prop),tn i s.heap->Q (.ref it) s->wpAny (model P w) A (pyIter (.ref it)) Q E s
abbrev TI:=St->Hp->(It->Hp->Prop)->Prop
def PIE(X:Cx)(pins:List (Addr×Obj))(σ:St)(tg:Expr)(R:It->Hp->Prop)(itv:Value)(s2:Shared):Prop:=
 ∃ (it:Addr) (fp:List Addr) (tn:Nat->Heap->Prop) (J:It) (H':Hp),itv=.ref it/\Inv X pins σ H' s2/\Turn X.prog X.w X.K tg J fp it tn/\tn 0 s2.heap/\(∀ b∈fp,kP X pins H' b)/\R J H'
def PI(X:Cx)(tg iter:Expr)(wi:TI):Prop:=
 ∀ (pins:List (Addr×Obj)) (s:Shared) (σ:St) (H:Hp) (R:It->Hp->Prop),Inv X pins σ H s->wi σ H R ->
  wpAny (model X.prog X.w) X.A (eval iter X.env) (fun v s1=>wpAny (model X.prog X.w) X.A (pyIter v) (PIE X pins σ tg R) X.xe s1) X.xe s
theorem qP{M:Model}{A:Around}{E:Value->Shared->Prop}{s:Shared}{tg:Expr}{it:Addr}{u:Value}{o:Obj}{n:String}{vs:Array Value}{Q:Unit->Shared->Prop}(ho:s.heap.get? it=some o)(hc:o.cls=.type n)(hd:o.data=.fields vs)
    (hn:["enumerate","zip","dict_itemiterator","dict_reverseitemiterator","odict_iterator","itertools.zip_longest","itertools.pairwise"].contains n=false) (hQ:Q () s):wpAny M A (letOwnedTupleGo tg (.ref it) u) Q E s:=by
  unfold letOwnedTupleGo
  cases tg<;>first
    | exact wpAny_pure hQ
    | (cases u<;>first
        | exact wpAny_pure hQ
        | (refine wpAny_bind (wpAny_load ho ?_)
           rw[hc,hd]
           show wpAny M A (if (["enumerate","zip","dict_itemiterator","dict_reverseitemiterator","odict_iterator","itertools.zip_longest","itertools.pairwise"].contains n && vs[0]? == some (rawInt _))=true then _ else _) Q E s
           rw[if_neg (by intro h;rw[hn,Bool.false_and]at h;cases h)]
           exact wpAny_pure hQ))
noncomputable def Kd(K:PySem.W.Frag)(a:Addr):It:=
 ⟨fun i H=>∃ xs x,jg K H a xs/\xs[i]?=some x,fun i H x H'=>H'=H/\∀ xs,jg K H a xs->xs[i]?=some x,fun i H=>∃ xs,jg K H a xs/\xs.length<=i⟩
noncomputable def Ke(K:PySem.W.Frag)(a:Addr):It:=
 ⟨fun i H=>∃ xs x,fH K H a xs/\xs[i]?=some x,fun i H x H'=>H'=H/\∀ xs,fH K H a xs->xs[i]?=some x,fun i H=>∃ xs,fH K H a xs/\xs.length<=i⟩
noncomputable def Em(lo:Int)(n:Nat):It:=⟨fun i _=>i < n,fun i H x H'=>H'=H/\x=.int (lo + i),fun i _=>n<=i⟩
theorem sT{P:Program}{w:World}{K:PySem.W.Frag}{tg:Expr}(a it:Addr):Turn P w K tg (Kd K a) [it] it (fun i h=>h.IsListIter it a i) where
 mem:=by simp
 obj:=fun i h st b hb=>by
  have e:b=it:=by simpa using hb
  subst e;obtain⟨o,e,c,d⟩:=st;exact⟨o,e,fun v z=>by rw[d]at z;cases z⟩
 keep:=fun i h h' st k=>st.at fun o e=>k it (by simp) o e
 item:=by
  intro X hP hw hK hc i pins s σ H E I hf st hg;subst hP hw hK;obtain⟨xs,x,hq,hx⟩:=hg;obtain⟨its,rv,p,hz⟩:=I.list hq;obtain⟨u,hu,ru⟩:=rv.get hx;obtain⟨f0,f1,f2,f3,f4,f5⟩:=hf it (by simp)
  refine wpAny_pyNext_list_item st p.isList (x:=u) (by simpa using hu) fun h' st' sb => ?_
  have I1:Inv X pins σ H { s with heap:=h' }:=I.turned (t':=s.toks) (fun b o hb e=>(sb.2 b hb).trans e) f0 f1 f3 f4 f5
  obtain⟨o,e,c,d⟩:=id st';exact⟨u,rfl,qP (s:={ s with heap:=h' }) e c d (by decide) ⟨x,H,I1,ru,⟨rfl,fun ys hy=>by rw[I.nS hy hq];exact hx⟩,st',fun b hb=>(hf b hb).1⟩⟩
 done:=by
  intro X hP hw hK hc i pins s σ H E I hf st hg;subst hP hw hK;obtain⟨xs,hq,hx⟩:=hg;obtain⟨its,rv,p,hz⟩:=I.list hq;obtain⟨f0,f1,f2,f3,f4,f5⟩:=hf it (by simp)
  have hl:=rv.length;exact wpAny_pyNext_list_end (I.ok.hd hc) st p.isList (by simp;omega) fun h' eb=>⟨rfl,I.turned (t':=s.toks) (fun b o hb e=>eb b o hb e) f0 f1 f3 f4 f5⟩
 self:=fun _ _ _ _ _ st h=>wpAny_pyIter_listiter st h
theorem pE{P:Program}{w:World}{K:PySem.W.Frag}{tg:Expr}(a it:Addr):Turn P w K tg (Ke K a) [it] it (fun i h=>h.IsTupleIter it a i) where
 mem:=by simp
 obj:=fun i h st b hb=>by
  have e:b=it:=by simpa using hb
  subst e;obtain⟨o,e,c,d⟩:=st;exact⟨o,e,fun v z=>by rw[d]at z;cases z⟩
 keep:=fun i h h' st k=>st.at fun o e=>k it (by simp) o e
 item:=by
  intro X hP hw hK hc i pins s σ H E I hf st hg;subst hP hw hK;obtain⟨xs,x,hq,hx⟩:=hg;obtain⟨its,rv,p,hz⟩:=I.tuple hq;obtain⟨u,hu,ru⟩:=rv.get hx;obtain⟨f0,f1,f2,f3,f4,f5⟩:=hf it (by simp)
  refine wpAny_pyNext_tuple_item st (show s.heap.IsTuple a its.toArray from p) (x:=u) (by simpa using hu) fun h' st' sb => ?_
  have I1:Inv X pins σ H { s with heap:=h' }:=I.turned (t':=s.toks) (fun b o hb e=>(sb.2 b hb).trans e) f0 f1 f3 f4 f5
  obtain⟨o,e,c,d⟩:=id st';exact⟨u,rfl,qP (s:={ s with heap:=h' }) e c d (by decide) ⟨x,H,I1,ru,⟨rfl,fun ys hy=>by rw[I.lb hy hq];exact hx⟩,st',fun b hb=>(hf b hb).1⟩⟩
 done:=by
  intro X hP hw hK hc i pins s σ H E I hf st hg;subst hP hw hK;obtain⟨xs,hq,hx⟩:=hg;obtain⟨its,rv,p,hz⟩:=I.tuple hq;obtain⟨f0,f1,f2,f3,f4,f5⟩:=hf it (by simp)
  have hl:=rv.length;exact wpAny_pyNext_tuple_end (I.ok.hd hc) st (show s.heap.IsTuple a its.toArray from p) (by simp;omega) fun h' eb=>⟨rfl,I.turned (t':=s.toks) (fun b o hb e=>eb b o hb e) f0 f1 f3 f4 f5⟩
 self:=fun _ _ _ _ _ st h=>wpAny_pyIter_tupleiter st h
theorem pF{P:Program}{w:World}{K:PySem.W.Frag}{tg:Expr}(it:Addr)(lo:Int)(n:Nat):Turn P w K tg (Em lo n) [it] it (fun i h=>IsRangeIter h it (lo + (i:Nat) * 1) ((n:Int) - (i:Nat)) 1) where
 mem:=by simp
 obj:=fun i h st b hb=>by
  have e:b=it:=by simpa using hb
  subst e
  exact⟨_,st,fun v z=>by
   have z':Data.fields _=Data.cell v:=z;cases z'⟩
 keep:=fun i h h' st k=>k it (by simp) _ st
 item:=by
  intro X hP hw hK hc i pins s σ H E I hf st hg;subst hP hw hK;obtain⟨f0,f1,f2,f3,f4,f5⟩:=hf it (by simp)
  have W:=Walks.range (prog:=X.prog) (w:=X.w) (I.ok.hd hc) it lo 1 n;refine W.item i s _ _ hg st fun v h' tk hv st' kk => ?_
  obtain⟨t,rfl⟩:=hv;have I1:Inv X pins σ H { s with heap:=h',toks:=tk }:=I.turned (fun b o hb e=>kk b o (by simpa using hb) e) f0 f1 f3 f4 f5
  refine⟨_,rfl,qP (s:={ s with heap:=h',toks:=tk }) (n:="range_iterator") st' rfl rfl (by decide) ⟨.int (lo + i),H,I1,⟨t,?_⟩,⟨rfl,rfl⟩,st',fun b hb=>(hf b hb).1⟩⟩
  rw[Int.mul_one]
 done:=by
  intro X hP hw hK hc i pins s σ H E I hf st hg;subst hP hw hK;obtain⟨f0,f1,f2,f3,f4,f5⟩:=hf it (by simp)
  exact wpAny_pyNext_range_end (I.ok.hd hc) st (by have:n<=i:=hg;omega) fun h' eb=>⟨rfl,I.turned (t':=s.toks) (fun b o hb e=>eb b o hb e) f0 f1 f3 f4 f5⟩
 self:=fun _ _ _ _ _ st h=>wpAny_pyIter_rangeiter st h
section
variable{X:Cx}{tg:Expr}
theorem uH{pins:List (Addr×Obj)}{σ:St}{H:Hp}{s:Shared}{R:It->Hp->Prop}{E:Value->Shared->Prop}{lo hi:Int}{t u v:Tok}{tk:Nat}(I:Inv X pins σ H s)(h1 : -(2 ^ 62)<=lo)(h2:lo < 2 ^ 62)(h3 : -(2 ^ 62)<=hi)(h4:hi < 2 ^ 62)
  (q:R (Em lo (hi - lo).toNat) H):wpAny (model X.prog X.w) X.A (pyIter (.ref s.heap.objs.size)) (PIE X pins σ tg R) E { s with heap:=s.heap.push { cls:=.type "range",data:=.fields #[.int lo t,.int hi u,.int 1 v] },toks:=tk }:=by
 refine wpAny_pyIter_range (IsRange.new ..) (small_one h1 h2 h3 h4) ?_;have I1:Inv X pins σ H { s with heap:=s.heap.push { cls:=.type "range",data:=.fields #[.int lo t,.int hi u,.int 1 v] },toks:=tk }:=I.kept fun b o e=>Heap.get?_push_of_some _ e
 refine⟨(s.heap.push { cls:=.type "range",data:=.fields #[.int lo t,.int hi u,.int 1 v] }).objs.size,[(s.heap.push { cls:=.type "range",data:=.fields #[.int lo t,.int hi u,.int 1 v] }).objs.size],_,_,H,rfl,
  I1.kept (t':=tk) fun b o e=>Heap.get?_push_of_some _ e,pF _ lo (hi - lo).toNat,?_,fun b hb => ?_,q⟩
 ·have e1:lo + ((0:Nat):Int) * 1=lo:=by simp
  have e2:(((hi - lo).toNat:Nat):Int) - ((0:Nat):Int)=Builtin.Range.rangeSize lo hi 1:=by rw[rangeSize_one];split<;>omega
  show IsRangeIter _ _ (lo + ((0:Nat):Int) * 1) ((((hi - lo).toNat:Nat):Int) - ((0:Nat):Int)) 1
  rw[e1,e2];exact Heap.get?_push_size _ rfl
 ·have e:b=(s.heap.push { cls:=.type "range",data:=.fields #[.int lo t,.int hi u,.int 1 v] }).objs.size:=by simpa using hb
  subst e;exact I1.uG (Nat.le_refl _) (I1.hok.fresh (Nat.le_refl _))
def En(ta:TA):TI:=fun σ H R=>ta σ H fun vs H1=>∃ j:Int,vs=[.int j] /\ -(2 ^ 62)<=j/\j < 2 ^ 62/\R (Em 0 j.toNat) H1
theorem sU{a:Expr}{ta:TA}{p pos:Pos}(hg:Gl X "range")(hm:X.mg "range"=none)(ha:PA X [a] ta)(hs:starEach [a] X.env=[(false,eval a X.env)]:=by rfl):PI X tg (.Call (.Name "range" p) [a] [] pos) (En ta):=by
 intro pins s σ H R I h;refine Call_ (dF I hg hm boot_range (PyProof.Rows.callWith_type1 (bU (ha pos pins s σ H _ I h) fun us s1 ⟨vs,H1,I1,r1,q1⟩ => ?_) hs rfl))
 obtain⟨j,e,q1,q2,q⟩:=q1;subst e;cases r1 with
 | cons r rr=>
  cases rr;obtain⟨t,rfl⟩:=r;exact call_range_1 (uH I1 (by omega) (by omega) q1 q2 (by simpa using q))
noncomputable def Kf(wi:TI)(g:TG)(tb:TS):TS:=fun D σ H=>wi σ H fun J H1=>∃ W:Nat->Nat->St->Hp->Prop,(∃ m,W 0 m σ H1)/\∀ i m σ H,W i m σ H ->
 (J.stop i H/\D.nx σ H)\/(J.go i H/\∃ N:St->Hp->Prop,(∀ σ' H',N σ' H'->∃ m',m' < m/\W (i + 1) m' σ' H')/\∀ x H',J.H_ i H x H'->g x σ H' fun Ia H2=>tb { D with nx:=N,ct:=N,bk:=D.nx } Ia H2)
noncomputable def jF(fp:List Addr)(h:Heap):List (Addr×Obj):=fp.filterMap fun b=>(h.get? b).map fun o=>(b,o)
theorem fj{fp:List Addr}{h:Heap}{b:Addr}{o:Obj}(hb:b∈fp)(e:h.get? b=some o):(b,o)∈jF fp h:=List.mem_filterMap.mpr ⟨b,hb,by rw[e];rfl⟩
theorem sV{fp:List Addr}{h:Heap}{p:Addr×Obj}(hp:p∈jF fp h):p.1∈fp/\h.get? p.1=some p.2:=by
 obtain⟨b,hb,e⟩:=List.mem_filterMap.mp hp;cases q:h.get? b with
 | none=>rw[q]at e;cases e
 | some o=>
  rw[q]at e;have e':(b,o)=p:=Option.some.inj e;subst e';exact⟨hb,q⟩
theorem Inv.pinned{pins:List (Addr×Obj)}{σ:St}{H:Hp}{s:Shared}{fp:List Addr}(I:Inv X pins σ H s)(hf:∀ b∈fp,kP X pins H b)(ho:∀ b∈fp,∃ o,s.heap.get? b=some o/\∀ v,o.data≠.cell v):Inv X (pins++jF fp s.heap) σ H s:=
 I.qO fun p hp=>(List.mem_append.mp hp).elim (fun z=>I.pin p (List.mem_append_right _ z)) fun z=>by
  obtain⟨hb,e⟩:=sV z;obtain⟨f0,f1,f2,_⟩:=hf p.1 hb;obtain⟨o,e',d⟩:=ho p.1 hb;rw[e]at e';cases e'
  exact⟨e,f0,f1,f2,d⟩
theorem Inv.g0{pins pl:List (Addr×Obj)}{σ:St}{H:Hp}{s:Shared}(I:Inv X (pins++pl) σ H s):Inv X pins σ H s:=I.qO fun p hp=>I.pin p (List.mem_append_right _ (List.mem_append_left _ hp))
theorem Br{iter:Expr}{body:List Stmt}{wi:TI}{g:TG}{tb:TS}{pos:Pos}(hp:PassesOwn (model X.prog X.w) X.A X.env X.xe)(hc:X.calm=true)(hi:PI X tg iter wi)(hg:PG X tg g)(hb:gZ X body tb)
  (hs:∀ x,foldedSetIterable iter X.env x=pure x:=by intro _;rfl):PS X (.For tg iter body [] pos) (Kf wi g tb):=by
 intro pins s σ H D I h;refine wpAny_For (bU (hi pins s σ H _ I h) fun v s1 h1=>bU h1 fun itv s2 h2 => ?_) hs
 obtain⟨it,fp,tn,J,H2,e,I2,T,st2,f2,W,⟨m0,w0⟩,turn⟩:=h2;subst e;have stat:∀ {H':Hp},(∀ b∈fp,H' b=none)->∀ b∈fp,kP X pins H' b:=fun hn b hb=>⟨hn b hb,(f2 b hb).2⟩
 refine codeAny_forLoop_any (fun n s'=>∃ i σ' H',Inv X pins σ' H' s'/\tn i s'.heap/\(∀ b∈fp,H' b=none)/\W i n σ' H') ?_ m0 ⟨0,σ,H2,I2,st2,fun b hb=>(f2 b hb).1,w0⟩
 rintro n s3 ⟨i,pD,H3,I3,st3,NT,w3⟩;rcases turn i n pD H3 w3 with ⟨stop,qn⟩ | ⟨go,N,hN,step⟩
 ·refine wpAny_passesOwn hp (bU (T.done X rfl rfl rfl hc i pins s3 pD H3 X.xe I3 (stat NT) st3 stop) fun r s4 ⟨hr,I4⟩ => ?_)
  subst hr;exact wpAny_execs_nil ⟨pD,H3,I4,qn⟩
 ·refine wpAny_passesOwn hp (bU (T.item X rfl rfl rfl hc i pins s3 pD H3 X.xe I3 (stat NT) st3 go) fun r s4 ⟨u,hr,h4⟩ => ?_)
  subst hr;refine wpAny_passesOwn hp (bU h4 fun _ s5 ⟨x,H5,I5,r5,y5,DR,PR⟩ => ?_)
  have PU:=I5.pinned (stat PR) (T.obj _ _ DR);refine wpAny_passesOwn hp (bU (hg _ s5 pD H5 x u _ PU r5 (step x H5 y5)) fun _ s6 ⟨Ib,H6,I6,q6⟩ => ?_)
  refine wpAny_passesOwn hp (bU (hb _ s6 Ib H6 _ I6 q6) fun f s7 q7 => ?_)
  have again:∀ {uI:St} {H7:Hp},Inv X (pins++jF fp s5.heap) uI H7 s7->N uI H7->∃ m,m < n/\∃ i σ' H',Inv X pins σ' H' s7/\tn i s7.heap/\(∀ b∈fp,H' b=none)/\W i m σ' H':=fun {uI H7} I7 n7=>by
   obtain⟨m',hm,w7⟩:=hN uI H7 n7;refine⟨m',hm,i + 1,uI,H7,I7.g0,T.keep _ _ _ DR fun b hb o e=>(I7.pin (b,o) (List.mem_append_right _ (List.mem_append_right _ (fj hb e)))).1,fun b hb => ?_,w7⟩
   obtain⟨o,e,d⟩:=T.obj _ _ DR b hb;exact(I7.pin (b,o) (List.mem_append_right _ (List.mem_append_right _ (fj hb e)))).2.1
  cases f with
  | next=>obtain⟨uI,H7,I7,n7⟩:=q7;exact again I7 n7
  | cont=>obtain⟨uI,H7,I7,n7⟩:=q7;exact again I7 n7
  | brk=>obtain⟨uI,H7,I7,q7⟩:=q7;exact⟨uI,H7,I7.g0,q7⟩
  | ret v=>obtain⟨x7,uI,H7,I7,r7,q7⟩:=q7;exact⟨x7,uI,H7,I7.g0,r7,q7⟩
end
abbrev R2:=V->V->Hp->VK->Prop
def fJ(X:Cx)(f:Value->Value->Sem Value)(r:R2):Prop:=
 ∀ (pins:List (Addr×Obj)) (s:Shared) (σ:St) (H:Hp) (x y:V) (v u:Value) (Q:VK),Inv X pins σ H s->RelV x v->RelV y u->r x y H Q ->
  wpAny (model X.prog X.w) X.A (f v u) (EP X pins σ Q) X.xe s
def Kg(X:Cx)(f:Value->Sem Value)(r:V->Hp->VK->Prop):Prop:=
 ∀ (pins:List (Addr×Obj)) (s:Shared) (σ:St) (H:Hp) (x:V) (v:Value) (Q:VK),Inv X pins σ H s->RelV x v->r x H Q ->
  wpAny (model X.prog X.w) X.A (f v) (EP X pins σ Q) X.xe s
def eE(X:Cx)(f:Value)(r:List V->Hp->VK->Prop):Prop:=
 ∀ (pins:List (Addr×Obj)) (s:Shared) (σ:St) (H:Hp) (xs:List V) (us:List Value) (Q:VK),Inv X pins σ H s->Vals xs us->r xs H Q ->
  wpAny (model X.prog X.w) X.A (call f us) (EP X pins σ Q) X.xe s
def Kh(X:Cx)(r:V->Hp->(Bool->Hp->Prop)->Prop):Prop:=
 ∀ (pins:List (Addr×Obj)) (s:Shared) (σ:St) (H:Hp) (x:V) (v:Value) (Q:Bool->Hp->Prop),Inv X pins σ H s->RelV x v->r x H Q ->
  wpAny (model X.prog X.w) X.A (truthy v) (TP X pins σ Q) X.xe s
noncomputable def DS(r:R2)(ta tb:TE):TE:=fun σ H Q=>ta σ H fun x H1=>tb σ H1 fun y H2=>r x y H2 Q
noncomputable def PV(r:V->Hp->VK->Prop)(ta:TE):TE:=fun σ H Q=>ta σ H fun x H1=>r x H1 Q
noncomputable def rI(C:Int->Int->Prop)(g:Int->Int->V):R2:=fun x y H Q=>∃ i j,x=.int i/\y=.int j/\C i j/\Q (g i j) H
noncomputable def ya(g:Int->Int->V):R2:=fun x y H Q=>∃ i j,x=.int i/\y=.int j/\Q (g i j) H
def rU(g:Int->V):V->Hp->VK->Prop:=fun x H Q=>∃ i,x=.int i/\Q (g i) H
section
variable{X:Cx}{a b c:Expr}{ta tb tc:TE}{pos:Pos}
theorem Bs(ha:PE X a ta)(hb:PE X b tb){pins:List (Addr×Obj)}{s:Shared}{σ:St}{H:Hp}{R:V->V->Hp->Prop}(I:Inv X pins σ H s)
  (h:ta σ H fun x H1=>tb σ H1 fun y H2=>R x y H2) {Q:Value->Shared->Prop} {f:Value->Value->Sem Value}
  (hf:∀ v u s2 x y H2,Inv X pins σ H2 s2->RelV x v->RelV y u->R x y H2->wpAny (model X.prog X.w) X.A (f v u) Q X.xe s2) :
  wpAny (model X.prog X.w) X.A (eval a X.env) (fun v s₁=>wpAny (model X.prog X.w) X.A (eval b X.env) (fun u s₂=>wpAny (model X.prog X.w) X.A (f v u) Q X.xe s₂) X.xe s₁) X.xe s:=by
 refine bU (ha pins s σ H _ I h) fun v s1 ⟨x,H1,I1,r1,q1⟩ => ?_
 refine bU (hb pins s1 σ H1 _ I1 q1) fun u s2 ⟨y,H2,I2,r2,q2⟩ => ?_
 exact hf v u s2 x y H2 I2 r1 r2 q2
theorem uJ{op:Operator}{r:R2}(ho:fJ X (binaryOp op) r)(ha:PE X a ta)(hb:PE X b tb):PE X (.BinOp a op b pos) (DS r ta tb):=by
 intro pins s σ H Q I h;exact wpAny_BinOp (Bs ha hb I h fun v u s2 x y H2 I2 rx ry q=>ho pins s2 σ H2 x y v u Q I2 rx ry q)
theorem Eo{op:UnaryOp}{r:V->Hp->VK->Prop}(ho:Kg X (unaryOp op) r)(ha:PE X a ta):PE X (.UnaryOp op a pos) (PV r ta):=by
 intro pins s σ H Q I h;exact UnaryOp_ (bU (ha pins s σ H _ I h) fun v s1 ⟨x,H1,I1,r1,q1⟩=>ho pins s1 σ H1 x v Q I1 r1 q1)
theorem Ic{f:Value->Value->Sem Value}{C:Int->Int->Prop}{g:Int->Int->Int}
  (rule:∀ (i j:Int) (t u:Tok) (s:Shared) (Q:Value->Shared->Prop) (E:Value->Shared->Prop),C i j->Q (.int (g i j) s.toks) { s with toks:=s.toks + 1 }->wpAny (model X.prog X.w) X.A (f (.int i t) (.int j u)) Q E s) :
  fJ X f (rI C fun i j=>.int (g i j)):=by
 intro pins s σ H x y v u Q I rx ry h;obtain⟨i,j,rfl,rfl,hc,q⟩:=h;obtain⟨t,rfl⟩:=rx;obtain⟨t',rfl⟩:=ry;exact rule i j t t' s _ _ hc ⟨.int (g i j),H,I.tok _,⟨_,rfl⟩,q⟩
theorem Ep{f:Value->Value->Sem Value}{g:Int->Int->Int}
  (rule:∀ (i j:Int) (t u:Tok) (s:Shared) (Q:Value->Shared->Prop) (E:Value->Shared->Prop),Q (.int (g i j) s.toks) { s with toks:=s.toks + 1 }->wpAny (model X.prog X.w) X.A (f (.int i t) (.int j u)) Q E s) :
  fJ X f (ya fun i j=>.int (g i j)):=by
 intro pins s σ H x y v u Q I rx ry h;obtain⟨i,j,rfl,rfl,q⟩:=h;obtain⟨t,rfl⟩:=rx;obtain⟨t',rfl⟩:=ry;exact rule i j t t' s _ _ ⟨.int (g i j),H,I.tok _,⟨_,rfl⟩,q⟩
theorem yb{f:Value->Value->Sem Value}{g:Int->Int->Bool}
  (rule:∀ (i j:Int) (t u:Tok) (s:Shared) (Q:Value->Shared->Prop) (E:Value->Shared->Prop),Q (.bool (g i j)) s->wpAny (model X.prog X.w) X.A (f (.int i t) (.int j u)) Q E s) :
  fJ X f (ya fun i j=>.bl (g i j)):=by
 intro pins s σ H x y v u Q I rx ry h;obtain⟨i,j,rfl,rfl,q⟩:=h;obtain⟨t,rfl⟩:=rx;obtain⟨t',rfl⟩:=ry;exact rule i j t t' s _ _ ⟨.bl (g i j),H,I,rfl,q⟩
def Er(i j:Int):Prop:=0 < j/\j < 1073741824
def Es(i j:Int):Prop:=0<=j/\j<=1000000/\i.natAbs < 2 ^ 64
def yc(i j:Int):Prop:=(-(2 ^ 64) < i/\i < 2 ^ 64)\/(-(2 ^ 64) < j/\j < 2 ^ 64)
theorem yc.ok{i j:Int}(h:yc i j):IntMulOk i j:=by
 rcases h with ⟨h1,h2⟩ | ⟨h1,h2⟩
 ·exact .of_left (intBits_le_64 h1 h2)
 ·exact .of_right (intBits_le_64 h1 h2)
theorem Bt:fJ X (binaryOp .Add) (ya fun i j=>.int (i + j)):=Ep fun _ _ _ _ _ _ _ q=>add_int q
theorem Bu:fJ X (binaryOp .Sub) (ya fun i j=>.int (i - j)):=Ep fun _ _ _ _ _ _ _ q=>sub_int q
theorem Bv:fJ X (binaryOp .Mult) (rI yc fun i j=>.int (i * j)):=Ic fun _ _ _ _ _ _ _ hc q=>mul_int q hc.ok
theorem yd:fJ X (binaryOp .FloorDiv) (rI Er fun i j=>.int (i / j)):=Ic fun i j _ _ _ _ _ hc q=>by
 have h1:(0:Int) < j:=hc.1;have h2:j < 1073741824:=hc.2;exact floordiv_int (by omega) (by rw[Int.fdiv_eq_ediv_of_nonneg i (by omega)];exact q) (.inl (PyProof.noPylong_small (by omega)))
theorem Bw:fJ X (binaryOp .Mod) (rI (fun _ j=>0 < j) fun i j=>.int (i % j)):=Ic fun i j _ _ _ _ _ hc q=>by
 have h1:(0:Int) < j:=hc;exact mod_int' (by omega) (by rw[Int.fmod_eq_emod_of_nonneg i (by omega)];exact q)
theorem Bx:fJ X (binaryOp .Pow) (rI Es fun i j=>.int (i ^ j.toNat)):=Ic fun _ _ _ _ _ _ _ hc q=>pow_int_small hc.1 hc.2.1 hc.2.2 q
theorem PX{f:Value->Sem Value}{g:Int->Int}
  (rule:∀ (i:Int) (t:Tok) (s:Shared) (Q:Value->Shared->Prop) (E:Value->Shared->Prop),Q (.int (g i) s.toks) { s with toks:=s.toks + 1 }->wpAny (model X.prog X.w) X.A (f (.int i t)) Q E s) :
  Kg X f (rU fun i=>.int (g i)):=by
 intro pins s σ H x v Q I rx h;obtain⟨i,rfl,q⟩:=h;obtain⟨t,rfl⟩:=rx;exact rule i t s _ _ ⟨.int (g i),H,I.tok _,⟨_,rfl⟩,q⟩
theorem By:Kg X (unaryOp .USub) (rU fun i=>.int (-i)):=PX fun _ _ _ _ _ q=>neg_int q
theorem l5{pins:List (Addr×Obj)}{σ:St}{H:Hp}{s:Shared}{Q:VK}{k k':Bool}(I:Inv X pins σ H s)(q:Q (.bl k) H)(e:k=k'):EP X pins σ Q (.bool k') s:=by
 subst e;exact⟨.bl k,H,I,rfl,q⟩
theorem Et:fJ X (compareOp .Lt) (ya fun i j=>.bl (decide (i < j))):=yb fun _ _ _ _ _ _ _ q=>lt_int q
theorem Eu:fJ X (compareOp .LtE) (ya fun i j=>.bl (decide (i<=j))):=yb fun _ _ _ _ _ _ _ q=>le_int q
theorem Ew:fJ X (compareOp .Gt) (ya fun i j=>.bl (decide (j < i))):=yb fun _ _ _ _ _ _ _ q=>gt_int q
theorem Ey:fJ X (compareOp .GtE) (ya fun i j=>.bl (decide (j<=i))):=yb fun _ _ _ _ _ _ _ q=>ge_int q
theorem sW:fJ X (compareOp .In) (fun x y H Q=>∃ i j,x=.str i/\y=.str j/\Q (.bl (!(Builtin.Str.occurrences j i 0 j.length 1).isEmpty)) H):=by
 intro pins s σ H x y v u Q I rx ry h;obtain⟨i,j,rfl,rfl,q⟩:=h;obtain⟨t,rfl⟩:=rx;obtain⟨t',rfl⟩:=ry;exact in_str (l5 I q rfl)
theorem uK:fJ X (compareOp .Is) (fun x y H Q=>y=.non/\Q (.bl (decide (x=.non))) H):=by
 intro pins s σ H x y v u Q I rx ry h;obtain⟨rfl,q⟩:=h;cases ry;refine is_none_gen (l5 I q ?_)
 cases x<;>first
  | (cases rx;rfl)
  | (obtain⟨t,rfl⟩:=rx;rfl)
theorem qQ:fJ X (compareOp .IsNot) (fun x y H Q=>y=.non/\Q (.bl (!decide (x=.non))) H):=by
 intro pins s σ H x y v u Q I rx ry h;obtain⟨rfl,q⟩:=h;cases ry;refine isnot_none_gen (l5 I q ?_)
 cases x<;>first
  | (cases rx;rfl)
  | (obtain⟨t,rfl⟩:=rx;rfl)
theorem l6:fJ X (compareOp .NotIn) (fun x y H Q=>∃ i j,x=.str i/\y=.str j/\Q (.bl (!(!(Builtin.Str.occurrences j i 0 j.length 1).isEmpty))) H):=by
 intro pins s σ H x y v u Q I rx ry h;obtain⟨i,j,rfl,rfl,q⟩:=h;obtain⟨t,rfl⟩:=rx;obtain⟨t',rfl⟩:=ry;exact notIn_str (l5 I q rfl)
theorem fJ.or{f:Value->Value->Sem Value}{r r':R2}(h:fJ X f r)(h':fJ X f r'):fJ X f (fun x y H Q=>r x y H Q\/r' x y H Q):=by
 intro pins s σ H x y v u Q I rx ry q;rcases q with q | q
 ·exact h pins s σ H x y v u Q I rx ry q
 ·exact h' pins s σ H x y v u Q I rx ry q
theorem g8{op:CmpOp}{r:R2}(ho:fJ X (compareOp op) r)(ha:PE X a ta)(hb:PE X b tb)(hm:behindInMarks op b=false):PE X (.Compare a [op] [b] pos) (DS r ta tb):=by
 intro pins s σ H Q I h;exact wpAny_Compare1 (Bs ha hb I h fun v u s2 x y H2 I2 rx ry q=>ho pins s2 σ H2 x y v u Q I2 rx ry q) hm
noncomputable def uL(t:TE):TT:=fun σ H Q=>t σ H fun x H'=>∃ k,x=.bl k/\Q k H'
theorem g_{op:CmpOp}{r:R2}(ho:fJ X (compareOp op) r)(ha:PE X a ta)(hb:PE X b tb)(hm:behindInMarks op b=false):PT X (.Compare a [op] [b] pos) (uL (DS r ta tb)):=by
 intro pins s σ H Q I h
 refine wpAny_isTrue_Compare1 (bU (ha pins s σ H _ I h) fun v s1 ⟨x,H1,I1,r1,q1⟩=>bU (hb pins s1 σ H1 _ I1 q1) fun u s2 ⟨y,H2,I2,r2,q2⟩=>
  bU (ho pins s2 σ H2 x y v u _ I2 r1 r2 q2) fun c s3 ⟨z,H3,I3,r3,k,e,q3⟩ => ?_) hm
 subst e;cases r3;exact wpAny_truthy_bool ⟨H3,I3,q3⟩
noncomputable def pG(r r':R2)(ta tb tc:TE):TE:=fun σ H Q=>ta σ H fun x H1=>tb σ H1 fun y H2=>r x y H2 fun z H3=>∃ k,z=.bl k /\
 (if k=true then tc σ H3 fun w' H4=>r' y w' H4 Q else Q (.bl false) H3)
theorem uM{op op':CmpOp}{r r':R2}(ho:fJ X (compareOp op) r)(ho':fJ X (compareOp op') r')(ha:PE X a ta)(hb:PE X b tb)(hc:PE X c tc)
  (hm:lastMarks [op,op'] [b,c]=false:=by with_unfolding_all rfl):PE X (.Compare a [op,op'] [b,c] pos) (pG r r' ta tb tc):=by
 intro pins s σ H Q I h
 refine Compare_chain (bU (ha pins s σ H _ I h) fun v s1 ⟨x,H1,I1,r1,q1⟩=>chain_link (bU (hb pins s1 σ H1 _ I1 q1) fun u s2 ⟨y,H2,I2,r2,q2⟩=>
  bU (ho pins s2 σ H2 x y v u _ I2 r1 r2 q2) fun d s3 ⟨z,H3,I3,r3,k,e,q3⟩ => ?_)) hm
 subst e;cases r3;refine wpAny_truthy_bool ?_;cases k with
 | false=>exact ite_ff ⟨.bl false,H3,I3,rfl,q3⟩
 | true=>exact ite_tt (chain_last (bU (hc pins s3 σ H3 _ I3 q3) fun w' s4 ⟨z',H4,I4,r4,q4⟩=>ho' pins s4 σ H4 y z' u w' Q I4 r2 r4 q4))
theorem uN{op op':CmpOp}{r r':R2}(ho:fJ X (compareOp op) r)(ho':fJ X (compareOp op') r')(ha:PE X a ta)(hb:PE X b tb)(hc:PE X c tc)
  (hm:lastMarks [op,op'] [b,c]=false:=by with_unfolding_all rfl):PT X (.Compare a [op,op'] [b,c] pos) (uL (pG r r' ta tb tc)):=by
 intro pins s σ H Q I h
 refine isTrue_chain (bU (ha pins s σ H _ I h) fun v s1 ⟨x,H1,I1,r1,q1⟩=>test_link (bU (hb pins s1 σ H1 _ I1 q1) fun u s2 ⟨y,H2,I2,r2,q2⟩=>
  bU (ho pins s2 σ H2 x y v u _ I2 r1 r2 q2) fun d s3 ⟨z,H3,I3,r3,k,e,q3⟩ => ?_)) hm
 subst e;cases r3;refine wpAny_truthy_bool ?_;cases k with
 | false=>
  obtain⟨k',e',q'⟩:=q3;cases e';exact ite_ff ⟨H3,I3,q'⟩
 | true=>
  refine ite_tt (test_last (bU (hc pins s3 σ H3 _ I3 q3) fun w' s4 ⟨z',H4,I4,r4,q4⟩=>bU (ho' pins s4 σ H4 y z' u w' _ I4 r2 r4 q4) fun d' s5 ⟨z2,H5,I5,r5,k2,e2,q5⟩ => ?_))
  subst e2;cases r5;exact wpAny_truthy_bool ⟨H5,I5,q5⟩
def nU(K:PySem.W.Frag)(x:V)(H:Hp)(k:Bool):Prop:=
 match x with
 | .non=>k=false
 | .bl b=>k=b
 | .int i=>k=(i != 0)
 | .str y=>y.length<=sizeLine/\k=((y.length:Int) != 0)
 | .DM y=>y.size<=sizeLine/\k=((y.size:Int) != 0)
 | .ref p=>(∃ xs,jg K H p xs/\k = !xs.isEmpty)\/(∃ xs,fH K H p xs/\k = !xs.isEmpty)\/∃ kvs,H p=some (.dK kvs)/\k = !kvs.isEmpty
 | _=>False
theorem pH{κ:Type}{kvs:List (κ×V)}{vs:List (κ×Value)}(r:KV kvs vs):(!vs.isEmpty) = !kvs.isEmpty:=by
 cases r<;>rfl
theorem jG{xs:List V}{its:List Value}(r:Vals xs its):(!its.toArray.isEmpty) = !xs.isEmpty:=by
 cases r<;>simp
theorem gQ:(sizeLine:Nat) < 2 ^ 63:=by rw[sizeLine_eq];decide
theorem l7:Kh X (fun x H Q=>∃ k,nU X.K x H k/\Q k H):=by
 intro pins s σ H x v Q I rx h;obtain⟨k,e,q⟩:=h;have hl:=gQ;have hs:sizeLine=16777216:=sizeLine_eq;cases x with
 | non=>
  cases rx;have e':k=false:=e;subst e';exact truthy_none ⟨H,I,q⟩
 | bl b=>
  cases rx;have e':k=b:=e;subst e';exact wpAny_truthy_bool ⟨H,I,q⟩
 | int i=>
  obtain⟨t,rfl⟩:=rx;have e':k=(i != 0):=e;subst e';exact PySem.P.truthy_int ⟨H,I,q⟩
 | str y=>
  obtain⟨t,rfl⟩:=rx;obtain⟨hy,e'⟩:y.length<=sizeLine/\k=((y.length:Int) != 0):=e;subst e';exact PySem.P.truthy_str (by omega) ⟨H,I.tok _,q⟩
 | DM y=>
  obtain⟨t,rfl⟩:=rx;obtain⟨hy,e'⟩:y.size<=sizeLine/\k=((y.size:Int) != 0):=e;subst e';exact PySem.W.truthy_bytes (by omega) ⟨H,I.tok _,q⟩
 | ref p=>
  cases rx;have e':(∃ xs,jg X.K H p xs/\k = !xs.isEmpty)\/(∃ xs,fH X.K H p xs/\k = !xs.isEmpty)\/∃ kvs,H p=some (.dK kvs)/\k = !kvs.isEmpty:=e;rcases e' with ⟨xs,hx,e'⟩ | ⟨xs,hx,e'⟩ | ⟨kvs,hx,e'⟩
  ·subst e'
   obtain⟨its,r,pl,hz⟩:=I.list hx;have hlen:=r.length;exact wpAny_truthy_list pl.isList (by simp only[List.size_toArray];omega) ⟨H,I.tok _,by rw[jG r];exact q⟩
  ·subst e'
   obtain⟨its,r,pl,hz⟩:=I.tuple hx;have hlen:=r.length;exact truthy_tuple pl (by simp only[List.size_toArray];omega) ⟨H,I.tok _,by rw[jG r];exact q⟩
  ·subst e'
   obtain⟨hz,hS,vs,r,m⟩:kvs.length<=sizeLine/\(p == sysModules)=false/\∃ vs,KV kvs vs/\s.heap.DictOf (cx X.prog X.w) p vs:=I.hok p _ hx;have hlen:kvs.length=vs.length:=Paired.length r;exact wpAny_truthy_dict hS m (by omega) ⟨H,I.tok _,by rw[pH r];exact q⟩
 | _=>exact(show False from e).elim
theorem uO(ha:PE X a ta)(he:∀ whole,isTrue a X.env whole=(do let v ← whole;standAt a.pos;holding [v] (truthy v))) :
  PT X a (fun σ H Q=>ta σ H fun x H'=>∃ k,nU X.K x H' k/\Q k H'):=by
 intro pins s σ H Q I h;exact isTrue_plain (bU (ha pins s σ H _ I h) fun v s1 ⟨x,H1,I1,r1,q1⟩=>l7 pins s1 σ H1 x v Q I1 r1 q1) (he _)
theorem pI:fJ X (binaryOp .Add) (fun x y H Q=>∃ i j,x=.str i/\y=.str j/\i.length + j.length<=sizeLine/\Q (.str (i++j)) H):=by
 intro pins s σ H x y v u Q I rx ry h;obtain⟨i,j,rfl,rfl,hz,q⟩:=h;obtain⟨t,rfl⟩:=rx;obtain⟨t',rfl⟩:=ry;exact add_str (fun t' tk=>⟨.str (i++j),H,I.tok _,⟨_,rfl⟩,q⟩) hz
theorem vals1{x:V}{us:List Value}(r:Vals [x] us):∃ u,us=[u]/\RelV x u:=by
 cases r with
 | cons r1 r2=>cases r2;exact⟨_,rfl,r1⟩
theorem vals2{x y:V}{us:List Value}(r:Vals [x,y] us):∃ u w',us=[u,w']/\RelV x u/\RelV y w':=by
 cases r with
 | cons r1 r2=>
  cases r2 with
  | cons r3 r4=>cases r4;exact⟨_,_,rfl,r1,r3⟩
theorem sX(hc:X.calm=true):eE X (.builtin "min") (fun xs H Q=>∃ i j,xs=[.int i,.int j]/\Q (.int (if j < i then j else i)) H):=by
 intro pins s σ H xs us Q I r h;obtain⟨i,j,rfl,q⟩:=h;obtain⟨u,w',rfl,⟨t,rfl⟩,⟨t',rfl⟩⟩:=vals2 r;refine min_two_ints (I.ok.hd hc) fun h' tk k=>⟨_,H,I.kept k,?_,q⟩
 by_cases hj:j < i
 ·rw[if_pos hj,if_pos hj];exact⟨_,rfl⟩
 ·rw[if_neg hj,if_neg hj];exact⟨_,rfl⟩
theorem sY:eE X (.type "int") (fun xs H Q=>(∃ i,xs=[.int i]/\Q (.int i) H)\/∃ k,xs=[.bl k]/\Q (.int (if k then 1 else 0)) H):=by
 intro pins s σ H xs us Q I r h;rcases h with ⟨i,rfl,q⟩ | ⟨k,rfl,q⟩
 ·obtain⟨u,rfl,t,rfl⟩:=vals1 r
  exact call_int_int ⟨.int i,H,I,⟨_,rfl⟩,q⟩
 ·obtain⟨u,rfl,r1⟩:=vals1 r
  cases r1;exact call_int_bool ⟨.int (if k then 1 else 0),H,I.tok _,⟨_,rfl⟩,q⟩
end
structure Bz(h:Heap)(x dx C:Addr)(mA:Str->Option Value):Prop where
 obj:h.get? x=some (PySem.W.instObj C dx)
 ns:h.Ns1 dx mA
 ne:dx≠x
theorem gp{h:Heap}{dx:Addr}{mA:Str->Option Value}(n:h.Ns1 dx mA):∃ od,h.get? dx=some od/\∀ name,PySem.W.lookIn name od=some (mA name):=by
 obtain⟨o,es,ep,ho,hd,hk,_,hm⟩:=n;refine⟨o,ho,fun name => ?_⟩
 have e:=hm name;unfold nsFind findBy at e;rw[← Array.find?_toList]at e;unfold PySem.W.lookIn;rw[hd];dsimp only;split
 ·rename_i y q
  rw[q]at e;exact congrArg some e
 ·rename_i q
  rw[q]at e
  have a:es.toList.any (·.refKey)=false:=by
   rw[List.any_eq_false];intro y hy;obtain⟨z,t,hkey⟩:=hk y (Array.mem_toList_iff.mp hy);simp[DictEntry.refKey,hkey]
  have a':¬ es.toList.any (·.refKey)=true:=by rw[a];exact Bool.false_ne_true
  rw[if_neg a'];exact congrArg some e
theorem Bz.look{h:Heap}{x dx C:Addr}{mA:Str->Option Value}(I:Bz h x dx C mA):∃ od,PySem.W.InstAt h x (PySem.W.instObj C dx) C (some od)/\∀ name,PySem.W.lookIn name od=some (mA name):=
 let ⟨od,ho,hl⟩:=gp I.ns
 ⟨od,⟨I.obj,rfl,rfl,ho⟩,hl⟩
section
variable{prog:Program}{w:World}{A:Around}{E:Value->Shared->Prop}{s:Shared}{K:PySem.W.Frag}{x dx C f:Addr}{mA:Str->Option Value}{name:Str}{v:Value}
end
theorem lX.some_of{v:V}{o:Option Value}(r:lX (some v) o):∃ u,o=some u/\RelV v u:=by
 cases o with
 | none=>exact(show False from r).elim
 | some u=>exact⟨u,rfl,r⟩
theorem sZ{v:V}{u:Value}(r:RelV v u):PySem.W.handedIn u=true:=by
 cases v with
 | non=>cases (show u=Value.none from r);rfl
 | bl b=>cases (show u=Value.bool b from r);rfl
 | int i=>obtain⟨t,e⟩:=(show ∃ t,u=Value.int i t from r);cases e;rfl
 | str x=>obtain⟨t,e⟩:=(show ∃ t,u=Value.str x t from r);cases e;rfl
 | DM b=>obtain⟨t,e⟩:=(show ∃ t,u=Value.bytes b t from r);cases e;rfl
 | flt b=>obtain⟨t,e⟩:=(show ∃ t,u=Value.float b t from r);cases e;rfl
 | ref a=>cases (show u=Value.ref a from r);rfl
 | ty n=>cases (show u=Value.type n from r);rfl
section
variable{P:Program}{w:World}{H H':Hp}{h h':Heap}{a C dx:Addr}{fs fs':List (Str×V)}
theorem ye(hok:iS P w H h)(e:H a=some (.ins C dx fs)):∃ mA,Bz h a dx C mA/\(∀ f,lX (fs.lookup f) (mA f))/\PySem.Within mA (fs.map (·.1))/\fs.length<=1000/\H dx=some (.own a):=by
 obtain⟨d,z,ne,ob,mA,n,r,q⟩:=(show cy P w H h a (.ins C dx fs) from hok a _ e)
 exact⟨mA,⟨ob,n,ne⟩,r,q,z,d⟩
end
structure DT(K:PySem.W.Frag)(C:Addr):Prop where
 pg:PySem.W.plainGet K C Str.empty=true
 hd:PySem.W.hasDictIn K C=true
 po:PySem.W.plainOver K C=true
 sa:PySem.W.findIn K (.ref C) "__setattr__"=some (some (.builtin "object.__setattr__"))
theorem DT.get{K:PySem.W.Frag}{C:Addr}(c:DT K C)(f:Str):PySem.W.plainGet K C f=true:=c.pg
def fk(K:PySem.W.Frag)(C:Addr)(f:Str):Prop:=PySem.W.findIn K (.ref C) f=some none
theorem fk.taker{K:PySem.W.Frag}{C:Addr}{f:Str}(n:fk K C f):PySem.W.takerIn K C f=some none:=by
 unfold PySem.W.takerIn;rw[show PySem.W.findIn K (.ref C) f=some none from n]
 rfl
structure Meth(K:PySem.W.Frag)(C:Addr)(m:Str)(f:Addr):Prop where
 at_:PySem.W.findIn K (.ref C) m=some (some (.ref f))
 fn:PySem.W.isFn K (.ref f)=true
 kp:PySem.W.keepIn K (.ref f)=true
section
variable{X:Cx}{pins:List (Addr×Obj)}{σ:St}{H:Hp}{s:Shared}{a C dx:Addr}{fs:List (Str×V)}{f:Str}{v:V}{A:Around}{E:Value->Shared->Prop}
theorem qR{prog:Program}{w:World}{env:Env}{e:Expr}{f:Str}{pos:Pos}{s:Shared}{Q:Value->Shared->Prop}(hb:attributeBase e f env (eval e env)=eval e env)
  (h:wpAny (model prog w) A (eval e env) (fun o s₁=>wpAny (model prog w) A (getAttr o f true) Q E s₁) E s):wpAny (model prog w) A (eval (.Attribute e f pos) env) Q E s:=
 Attribute_any_ h (by rw[arm_eval_Attribute,hb])
end
section
variable{X:Cx}{o e value:Expr}{f:Str}{pos pos' tpos:Pos}{ta tv:TE}
end
section
variable{X:Cx}{pins:List (Addr×Obj)}{σ:St}{H:Hp}{s:Shared}{A:Around}{E:Value->Shared->Prop}{Q:Value->Shared->Prop}{c:Value}{b:Bool}
inductive i9 (K:PySem.W.Frag) (H:Hp):V->Value->Prop where
 | non:i9 K H .non (.type "NoneType")
 | bl (x:Bool):i9 K H (.bl x) (.type "bool")
 | int (i:Int):i9 K H (.int i) (.type "int")
 | str (x:Str):i9 K H (.str x) (.type "str")
 | flt (x:UInt64):i9 K H (.flt x) (.type "float")
 | lst {a:Addr} {xs:List V} (e:H a=some (.lst xs)):i9 K H (.ref a) (.type "list")
 | i7 {a:Addr} {o:Obj} {xs:List V} (e:H a=some (.i7 o (.lst xs))):i9 K H (.ref a) (.type "list")
 | tup {a:Addr} {xs:List V} (e:H a=some (.tup xs)):i9 K H (.ref a) (.type "tuple")
 | dK {a:Addr} {kvs:List (Key×V)} (e:H a=some (.dK kvs)):i9 K H (.ref a) (.type "dict")
 | dT {a:Addr} {kvs:List (List Key×V)} (e:H a=some (.dT kvs)):i9 K H (.ref a) (.type "dict")
 | ins {a C dx:Addr} {fs:List (Str×V)} (e:H a=some (.ins C dx fs)) (cl:DT K C) (ha:PySem.W.findIn K (.ref C) "__class__"=some (some (.builtin "object.__class__")))
   (hn:PySem.W.specialIn K (.builtin "object.__class__") "__get__"=some (some (.builtin "getset_descriptor.__get__"))) (htk:PySem.W.takesIn K (.builtin "object.__class__")=some true)
   (hm:PySem.W.mroIn K C (.type "object")=some true):i9 K H (.ref a) (.ref C)
theorem cw{x:V}{u t:Value}(I:Inv X pins σ H s)(rx:RelV x u)(ty:i9 X.K H x t)(e:PySem.W.kitOne X.K t c=some b)(h:∀ tk,Q (.bool b) { s with toks:=tk }) :
  wpAny (model X.prog X.w) A (call (.builtin "isinstance") [u,c]) Q E s:=by
 cases ty with
 | non=>cases (show u=Value.none from rx);exact PySem.W.kia_one PySem.W.kitx_none I.fG True.intro e (fun z=>nomatch z) h
 | bl y=>cases (show u=Value.bool y from rx);exact PySem.W.kia_one PySem.W.kitx_bool I.fG True.intro e (fun z=>nomatch z) h
 | int i=>obtain⟨t,q⟩:=(show ∃ t,u=Value.int i t from rx);cases q;exact PySem.W.kia_one PySem.W.kitx_int I.fG True.intro e (fun z=>nomatch z) h
 | str y=>obtain⟨t,q⟩:=(show ∃ t,u=Value.str y t from rx);cases q;exact PySem.W.kia_one PySem.W.kitx_str I.fG True.intro e (fun z=>nomatch z) h
 | flt y=>obtain⟨t,q⟩:=(show ∃ t,u=Value.float y t from rx);cases q;exact PySem.W.kia_one PySem.W.kitx_float I.fG True.intro e (fun z=>nomatch z) h
 | @lst a xs ea=>
  cases (show u=Value.ref a from rx)
  obtain⟨_,_,n,_,h1⟩:=(show cy X.prog X.w H s.heap a (.lst xs) from I.hok a _ ea)
  exact PySem.W.kia_one PySem.W.kitx_list I.fG ⟨_,h1,rfl⟩ e (fun z=>nomatch z) h
 | @i7 a ob xs ea=>
  cases (show u=Value.ref a from rx)
  obtain⟨_,_,_,n,_,h1⟩:=(show cy X.prog X.w H s.heap a (.i7 ob (.lst xs)) from I.hok a _ ea)
  exact PySem.W.kia_one PySem.W.kitx_list I.fG ⟨_,h1,rfl⟩ e (fun z=>nomatch z) h
 | @tup a xs ea=>
  cases (show u=Value.ref a from rx)
  obtain⟨_,_,_,p⟩:=(show cy X.prog X.w H s.heap a (.tup xs) from I.hok a _ ea)
  obtain⟨o,h1,h2,_⟩:=p;exact PySem.W.kia_one PySem.W.kitx_tuple I.fG ⟨o,h1,h2⟩ e (fun z=>nomatch z) h
 | @dK a kvs ea=>
  cases (show u=Value.ref a from rx)
  obtain⟨_,_,vs,_,p⟩:=(show cy X.prog X.w H s.heap a (.dK kvs) from I.hok a _ ea)
  obtain⟨o,es,ep,h1,h2,_⟩:=p;exact PySem.W.kia_one PySem.W.kitx_dict I.fG ⟨o,h1,h2.1⟩ e (fun z=>nomatch z) h
 | @dT a kvs ea=>
  cases (show u=Value.ref a from rx)
  obtain⟨_,_,xs,_,o,es,ep,h1,h2,_⟩:=(show cy X.prog X.w H s.heap a (.dT kvs) from I.hok a _ ea)
  exact PySem.W.kia_one PySem.W.kitx_dict I.fG ⟨o,h1,h2.1⟩ e (fun z=>nomatch z) h
 | @ins a C dx fs ea cl ha hn htk hm=>
  cases (show u=Value.ref a from rx)
  obtain⟨mA,O,_⟩:=ye I.hok ea;obtain⟨od,J,_⟩:=O.look;exact PySem.W.kia_one (PySem.W.kitx_own (cl.get _) cl.hd ha hn htk hm) I.fG J e (fun z=>nomatch z) h
end
structure bJ(k:Nat)(A:Around):Prop where
 hd:A.handled=none
 dp:A.depth + 3 * k + 5 < recursionLimit
 un:A.units + 16 * k + 200 < cLine
theorem bJ.mono{j k:Nat}{A:Around}(r:bJ k A)(h:j<=k):bJ j A:=⟨r.hd,by have:=r.dp;omega,by have:=r.un;omega⟩
theorem bJ.deeper{k:Nat}{A:Around}(r:bJ (k + 1) A)(env:Env):bJ k (A.deeper env):=
 ⟨r.hd,by have:=r.dp;show A.depth + 1 + 3 * k + 5 < _;omega,by have:=r.un;show A.units + 3 + 16 * k + 200 < _;omega⟩
theorem bJ.in1{k:Nat}{A:Around}(r:bJ (k + 1) A):bJ k A.in1:=
 ⟨r.hd,by have:=r.dp;show A.depth + 3 * k + 5 < _;omega,by have:=r.un;show A.units + 1 + 16 * k + 200 < _;omega⟩
theorem pJ{A:Around}{C:Addr}{us:List Value}{kw:List (Str×Value)}:(A.under (.builtin "type.__call__" ⟨.ref C::us,kw⟩)).depth=A.depth + 1:=by
 first | rfl | simp[Around.under,Code.weight,Code.isCreation,Code.isGuard,Code.isCaller,Code.frames,Code.isFrame,guardIds]
theorem pK{A:Around}{C:Addr}{us:List Value}{kw:List (Str×Value)}:(A.under (.builtin "type.__call__" ⟨.ref C::us,kw⟩)).units=A.units + 1:=by
 first | rfl | simp[Around.under,Code.cUnits,Code.frames,Code.isFrame]
theorem bJ.make{k:Nat}{A:Around}(r:bJ (k + 1) A)(C:Addr)(us:List Value)(kw:List (Str×Value)):bJ k (A.under (.builtin "type.__call__" ⟨.ref C::us,kw⟩)):=
 ⟨r.hd,by have:=r.dp;rw[pJ];omega,by have:=r.un;rw[pK];omega⟩
theorem bJ.depth{k:Nat}{A:Around}(r:bJ k A):A.depth < recursionLimit:=by have:=r.dp;omega
theorem bJ.units{k:Nat}{A:Around}(r:bJ k A):A.units + 64 < cLine:=by have:=r.un;omega
noncomputable def Ez:TA:=fun _ H Q=>Q [] H
noncomputable def EA(ta:TE)(tr:TA):TA:=fun σ H Q=>ta σ H fun x H1=>tr σ H1 fun xs H2=>Q (x::xs) H2
section
variable{X:Cx}{e:Expr}{es:List Expr}{te:TE}{t:TA}{pos:Pos}
theorem iE:PA X [] Ez:=fun _ _ _ _ H Q I h=>Calls.spliced_nil ⟨[],H,I,.nil,h⟩
theorem di(ha:PE X e te)(hr:PA X es t)(hs:starEach (e::es) X.env=(false,eval e X.env)::starEach es X.env:=by rfl):PA X (e::es) (EA te t):=by
 intro pos pins s σ H Q I h;rw[hs]
 show wpAny _ _ (spliced ((false,eval e X.env)::backTo pos (starEach es X.env))) _ _ s
 refine Calls.spliced_cons (bU (ha pins s σ H _ I h) fun u s1 ⟨x,H1,I1,r1,q1⟩ => ?_)
 exact bU (hr pos pins s1 σ H1 _ I1 q1) fun us s2 ⟨xs,H2,I2,r2,q2⟩=>⟨x::xs,H2,I2,.cons r1 r2,q2⟩
def Ki(t:TA):TE:=fun σ H Q=>t σ H fun xs H1=>xs.length<=sizeLine/\∀ p,H1 p=none->Q (.ref p) (upd H1 p (.tup xs))
def Kj(t:TA):TE:=fun σ H Q=>t σ H fun xs H1=>xs.length<=sizeLine/\∀ p,H1 p=none->Q (.ref p) (upd H1 p (.lst xs))
theorem BA{x1}(h:PA X es t):PE X (.Tuple es x1 pos) (Ki t):=by
 intro pins s σ H Q I hq;refine wpAny_Tuple_spliced (bU (h pos pins s σ H _ I hq) fun us s1 ⟨xs,H1,I1,r,z,q⟩=>⟨by rw[← r.length];exact z,?_⟩)
 have hf:H1 s1.heap.objs.size=none:=I1.hok.fresh (Nat.le_refl _);refine⟨.ref s1.heap.objs.size,upd H1 s1.heap.objs.size (.tup xs),I1.laid (t':=s1.toks) (fun b u e=>Heap.get?_push_of_some _ e) (Nat.le_refl _) ?_,rfl,q _ hf⟩
 exact⟨z,us,r,⟨_,Heap.get?_push_size _ rfl,rfl,_,rfl⟩⟩
theorem BB(h:PA X es t):PE X (.List es pos) (Kj t):=by
 intro pins s σ H Q I hq;refine wpAny_List_spliced (bU (h pos pins s σ H _ I hq) fun us s1 ⟨xs,H1,I1,r,z,q⟩=>⟨by rw[← r.length];exact z,?_⟩)
 have hf:H1 s1.heap.objs.size=none:=I1.hok.fresh (Nat.le_refl _);refine⟨.ref s1.heap.objs.size,upd H1 s1.heap.objs.size (.lst xs),I1.laid (t':=s1.toks) (fun b u e=>Heap.get?_push_of_some _ e) (Nat.le_refl _) ?_,rfl,q _ hf⟩
 exact⟨z,us,0,r,Heap.get?_push_size _ rfl⟩
end
abbrev Sp:=List V->Hp->VK->XK->Prop
abbrev qS:=List Env->Hp->Shared->XK->Value->Shared->Prop
structure nV(P:Program)(w:World)(K:PySem.W.Frag)(mg:Str->Option Value)(base:Heap)(A:Around)(outer:List Env)(s:Shared)(H:Hp):Prop where
 frames:A.frames=some outer
 mod:Mod K mg base
 bs:∀ b o,base.get? b=some o->s.heap.get? b=some o/\H b=none
 sS:base.objs.size<=s.heap.objs.size
 fN:s.heap.FunFrames base outer
 uA:∀ b∈frs outer,H b=none
 hok:iS P w H s.heap
 bare:AllBare s.gens
def CE(outer:List Env)(P:Program)(w:World)(H:Hp)(s:Shared)(Q:VK)(u:Value)(s':Shared):Prop:=
 ∃ v H',s'.os=s.os/\AllBare s'.gens/\Un (frs outer) [] H H' s.heap s'.heap/\iS P w H' s'.heap/\RelV v u/\Q v H'
def CR(CX:qS)(outer:List Env)(P:Program)(w:World)(H:Hp)(s:Shared)(Q:VK)(E:XK)(r:Result)(s':Shared):Prop:=
 match r with
 | .ok (.ret u)=>CE outer P w H s Q u s'
 | .ok _=>False
 | .error e=>CX outer H s E e s'
structure bO(P:Program)(w:World)(K:PySem.W.Frag)(mg:Str->Option Value)(base:Heap)(CX:qS)(k:Nat)(f:Addr)(fd:FuncData)(ps:List Str)(sp:Sp):Prop where
 len:∀ vs H Q E,sp vs H Q E->vs.length=ps.length
 run:∀ (A:Around) (outer:List Env) (s:Shared) (H:Hp) (args:Args) (us:List Value) (vs:List V) (Q:VK) (E:XK),bJ k A->nV P w K mg base A outer s H->BindsTo s fd args (ps.zip us)->Vals vs us->sp vs H Q E ->
  codeAny (model P w) A (.call (.ref f) args) (CR CX outer P w H s Q E) s
theorem bO.mono{P:Program}{w:World}{K:PySem.W.Frag}{mg:Str->Option Value}{base:Heap}{CX:qS}{j k:Nat}{f:Addr}{fd:FuncData}{ps:List Str}{sp:Sp}(F:bO P w K mg base CX j f fd ps sp)(h:j<=k) :
  bO P w K mg base CX k f fd ps sp:=⟨F.len,fun A outer s H args us vs Q E hr=>F.run A outer s H args us vs Q E (hr.mono h)⟩
theorem bO.imp{P:Program}{w:World}{K:PySem.W.Frag}{mg:Str->Option Value}{base:Heap}{CX:qS}{k:Nat}{f:Addr}{fd:FuncData}{ps:List Str}{sp NU:Sp}(F:bO P w K mg base CX k f fd ps sp)
  (h:∀ vs H Q E,NU vs H Q E->sp vs H Q E):bO P w K mg base CX k f fd ps NU:=
 ⟨fun vs H Q E q=>F.len vs H Q E (h _ _ _ _ q),fun A outer s H args us vs Q E hr he hb hv hs=>F.run A outer s H args us vs Q E hr he hb hv (h _ _ _ _ hs)⟩
theorem nV.make{P:Program}{w:World}{K:PySem.W.Frag}{mg:Str->Option Value}{base:Heap}{A:Around}{outer:List Env}{s:Shared}{H:Hp}(e:nV P w K mg base A outer s H)(C:Addr)(us:List Value)(kw:List (Str×Value)) :
  nV P w K mg base (A.under (.builtin "type.__call__" ⟨.ref C::us,kw⟩)) outer s H:=⟨by first | exact e.frames | (simpa[Around.under,Code.envs,Code.isFrame,pushEnvs] using e.frames),e.mod,e.bs,e.sS,e.fN,e.uA,e.hok,e.bare⟩
section
variable{X:Cx}{pins:List (Addr×Obj)}{σ:St}{H:Hp}{s s':Shared}
theorem Inv.env0(I:Inv X pins σ H s):nV X.prog X.w X.K X.mg X.base X.A X.stack s H:=
 ⟨I.ok.frames,I.ok.mod,I.bs,Nat.le_trans I.ok.sS I.sz,I.stack,I.jf,I.hok,I.bare⟩
theorem Inv.after{Q:VK}{u:Value}(I:Inv X pins σ H s)(h:CE X.stack X.prog X.w H s Q u s'):EP X pins σ Q u s':=by
 obtain⟨v,H',os,bare,un,hok,r,q⟩:=h;obtain⟨hh,g,d,t,os'⟩:=s';obtain rfl:os'=s.os:=os;exact⟨v,H',I.call (h':=hh) (g':=g) (d':=d) (t':=t) (ch:=[]) un hok bare (fun b z=>absurd z (by simp)),r,q⟩
end
noncomputable def AB(sp:Sp)(qT:List V)(E:XK)(t:TA):TE:=fun σ H Q=>t σ H fun vs H1=>sp (vs++qT) H1 Q E
def Binds(K:PySem.W.Frag)(fd:FuncData)(ps:List Str)(ds:List Value):Prop:=
 ∀ (s:Shared) (us:List Value),K.In s.heap->(us++ds).length=ps.length->BindsTo s fd ⟨us,[]⟩ (ps.zip (us++ds))
theorem Binds.all{K:PySem.W.Frag}{fd:FuncData}{ps:List Str}(h:∀ us:List Value,us.length=ps.length->bindArgs fd ⟨us,[]⟩=pure (ps.zip us)):Binds K fd ps []:=fun s us _ hl=>by
 rw[List.append_nil]at hl ⊢;exact .of_eq (h us hl)
def Passes(CX:qS)(X:Cx)(E:XK):Prop:=∀ (pins:List (Addr×Obj)) (σ:St) (H:Hp) (s:Shared) (e:Value) (s':Shared),Inv X pins σ H s->CX X.stack H s E e s'->X.xe e s'
section
variable{X:Cx}{CX:qS}{k:Nat}{f C:Addr}{fd:FuncData}{ps:List Str}{sp:Sp}{qT:List V}{ds:List Value}{E:XK}{x m:Str}{p pos apos:Pos}{e o:Expr}{es:List Expr}{ta:TE}{t:TA}
theorem uP{pins:List (Addr×Obj)}{σ:St}{H:Hp}{s:Shared}{Q:VK}{us:List Value}{vs:List V}(F:bO X.prog X.w X.K X.mg X.base CX k f fd ps sp)(hr:bJ k X.A)(hb:Binds X.K fd ps ds)(hd:Vals qT ds)(hx:Passes CX X E)
  (I:Inv X pins σ H s) (r:Vals vs us) (h:sp (vs++qT) H Q E):wpAny (model X.prog X.w) X.A (call (.ref f) us) (EP X pins σ Q) X.xe s:=by
 have r2:Vals (vs++qT) (us++ds):=r.append hd;have hl:(us++ds).length=ps.length:=by rw[← r2.length];exact F.len _ _ _ _ h
 refine wpAny_call (codeAny_mono (F.run X.A X.stack s H ⟨us,[]⟩ (us++ds) (vs++qT) Q E hr I.env0 (hb s us I.fG hl) r2 h) fun r s' hq => ?_)
 cases r with
 | error e=>exact hx pins σ H s e s' I hq
 | ok fl=>
  cases fl with
  | ret u=>exact I.after hq
  | next=>exact False.elim hq
  | brk=>exact False.elim hq
  | cont=>exact False.elim hq
theorem jj(F:bO X.prog X.w X.K X.mg X.base CX k f fd ps sp)(hr:bJ k X.A)(hg:Gl X x)(hm:X.mg x=some (.ref f))(hk:PySem.W.keepIn X.K (.ref f)=true)(hb:Binds X.K fd ps ds)(hd:Vals qT ds)(hx:Passes CX X E)
  (ha:PA X (e::es) t) (hdb:(x == ("__debug__":Str))=false:=by decide) (he:starEach (e::es) X.env=(false,eval e X.env)::starEach es X.env:=by rfl) (hpl:(backTo pos (starEach es X.env)).any (·.1)=false:=by rfl) :
  PE X (.Call (.Name x p) (e::es) [] pos) (AB sp qT E t):=by
 intro pins s σ H Q I h;refine wpAny_Call_Name_kw (fi I hg hm ?_ hdb);refine PySem.W.callWith_K (h₀:=X.base) I.ok.mod.DN hk (bU (ha pos pins s σ H _ I h) fun us s1 ⟨vs,H1,I1,r,q⟩=>⟨I1.fG,?_⟩) he hpl
 exact uP F hr hb hd hx I1 r q
theorem uQ(F:bO X.prog X.w X.K X.mg X.base CX k f fd ps sp)(hr:bJ k X.A)(hg:Gl X x)(hm:X.mg x=some (.ref f))(hk:PySem.W.keepIn X.K (.ref f)=true)(hb:Binds X.K fd ps ds)(hd:Vals qT ds)(hx:Passes CX X E)
  (hdb:(x == ("__debug__":Str))=false:=by decide):PE X (.Call (.Name x p) [] [] pos) (AB sp qT E Ez):=by
 intro pins s σ H Q I h;refine wpAny_Call_Name_kw (fi I hg hm ?_ hdb);exact PySem.W.callWith_K0 I.fG hk (uP (us:=[]) F hr hb hd hx I .nil h)
structure Mk(K:PySem.W.Frag)(C f:Addr):Prop where
 makes:PySem.W.makesIn K C=true
 init:PySem.W.findIn K (.ref C) "__init__"=some (some (.ref f))
 fn:PySem.W.isFn K (.ref f)=true
 kp:PySem.W.keepIn K (.ref C)=true
end
section
variable{X:Cx}{CX:qS}{k:Nat}{f C:Addr}{fd:FuncData}{ps ks:List Str}{sp:Sp}{E:XK}{x m:Str}{p pos apos PY:Pos}{e o:Expr}{es:List Expr}{kws:List Keyword}{te ta:TE}{t tk:TA}{nm:Option Str}
variable{g:List Value->List Value->List Value}{gV:List V->List V->List V}
end
structure fm(N P:List Str)(sc:Scope):Prop where
 kind:sc.kind=.function
 co:sc.isCoroutine=false
 gen:sc.isGenerator=false
 nd:N.Nodup
 pre:N.take P.length=P
 par:∀ x∈P,sc.names.lookup x=some .local\/sc.names.lookup x=some .cell
 BC:∀ y∈sc.names,y.2≠.free
theorem lg{kindOf:Str->Option NameKind}{x:Str}:∀ {binds:List (Str×Value)} {m:Str->Option Value},(∀ v,(x,v)∉binds)->bindL kindOf binds m x=m x
 | [],_,_=>rfl
 | (n,v)::r,m,h=>by
  unfold bindL;rw[lg fun w hw=>h w (List.mem_cons_of_mem _ hw)]
  split
  ·have:x≠n:=by rintro rfl;exact h v List.mem_cons_self
   simp[this]
  ·rfl
theorem lh{kindOf:Str->Option NameKind}{x:Str}:∀ {binds:List (Str×Value)} {m:Str->Option Value},(∀ v,(x,v)∉binds)->bindC kindOf binds m x=m x
 | [],_,_=>rfl
 | (n,v)::r,m,h=>by
  unfold bindC;rw[lh fun w hw=>h w (List.mem_cons_of_mem _ hw)]
  split
  ·rfl
  ·have:x≠n:=by rintro rfl;exact h v List.mem_cons_self
   simp[this]
theorem ll{kindOf:Str->Option NameKind}{x:Str}{v:Value}:∀ {P:List Str} {vs:List Value} {i:Nat} {m:Str->Option Value},P.Nodup->P[i]?=some x->vs[i]?=some v->kindOf x=some .local ->
  bindL kindOf (P.zip vs) m x=some v
 | [],_,_,_,_,h,_,_=>by simp at h
 | _::_,[],_,_,_,_,h,_=>by simp at h
 | p::P,w::vs,0,m,nd,h1,h2,hk=>by
  simp at h1 h2;subst h1;subst h2
  show bindL kindOf ((p,w)::P.zip vs) m p=_
  unfold bindL;rw[lg fun v hv=>(List.nodup_cons.mp nd).1 (List.of_mem_zip hv).1,if_pos hk]
  simp
 | p::P,w::vs,i + 1,m,nd,h1,h2,hk=>by
  show bindL kindOf ((p,w)::P.zip vs) m x=_
  unfold bindL;exact ll (i:=i) (List.nodup_cons.mp nd).2 (by simpa using h1) (by simpa using h2) hk
theorem lq{kindOf:Str->Option NameKind}{x:Str}{v:Value}:∀ {P:List Str} {vs:List Value} {i:Nat} {m:Str->Option Value},P.Nodup->P[i]?=some x->vs[i]?=some v->kindOf x≠some .local ->
  bindC kindOf (P.zip vs) m x=some v
 | [],_,_,_,_,h,_,_=>by simp at h
 | _::_,[],_,_,_,_,h,_=>by simp at h
 | p::P,w::vs,0,m,nd,h1,h2,hk=>by
  simp at h1 h2;subst h1;subst h2
  show bindC kindOf ((p,w)::P.zip vs) m p=_
  unfold bindC;rw[lh fun v hv=>(List.nodup_cons.mp nd).1 (List.of_mem_zip hv).1,if_neg hk]
  simp
 | p::P,w::vs,i + 1,m,nd,h1,h2,hk=>by
  show bindC kindOf ((p,w)::P.zip vs) m x=_
  unfold bindC;exact lq (i:=i) (List.nodup_cons.mp nd).2 (by simpa using h1) (by simpa using h2) hk
noncomputable def start(N:List Str)(vs:List V):St:=vs.map some++List.replicate (N.length - vs.length) none
noncomputable def bW(CX:qS)(P:Program)(w:World)(K:PySem.W.Frag)(mg:Str->Option Value)(base:Heap)(N:List Str)(qual:Str)(scope:Scope)(f:Addr)(cd:Value)(A:Around)(outer:List Env)(s:Shared)(H:Hp)(E:XK):Cx where
 prog:=P
 w:=w
 K:=K
 mg:=mg
 base:=base
 A:=A.deeper (envOfC qual scope s.heap.objs.size f cd)
 N:=N
 s₀:=s
 H₀:=H
 env:=envOfC qual scope s.heap.objs.size f cd
 outer:=outer
 stack:=envOfC qual scope s.heap.objs.size f cd::outer
 ex:=[]
 calm:=true
 fn:=fun _=>true
 pn:=[]
 xe:=fun e s'=>wpAny (model P w) (A.deeper (envOfC qual scope s.heap.objs.size f cd)) (leaving (envOfC qual scope s.heap.objs.size f cd) e) (fun _ s''=>CX outer H s E e s'') (fun e' s''=>CX outer H s E e' s'') s'
theorem nW{sc:Scope}{n:Nat}{x:Str}(h:sc.names.lookup x=some .cell):∃ c,(cellsFrom n sc.names []).lookup x=some c:=by
 have q:=PySem.W.cellsFrom_some sc.names n [] (.inl h);exact Option.isSome_iff_exists.mp q
theorem iF{CX:qS}{P:Program}{w:World}{K:PySem.W.Frag}{mg:Str->Option Value}{base:Heap}{N ps:List Str}{qual:Str}{scope:Scope}{f:Addr}{cd:Value}{A:Around}{outer:List Env}{s s1:Shared}{H:Hp}{E:XK}{us:List Value}{vs:List V}
  (S:fm N ps scope) (hd:A.handled=none) (e0:nV P w K mg base A outer s H) (hl:vs.length=ps.length) (r:Vals vs us)
  (x:InCallC s s.heap.objs.size (bindL (envOfC qual scope s.heap.objs.size f cd).kindOf (ps.zip us) fun _=>none) (cellsFrom (s.heap.objs.size + 1) scope.names []) (bindC (envOfC qual scope s.heap.objs.size f cd).kindOf (ps.zip us) fun _=>none) s1) :
  Inv (bW CX P w K mg base N qual scope f cd A outer s H E) [] (start N vs) H s1:=by
 have hpl:ps.length<=N.length:=by have:=congrArg List.length S.pre;rw[List.length_take]at this;omega
 obtain⟨h1,tk,rfl,hk⟩:=x.done;have EB:∀ b:Addr,b∉(bW CX P w K mg base N qual scope f cd A outer s H E).ex:=fun b z=>absurd (show b∈([]:List Addr) from z) (by simp)
 refine⟨⟨e0.mod,S.kind,rfl,rfl,Nat.le_refl _,fun y z c h1 h2 => ?_,fun y hy => ?_,fun y c _ h => ?_,fun _=>hd,Around.frames_deeper e0.frames,.inr ⟨rfl,rfl⟩,fun b z=>absurd z (EB b),e0.bs,e0.sS,fun b _ _=>EB b,fun b z=>absurd z (EB b),e0.fN,e0.uA⟩,
  rfl,e0.bare,Un.kept hk,⟨_,x.toInCall.ns,fun i y v h1 h2 h3 => ?_⟩,fun y c h=>⟨_,x.cell y c h⟩,e0.hok.fresh (Nat.le_refl _),fun y c h => ?_,fun p hp=>absurd (show p∈([]:List (Addr×Obj)) from hp) (by simp),e0.hok.kept hk,?_⟩
 ·exact name_of_addr x.apart (PySem.mem_of_lookup h1) (PySem.mem_of_lookup h2)
 ·have hy:scope.names.lookup y=some .cell\/scope.names.lookup y=some .free:=hy
  rcases hy with hy | hy
  ·exact nW hy
  ·exact absurd rfl (S.BC _ (PySem.mem_of_lookup hy))
 ·exact Nat.le_of_lt (x.above y c (PySem.mem_of_lookup h))
 ·have hi:i < vs.length:=by
   unfold start at h2
   by_cases hi:i < vs.length
   ·exact hi
   ·rw[List.getElem?_append_right (by simpa using hi)]at h2
    rw[List.getElem?_replicate]at h2;split at h2<;>cases h2
  have ha:vs[i]?=some v:=by
   unfold start at h2;rw[List.getElem?_append_left (by simpa using hi),List.getElem?_map]at h2
   cases e:vs[i]? with
   | none=>rw[e]at h2;cases h2
   | some a=>rw[e]at h2;cases h2;rfl
  obtain⟨u,hu,rv⟩:=r.get ha
  have hp:ps[i]?=some y:=by
   rw[← S.pre,List.getElem?_take_of_lt (by omega)];exact h1
  have NW:ps.Nodup:=by rw[← S.pre];exact S.nd.sublist (List.take_sublist _ _)
  refine⟨u,rv,?_⟩;rcases S.par y (List.mem_of_getElem? hp) with k | k
  ·exact .inl ⟨k,ll NW hp hu k⟩
  ·obtain⟨c,e⟩:=nW (n:=s.heap.objs.size + 1) k
   refine .inr ⟨.inl k,c,e,?_⟩;have q:=x.cell y c e;rw[lq NW hp hu (by show scope.names.lookup y≠_;rw[k];decide)]at q
   exact q
 ·have hz:=e0.hok.fresh (Nat.le_of_lt (x.above y c (PySem.mem_of_lookup h)))
  exact⟨.inl hz,fun _=>hz⟩
 ·unfold start
  show _=N.length
  rw[List.length_append,List.length_map,List.length_replicate];omega
theorem uR{CX:qS}{P:Program}{w:World}{K:PySem.W.Frag}{mg:Str->Option Value}{base:Heap}{k:Nat}{f:Addr}{name qual:Str}{params:Arguments}{body:List Stmt}{scope:Scope}{dV kV doc pm cdv ct oc:Value}{an od:Option Addr}
  {osl:Array (Option Value)} {N ps:List Str} {sp:Sp} (lk:K.lookup f=some ⟨oc,od,.func (PySem.W.fnOf name qual params body scope dV kV doc pm an cdv ct),osl⟩) (hcd:PySem.W.codeIn K cdv qual=true) (S:fm N ps scope)
  (len:∀ vs H Q E,sp vs H Q E->vs.length=ps.length)
  (hbody:∀ (A:Around) (outer:List Env) (s:Shared) (H:Hp) (vs:List V) (Q:VK) (E:XK),bJ k (A.deeper (envOfC qual scope s.heap.objs.size f cdv))->sp vs H Q E ->
   ∃ t,gZ (bW CX P w K mg base N qual scope f cdv A outer s H E) body t/\t { nx:=fun _ H'=>Q .non H',rt:=Q } (start N vs) H) :
  bO P w K mg base CX (k + 1) f (PySem.W.fnOf name qual params body scope dV kV doc pm an cdv ct) ps sp:=by
 refine⟨len,fun A outer s H args us vs Q E hr e0 hb r hsp => ?_⟩
 have hl:=len _ _ _ _ hsp;have KX:K.In s.heap:=e0.mod.DN.keeps fun b o e=>(e0.bs b o e).1
 have lim:s.heap.NoLimit:=e0.mod.nolimit.keeps fun b o e=>(e0.bs b o e).1
 have hkind:∀ y∈ps.zip us,scope.names.lookup y.1=some .local\/(scope.names.lookup y.1=some .cell/\((cellsFrom (s.heap.objs.size + 1) scope.names []).lookup y.1).isSome=true):=fun ⟨n,v⟩ hy=>by
  rcases S.par n (List.of_mem_zip hy).1 with q | q
  ·exact .inl q
  ·exact .inr ⟨q,PySem.W.cellsFrom_some _ _ _ (.inl q)⟩
 refine codeAny_call_function hr.depth (KX _ _ lk) rfl S.co S.gen rfl (PySem.W.codeRec_of KX hcd) (hb _ _ _ _ ?_);refine wpAny_newFunctionEnv_cells S.kind hkind fun env he s1 x => ?_
 subst he;refine⟨lim.keeps x.toInCall.keep,codeAny_func ?_⟩;obtain⟨t,ht,hq⟩:=hbody A outer s H vs Q E (hr.deeper _) hsp;have I:Inv (bW CX P w K mg base N qual scope f cdv A outer s H E) [] (start N vs) H s1:=iF S hr.hd e0 hl r x;refine wpAny_mono (ht [] s1 (start N vs) H _ I hq) (fun fl s' hs => ?_) fun e s' hs=>hs
 have fin:∀ {σ':St} {H':Hp} {v:V} {u:Value},Inv (bW CX P w K mg base N qual scope f cdv A outer s H E) [] σ' H' s'->RelV v u->Q v H'->CE outer P w H s Q u s':=
  fun {σ' H' v u} J rv q=>⟨v,H',J.os,J.bare,J.base,J.hok,rv,q⟩
 cases fl with
 | ret u=>
  obtain⟨v,σ',H',J,rv,q⟩:=hs;exact fin J rv q
 | next=>
  obtain⟨σ',H',J,q⟩:=hs;exact fin (v:=V.non) (u:=Value.none) J rfl q
 | brk=>
  obtain⟨_,_,_,q⟩:=hs;exact False.elim q
 | cont=>
  obtain⟨_,_,_,q⟩:=hs;exact False.elim q
section
variable{X:Cx}{x:Str}{p pos:Pos}{e:Expr}{es:List Expr}{t:TA}{id T:String}{r:List V->Hp->VK->Prop}
noncomputable def NX(r:List V->Hp->VK->Prop)(t:TA):TE:=fun σ H Q=>t σ H fun vs H1=>r vs H1 Q
theorem jH(hc:eE X (.builtin id) r)(hg:Gl X x)(hm:X.mg x=none)(hv:bootBuiltins x=some (.builtin id))(ha:PA X (e::es) t)(hn:x≠"__name__":=by decide)(hdb:(x == ("__debug__":Str))=false:=by decide)
  (he:starEach (e::es) X.env=(false,eval e X.env)::starEach es X.env:=by rfl) (hpl:(backTo pos (starEach es X.env)).any (·.1)=false:=by rfl):PE X (.Call (.Name x p) (e::es) [] pos) (NX r t):=by
 intro pins s σ H Q I h;refine wpAny_Call_Name_kw (dF I hg hm hv ?_ hn hdb);exact PyProof.Rows.callWith_builtin1 (bU (ha pos pins s σ H _ I h) fun us s1 ⟨vs,H1,I1,r1,q1⟩=>hc pins s1 σ H1 vs us Q I1 r1 q1) he hpl
theorem s_(hc:eE X (.type T) r)(hg:Gl X x)(hm:X.mg x=none)(hv:bootBuiltins x=some (.type T))(ha:PA X (e::es) t)(hn:x≠"__name__":=by decide)(hdb:(x == ("__debug__":Str))=false:=by decide)
  (he:starEach (e::es) X.env=(false,eval e X.env)::starEach es X.env:=by rfl) (hpl:(backTo pos (starEach es X.env)).any (·.1)=false:=by rfl):PE X (.Call (.Name x p) (e::es) [] pos) (NX r t):=by
 intro pins s σ H Q I h;refine wpAny_Call_Name_kw (dF I hg hm hv ?_ hn hdb);exact PyProof.Rows.callWith_type1 (bU (ha pos pins s σ H _ I h) fun us s1 ⟨vs,H1,I1,r1,q1⟩=>hc pins s1 σ H1 vs us Q I1 r1 q1) he hpl
end
end L2
namespace HT
open PySem PyProof.Rows
section
open PySem.SeqAt
open PySem.AutoSeq1 (wpAny_loadPart')
open PySem.MeetsSeq PySem.MeetsSeq2 PySem.MeetsSeq3
end
section
variable{prog:Program}{w:World}{A:Around}{E:Value->Shared->Prop}{s:Shared}
theorem yf{t b:Addr}{vs ws:List Value}{Q:Value->Shared->Prop}(ht:IsTup s.heap t vs.toArray)(hb:IsTup s.heap b ws.toArray)(hv:vs≠[])
  (h1:ws=[]->Q (.ref t) s) (h2:ws≠[]->Q (.ref s.heap.objs.size) { s with heap:=s.heap.push { cls:=.type "tuple",data:=.seq (vs++ws).toArray } })
  (hsz:vs.length + ws.length<=sizeLine):wpAny (model prog w) A (binaryOp .Add (.ref t) (.ref b)) Q E s:=by
 obtain⟨⟨cls,dd,data,sl⟩,ho,hc,n,hd⟩:=id ht;obtain⟨⟨cls2,dd2,data2,sl2⟩,ho2,hc2,n2,hd2⟩:=id hb;simp only at hc hd hc2 hd2;subst hc hd hc2 hd2;have e:vs.toArray++ws.toArray=(vs++ws).toArray:=by simp
 by_cases hw:ws=[]
 ·exact concat_meets ⟨_,ho,rfl⟩ ⟨_,ho2,rfl⟩ noFill_tuple_add seq_tuple_add PySem.F.slot_tuple_add PySem.F.entry_tuple_add (PySem.F.args_tuple_add_2 _ _)
   (tuple_addW1 t b vs.toArray ws.toArray n n2 dd dd2 sl sl2 (by simpa using hv) (by simp[hw])) ⟨ho,ho2,h1 hw⟩
 ·refine concat_meets ⟨_,ho,rfl⟩ ⟨_,ho2,rfl⟩ noFill_tuple_add seq_tuple_add PySem.F.slot_tuple_add PySem.F.entry_tuple_add (PySem.F.args_tuple_add_2 _ _)
   (tuple_addW2 t b vs.toArray ws.toArray n n2 dd dd2 sl sl2 (by simpa using hv) (by simpa using hw) (by rw[List.size_toArray,List.size_toArray];exact hsz)) ⟨ho,ho2,?_⟩
  rw[e];exact h2 hw
noncomputable def ck(n d:Nat):Option Int->Nat
 | none=>d
 | some v=>if v < 0 then (v + (n:Int)).toNat else min v.toNat n
theorem nX(n d:Nat):ck n d none=d:=rfl
theorem jk(n d k:Nat):ck n d (some (k:Int))=min k n:=by
 show(if (k:Int) < 0 then ((k:Int) + (n:Int)).toNat else min (k:Int).toNat n)=min k n
 rw[if_neg (by omega),Int.toNat_natCast]
theorem l9(n d:Nat)(hd:d<=n)(o:Option Int):ck n d o<=n:=by
 cases o with
 | none=>exact hd
 | some v=>
  show(if v < 0 then (v + (n:Int)).toNat else min v.toNat n)<=n
  by_cases hv:v < 0
  ·rw[if_pos hv];omega
  ·rw[if_neg hv];exact Nat.min_le_right _ _
theorem qU(v:Int)(n d:Nat):(if v < 0 then max (v + (n:Int)) 0 else min v (n:Int))=((ck n d (some v):Nat):Int):=by
 show(if v < 0 then max (v + (n:Int)) 0 else min v (n:Int))=(((if v < 0 then (v + (n:Int)).toNat else min v.toNat n):Nat):Int)
 by_cases hv:v < 0
 ·simp only[if_pos hv];omega
 ·simp only[if_neg hv];omega
theorem pL(lo hi:Option Int)(n:Nat):Builtin.Slice.sliceAdjust lo hi 1 (n:Int)=(((ck n 0 lo:Nat):Int),((ck n n hi:Nat):Int)):=by
 have h1:¬ ((1:Int) < 0):=by omega
 unfold Builtin.Slice.sliceAdjust;simp only[h1,if_false];refine Prod.ext ?_ ?_
 ·cases lo with
  | none=>rfl
  | some v=>exact qU v n 0
 ·cases hi with
  | none=>rfl
  | some v=>exact qU v n n
theorem pM(i j:Nat):Builtin.Slice.slicePlaces (i:Int) (j:Int) 1=j - i:=by
 unfold Builtin.Slice.slicePlaces;have h1:(1:Int) > 0:=by omega
 simp only[h1,if_true,Int.ediv_one];split<;>omega
theorem jJ{v:Value}{o:Option Int}{Q:Option Int->Shared->Prop}(p:IsPart v o)(h:Q o s):wpAny (model prog w) A (Builtin.Slice.slicePartIndex v) Q E s:=by
 cases p with
 | none=>exact slicePart_none h
 | int i t=>exact slicePart_int h
theorem eV{sl:Addr}{vl vu:Value}{lo hi:Option Int}{n:Nat}{Q:Int×Int×Nat->Shared->Prop}(hs:s.heap.IsSliceOf sl vl vu .none)(pl:IsPart vl lo)(pu:IsPart vu hi)
  (h:Q (((ck n 0 lo:Nat):Int),1,ck n n hi - ck n 0 lo) s):wpAny (model prog w) A (Builtin.Slice.sliceApplied (.ref sl) (pure (n:Int))) Q E s:=by
 obtain⟨os,hos,hcs,hds⟩:=id hs;unfold Builtin.Slice.sliceApplied Builtin.Slice.sliceFields;refine wpAny_bind (wpAny_bind (wpAny_field hos hds (x:=vl) rfl (wpAny_bind (wpAny_field hos hds (x:=vu) rfl (wpAny_bind (wpAny_field hos hds (x:=.none) rfl (wpAny_pure ?_)))))));refine wpAny_bind (slicePart_none ?_)
 show wpAny _ _ (if ((1:Int) == 0)=true then _ else _) _ _ s
 rw[if_neg (by decide)]
 refine wpAny_bind (jJ pl (wpAny_bind (jJ pu (wpAny_bind (wpAny_pure ?_)))))
 show wpAny _ _ (match Builtin.Slice.sliceAdjust lo hi 1 (n:Int) with | (lo,hi)=>pure (lo,(1:Int),Builtin.Slice.slicePlaces lo hi 1)) _ _ s
 rw[pL lo hi n]
 show wpAny _ _ (pure (((ck n 0 lo:Nat):Int),(1:Int),Builtin.Slice.slicePlaces ((ck n 0 lo:Nat):Int) ((ck n n hi:Nat):Int) 1)) _ _ s
 rw[pM];exact wpAny_pure h
theorem uS(xs:Array Value)(i k:Nat):((List.range k).filterMap fun (m:Nat)=>xs[((i:Int) + (m:Int) * 1).toNat]?).toArray=((xs.toList.drop i).take k).toArray:=by
 have e:(fun (m:Nat)=>xs[((i:Int) + (m:Int) * 1).toNat]?)=fun m=>xs[i + m]?:=by
  funext m
  have:((i:Int) + (m:Int) * 1).toNat=i + m:=by omega
  rw[this]
 rw[e];have:=pick_run xs i k;rw[List.filterMap_map]at this;have e2:((fun x=>xs[x]?) ∘ fun x=>i + x)=fun m=>xs[i + m]?:=rfl
 rw[e2]at this;rw[this]
theorem hG{t sl:Addr}{items:Array Value}{vl vu:Value}{lo hi:Option Int}{Q:Value->Shared->Prop}(ht:IsTup s.heap t items)(hs:s.heap.IsSliceOf sl vl vu .none)(pl:IsPart vl lo)(pu:IsPart vu hi)
  (hw:¬ (ck items.size 0 lo=0/\ck items.size items.size hi=items.size))
  (h:Q (.ref s.heap.objs.size) { s with heap:=s.heap.push { cls:=.type "tuple",data:=.seq ((items.toList.drop (ck items.size 0 lo)).take (ck items.size items.size hi - ck items.size 0 lo)).toArray } })
  (hsz:items.size<=sizeLine):wpAny (model prog w) A (getItem (.ref t) (.ref sl)) Q E s:=by
 have jK:sizeOk (.seq ((items.toList.drop (ck items.size 0 lo)).take (ck items.size items.size hi - ck items.size 0 lo)).toArray):=by
  show((items.toList.drop (ck items.size 0 lo)).take (ck items.size items.size hi - ck items.size 0 lo)).toArray.size<=sizeLine
  rw[List.size_toArray,List.length_take,List.length_drop,Array.length_toList];omega
 have hj:ck items.size items.size hi<=items.size:=l9 _ _ (Nat.le_refl _) hi;obtain⟨os,hos,hcs,hds⟩:=id hs;have hTs:s.TypeIs (.ref sl) "slice":=⟨os,hos,hcs⟩;unfold getItem
 try with_reducible refine wpAny_holding ?_
 first | refine wpAny_bind (wpAny_pure ?_) | skip
 refine wpAny_bind (wpAny_sequenceKey ht.typeIs (by decide) ?_)
 refine wpAny_bind (wpAny_callSpecial?_slot (name:=Str.ofString "__getitem__") ht.typeIs PyProof.Rows.slot_tuple_getitem
  (wpAny_call_entry PyProof.Rows.slot_tuple_getitem ht.typeIs entry_tuple_getitem ?_ (args_tuple_getitem _ _)))
 show wpAny _ _ (Builtin.Tuple.tupleItemsOf (.ref t) >>= _) _ _ s
 refine wpAny_bind (tupleItemsOf_ ht ?_);refine wpAny_bind (wpAny_typeOf hTs ?_);rw[if_pos (by decide)]
 refine wpAny_bind (eV hs pl pu ?_)
 have hno:¬ ((((ck items.size 0 lo:Nat):Int) == 0 && (1:Int) == 1 && (ck items.size items.size hi - ck items.size 0 lo) == items.size)=true):=by
  intro q;rw[Bool.and_eq_true,Bool.and_eq_true]at q;have q1:((ck items.size 0 lo:Nat):Int)=0:=eq_of_beq q.1.1;have q2:ck items.size items.size hi - ck items.size 0 lo=items.size:=eq_of_beq q.2;exact hw ⟨by omega,by omega⟩
 show wpAny _ _ (if (((ck items.size 0 lo:Nat):Int) == 0 && (1:Int) == 1 && (ck items.size items.size hi - ck items.size 0 lo) == items.size)=true then _ else _) _ _ s
 rw[if_neg hno,uS]
 first
  | exact wpAny_bind (m:=Builtin.Tuple.tupleExact _) (wpAny_newObj_type (wpAny_pure ⟨_,rfl,wpAny_pure h⟩) jK)
  | exact wpAny_bind (m:=Builtin.Tuple.tupleExact _) (wpAny_newObj_type (wpAny_bind (wpAny_pure (wpAny_pure ⟨_,rfl,wpAny_pure h⟩))) jK)
  | exact wpAny_bind (wpAny_bind (m:=Builtin.Tuple.tupleExact _) (wpAny_newObj_type (wpAny_pure (wpAny_pure ⟨_,rfl,wpAny_pure h⟩)) jK))
  | exact wpAny_bind (wpAny_bind (m:=Builtin.Tuple.tupleExact _) (wpAny_newObj_type (wpAny_pure ⟨_,rfl,wpAny_pure h⟩) jK))
end
end HT
namespace L2
open PySem PySem.Spec PyProof.Rows
abbrev TO:=St->Hp->(Option Int->Hp->Prop)->Prop
def PO(X:Cx)(e:Option Expr)(t:TO):Prop:=
 ∀ (pins:List (Addr×Obj)) (s:Shared) (σ:St) (H:Hp) (Q:Option Int->Hp->Prop),Inv X pins σ H s->t σ H Q ->
  wpAny (model X.prog X.w) X.A (evalPart e X.env) (fun u s'=>∃ o H',Inv X pins σ H' s'/\IsPart u o/\Q o H') X.xe s
noncomputable def qV:TO:=fun _ H Q=>Q none H
noncomputable def EC(t:TE):TO:=fun σ H Q=>t σ H fun x H1=>∃ i,x=.int i/\Q (some i) H1
section
variable{X:Cx}{e:Expr}{te:TE}{lo hi:Option Expr}{tl th:TO}{pos p2:Pos}
theorem yg:PO X none qV:=by
 intro pins s σ H Q I h;rw[evalPart_none];exact wpAny_pure ⟨none,H,I,.none,h⟩
theorem yh(h:PE X e te):PO X (some e) (EC te):=by
 intro pins s σ H Q I hw;rw[evalPart_some];refine bU (h pins s σ H _ I hw) fun u s1 ⟨x,H1,I1,r1,q1⟩ => ?_
 obtain⟨i,rfl,q⟩:=q1;obtain⟨t,rfl⟩:=r1;exact⟨some i,H1,I1,.int i t,q⟩
def yi(X:Cx)(r:V->Option Int->Option Int->Hp->VK->Prop):Prop:=
 ∀ (pins:List (Addr×Obj)) (s:Shared) (σ:St) (H:Hp) (x:V) (v vl vu:Value) (lo hi:Option Int) (sl:Addr) (Q:VK),Inv X pins σ H s->RelV x v->s.heap.IsSliceOf sl vl vu .none->IsPart vl lo->IsPart vu hi->r x lo hi H Q ->
  ∃ T id,typeLookup (.type T) "__getitem__"=pure (some (.builtin id))/\s.TypeIs v T/\wpAny (model X.prog X.w) X.A (getItem v (.ref sl)) (EP X pins σ Q) X.xe s
theorem yi.or{r r':V->Option Int->Option Int->Hp->VK->Prop}(h:yi X r)(h':yi X r'):yi X (fun x lo hi H Q=>r x lo hi H Q\/r' x lo hi H Q):=by
 intro pins s σ H x v vl vu lo hi sl Q I rx hs pl pu q;rcases q with q | q
 ·exact h pins s σ H x v vl vu lo hi sl Q I rx hs pl pu q
 ·exact h' pins s σ H x v vl vu lo hi sl Q I rx hs pl pu q
noncomputable def PZ(r:V->Option Int->Option Int->Hp->VK->Prop)(te:TE)(tl th:TO):TE:=fun σ H Q=>te σ H fun x H1=>tl σ H1 fun l H2=>th σ H2 fun u H3=>r x l u H3 Q
theorem fO{r:V->Option Int->Option Int->Hp->VK->Prop}(hr:yi X r)(he:PE X e te)(hl:PO X lo tl)(hu:PO X hi th):PE X (.Subscript e (.Slice lo hi none p2) pos) (PZ r te tl th):=by
 intro pins s σ H Q I h;refine Subscript_ (bU (he pins s σ H _ I h) fun v s1 ⟨x,H1,I1,r1,q1⟩ => ?_)
 refine wpAny_Slice (bU (hl pins s1 σ H1 _ I1 q1) fun vl s2 ⟨l,H2,I2,pl,q2⟩=>bU (hu pins s2 σ H2 _ I2 q2) fun vu s3 ⟨u,H3,I3,pu,q3⟩ => ?_)
 rw[evalPart_none];refine wpAny_pure ?_;have I4:Inv X pins σ H3 { s3 with heap:=s3.heap.push { cls:=.type "slice",data:=.fields #[vl,vu,.none] } }:=I3.kept (t':=s3.toks) fun b ob q=>Heap.get?_push_of_some _ q
 obtain⟨T,id,hT,ht,hg⟩:=hr pins { s3 with heap:=s3.heap.push { cls:=.type "slice",data:=.fields #[vl,vu,.none] } } σ H3 x v vl vu l u s3.heap.objs.size Q I4 r1 (Heap.IsSliceOf.new ..) pl pu q3
 show wpAny (model X.prog X.w) X.A (subscriptTail e (.Slice lo hi none p2) v (.ref s3.heap.objs.size)) (EP X pins σ Q) X.xe { s3 with heap:=s3.heap.push { cls:=.type "slice",data:=.fields #[vl,vu,.none] } }
 exact tail_any (ops:=[.ref s3.heap.objs.size,v]) ht hT hg (by with_unfolding_all rfl)
def nY(xs:List V)(lo hi:Option Int):List V:=(xs.drop (HT.ck xs.length 0 lo)).take (HT.ck xs.length xs.length hi - HT.ck xs.length 0 lo)
theorem iU(xs:List V)(lo hi:Option Int):(nY xs lo hi).length<=xs.length:=by
 unfold nY;rw[List.length_take,List.length_drop];omega
def ED(K:PySem.W.Frag):V->Option Int->Option Int->Hp->VK->Prop:=fun x lo hi H Q=>∃ a xs,x=.ref a/\fH K H a xs /\
 ¬ (HT.ck xs.length 0 lo=0/\HT.ck xs.length xs.length hi=xs.length)/\∀ p,H p=none->Q (.ref p) (upd H p (.tup (nY xs lo hi)))
theorem jL:yi X (ED X.K):=by
 intro pins s σ H x v vl vu lo hi sl Q I rx hs pl pu h;obtain⟨a,xs,rfl,hx,hw,q⟩:=h;cases rx;obtain⟨its,r,ht,hz⟩:=I.tuple hx;have hlen:its.toArray.size=xs.length:=by rw[List.size_toArray];exact r.length.symm
 refine⟨"tuple",_,PyProof.Rows.slot_tuple_getitem.lookup,ht.typeIs,?_⟩;refine HT.hG ht hs pl pu (by rw[hlen];exact hw) ?_ (by rw[hlen];exact hz)
 rw[hlen];refine⟨.ref s.heap.objs.size,_,I.laid (t':=s.toks) (o:=.tup (nY xs lo hi)) (fun b ob q=>Heap.get?_push_of_some _ q) (Nat.le_refl _) ?_,rfl,q _ (I.hok.fresh (Nat.le_refl _))⟩
 exact⟨Nat.le_trans (iU xs lo hi) hz,_,(r.drop (HT.ck xs.length 0 lo)).take (HT.ck xs.length xs.length hi - HT.ck xs.length 0 lo),IsTup.new _ _⟩
def AD(K:PySem.W.Frag):R2:=fun x y H Q=>∃ a b xs ys,x=.ref a/\y=.ref b/\fH K H a xs/\fH K H b ys/\xs≠[]/\xs.length + ys.length<=sizeLine /\
 (ys=[]->Q (.ref a) H)/\(ys≠[]->∀ p,H p=none->Q (.ref p) (upd H p (.tup (xs++ys))))
theorem Vals.l_{xs:List V}{us:List Value}(r:Vals xs us):us=[]↔xs=[]:=by
 cases r with
 | nil=>simp
 | cons _ _=>simp
theorem yj:fJ X (binaryOp .Add) (AD X.K):=by
 intro pins s σ H x y v u Q I rx ry h;obtain⟨a,b,xs,ys,rfl,rfl,ha,hb,hx,hz,q1,q2⟩:=h;cases rx;cases ry;obtain⟨its,r1,p1,_⟩:=I.tuple ha;obtain⟨its2,r2,p2,_⟩:=I.tuple hb;refine HT.yf p1 p2 (fun z=>hx (r1.l_.mp z)) (fun z=>⟨.ref a,H,I,rfl,q1 (r2.l_.mp z)⟩) (fun z => ?_) (by rw[← r1.length,← r2.length];exact hz)
 refine⟨.ref s.heap.objs.size,_,I.laid (t':=s.toks) (o:=.tup (xs++ys)) (fun b ob q=>Heap.get?_push_of_some _ q) (Nat.le_refl _) ?_,rfl,q2 (fun w=>z (r2.l_.mpr w)) _ (I.hok.fresh (Nat.le_refl _))⟩
 exact⟨by rw[List.length_append];exact hz,_,r1.append r2,IsTup.new _ _⟩
end
noncomputable def pN(n:Nat)(i:Int):Option Nat:=if 0<=i then (if i < n then some i.toNat else none) else if -(n:Int)<=i then some (i + n).toNat else none
def iD{α:Type}(xs:List α)(i:Int):Option α:=(pN xs.length i).bind fun j=>xs[j]?
theorem qW{n:Nat}{i:Int}{j:Nat}(h:pN n i=some j):seqIndex? i n=some j/\j < n /\ -(n:Int)<=i/\i < n:=by
 unfold pN at h
 by_cases h0:0<=i
 ·rw[if_pos h0]at h
  by_cases h1:i < n
  ·rw[if_pos h1]at h
   have e:i.toNat=j:=Option.some.inj h;exact⟨by rw[seqIndex_of h0 h1,e],by omega,by omega,h1⟩
  ·rw[if_neg h1]at h;cases h
 ·rw[if_neg h0]at h
  by_cases h1 : -(n:Int)<=i
  ·rw[if_pos h1]at h
   have e:(i + n).toNat=j:=Option.some.inj h;exact⟨by rw[seqIndex_neg (by omega) h1,e],by omega,h1,by omega⟩
  ·rw[if_neg h1]at h;cases h
theorem mf{α:Type}{xs:List α}{i:Int}{v:α}(h:iD xs i=some v):∃ j,seqIndex? i xs.length=some j/\xs[j]?=some v/\j < xs.length /\ -(xs.length:Int)<=i/\i < xs.length:=by
 unfold iD at h;cases e:pN xs.length i with
 | none=>rw[e]at h;cases h
 | some j=>
  rw[e]at h;obtain⟨h1,h2,h3,h4⟩:=qW e;exact⟨j,h1,h,h2,h3,h4⟩
theorem bf{α:Type}{xs:List α}{j:Nat}{v:α}(h:xs[j]?=some v):iD xs (j:Int)=some v:=by
 have hj:j < xs.length:=(List.getElem?_eq_some_iff.mp h).1
 have e:pN xs.length (j:Int)=some j:=by
  unfold pN;rw[if_pos (by omega),if_pos (by omega)];simp
 unfold iD;rw[e];exact h
theorem n4{α:Type}(xs:List α)(v:α):iD (xs++[v]) (-1)=some v:=by
 have hl:(xs++[v]).length=xs.length + 1:=by simp
 have e:pN (xs++[v]).length (-1)=some xs.length:=by
  unfold pN;rw[hl,if_neg (by decide),if_pos (by omega)]
  congr 1
  omega
 unfold iD;rw[e]
 show(xs++[v])[xs.length]?=some v
 simp
def qX(b:Expr):Prop:=∀ o i,subscripted b false o i=operate [o,i] (getItem o i)
def yk(X:Cx)(r:R2):Prop:=
 ∀ (value slice:Expr) (pins:List (Addr×Obj)) (s:Shared) (σ:St) (H:Hp) (x y:V) (v u:Value) (Q:VK),Inv X pins σ H s->RelV x v->RelV y u->r x y H Q ->
  subscripted slice false v u=operate [v,u] (getItem v u)->wpAny (model X.prog X.w) X.A (subscriptTail value slice v u) (EP X pins σ Q) X.xe s
def DU(X:Cx)(id:String)(r:V->List V->Hp->VK->Prop):Prop:=
 ∀ (pins:List (Addr×Obj)) (s:Shared) (σ:St) (H:Hp) (x:V) (xs:List V) (v:Value) (us:List Value) (Q:VK),Inv X pins σ H s->RelV x v->Vals xs us->r x xs H Q ->
  wpAny (model X.prog X.w) X.A (call (.builtin id) (v::us)) (EP X pins σ Q) X.xe s
section
variable{X:Cx}{a b:Expr}{ta tb:TE}{pos:Pos}
theorem yk.or{r r':R2}(h:yk X r)(h':yk X r'):yk X (fun x y H Q=>r x y H Q\/r' x y H Q):=by
 intro value slice pins s σ H x y v u Q I rx ry q hs;rcases q with q | q
 ·exact h value slice pins s σ H x y v u Q I rx ry q hs
 ·exact h' value slice pins s σ H x y v u Q I rx ry q hs
theorem uT{r:R2}(hr:yk X r)(ha:PE X a ta)(hb:PE X b tb)(hs:qX b):PE X (.Subscript a b pos) (DS r ta tb):=by
 intro pins s σ H Q I h;exact Subscript_ (Bs ha hb I h fun v u s2 x y H2 I2 rx ry q=>hr a b pins s2 σ H2 x y v u Q I2 rx ry q (hs _ _))
def EE(K:PySem.W.Frag):R2:=fun x y H Q=>∃ p xs i v,x=.ref p/\y=.int i/\jg K H p xs/\iD xs i=some v/\Q v H
def EF(K:PySem.W.Frag):R2:=fun x y H Q=>∃ p xs i v,x=.ref p/\y=.int i/\fH K H p xs/\iD xs i=some v/\Q v H
def EG:R2:=fun x y H Q=>∃ z i c,x=.str z/\y=.int i/\z.length<=sizeLine/\iD z.cps.toList i=some c/\Q (.str ⟨#[c]⟩) H
theorem ym:yk X (EE X.K):=by
 intro value slice pins s σ H x y v u Q I rx ry h hs;obtain⟨p,xs,i,z,rfl,rfl,hq,he,q⟩:=h;cases rx;obtain⟨t,rfl⟩:=ry;obtain⟨its,r,pl,hz⟩:=I.list hq;obtain⟨j,h1,h2,h3,h4,h5⟩:=mf he;obtain⟨w,ew,xO⟩:=r.get h2;have hl:=r.length;have hn:=gQ;have fin:EP X pins σ Q w s:=⟨z,H,I,xO,q⟩
 by_cases h0:0<=i
 ·have hj:i.toNat=j:=by
   rw[seqIndex_of h0 h5]at h1;exact Option.some.inj h1
  exact item_listR pl.isList h0 (by omega) (by rw[hj];simpa using ew) fin hs
 ·have hj:(i + (its.toArray.size:Int)).toNat=j:=by
   rw[seqIndex_neg (by omega) h4]at h1
   rw[List.size_toArray,← hl];exact Option.some.inj h1
  exact subscriptTail_builtinR (x:=w) pl.isList.typeIs slot_list_getitem.lookup
   (wpAny_getItem_list_neg (Q:=fun r s'=>r=w/\EP X pins σ Q r s') pl.isList (by omega) (by rw[List.size_toArray]<;>omega) (by omega) (by rw[hj];simpa using ew) ⟨rfl,fin⟩) hs
theorem BD:yk X (EF X.K):=by
 intro value slice pins s σ H x y v u Q I rx ry h hs;obtain⟨p,xs,i,z,rfl,rfl,hq,he,q⟩:=h;cases rx;obtain⟨t,rfl⟩:=ry;obtain⟨its,r,pl,hz⟩:=I.tuple hq;obtain⟨j,h1,h2,h3,h4,h5⟩:=mf he;obtain⟨w,ew,xO⟩:=r.get h2;have hl:=r.length;have hn:=gQ;have fin:EP X pins σ Q w s:=⟨z,H,I,xO,q⟩
 exact subscriptTail_builtinR (x:=w) pl.typeIs slot_tuple_getitem.lookup
  (getItem_tuple (j:=j) (Q:=fun r s'=>r=w/\EP X pins σ Q r s') pl (by omega) (by omega) (by rw[List.size_toArray,← hl];exact h1) (by simpa using ew) ⟨rfl,fin⟩) hs
theorem BE:yk X EG:=by
 intro value slice pins s σ H x y v u Q I rx ry h hs;obtain⟨z,i,c,rfl,rfl,hz,he,q⟩:=h;obtain⟨t,rfl⟩:=rx;obtain⟨t',rfl⟩:=ry;obtain⟨j,h1,h2,h3,h4,h5⟩:=mf he;have hl:z.cps.toList.length=z.length:=by simp[Str.length]
 rw[hl]at h1 h4 h5;have hn:=gQ
 exact tail_any (typeIs_str s z t) slot_str_getitem.lookup (getItem_str (c:=c) (by
  have e1:decide (i < -(2 ^ 63:Int))=false:=decide_eq_false (by omega)
  have e2:decide (i≥2 ^ 63)=false:=decide_eq_false (by omega)
  rw[e1,e2,Bool.or_false]) (by rw[h1];simpa using h2) ⟨.str ⟨#[c]⟩,H,I.tok _,⟨_,rfl⟩,q⟩) hs
def EH(K:PySem.W.Frag):R2:=fun x y H Q=>EE K x y H Q\/EF K x y H Q\/EG x y H Q
theorem pO:yk X (EH X.K):=ym.or (BD.or BE)
theorem Inv.lst{pins:List (Addr×Obj)}{σ:St}{H:Hp}{s:Shared}{p:Addr}{xs:List V}(I:Inv X pins σ H s)(h:H p=some (.lst xs)) :
  ∃ (its:List Value) (n:Nat),Vals xs its/\s.heap.get? p=some { cls:=.type "list",data:=.seq its.toArray n }/\xs.length<=sizeLine:=by
 obtain⟨z,its,n,r,e⟩:=I.hok p _ h;exact⟨its,n,r,e,z⟩
theorem mj(lo hi:Option Int)(n:Nat):(sliceBounds lo hi none n).1=((HT.ck n 0 lo:Nat):Int)/\(sliceBounds lo hi none n).2.1=((HT.ck n n hi:Nat):Int)/\(sliceBounds lo hi none n).2.2=1:=by
 refine⟨?_,?_,rfl⟩
 ·cases lo with
  | none=>simp[sliceBounds,HT.ck]
  | some i=>
   simp only[sliceBounds,HT.ck,Option.getD_none,show(1:Int) > 0 by decide,if_true]
   by_cases h:i < 0
   ·simp only[h,if_true]<;>omega
   ·simp only[h,if_false]<;>omega
 ·cases hi with
  | none=>simp[sliceBounds,HT.ck]
  | some i=>
   simp only[sliceBounds,HT.ck,Option.getD_none,show(1:Int) > 0 by decide,if_true]
   by_cases h:i < 0
   ·simp only[h,if_true]<;>omega
   ·simp only[h,if_false]<;>omega
theorem kQ(its:List Value)(lo hi:Option Int):slicePick its.toArray lo hi none=((its.drop (HT.ck its.length 0 lo)).take (HT.ck its.length its.length hi - HT.ck its.length 0 lo)).toArray:=by
 obtain⟨h1,h2,h3⟩:=mj lo hi its.toArray.size;unfold slicePick;rw[h1,h2,h3];simp only[sliceRange_one,pick_run,List.size_toArray]<;>rfl
def EJ(K:PySem.W.Frag):V->Option Int->Option Int->Hp->VK->Prop:=fun x lo hi H Q=>∃ a xs,x=.ref a/\jg K H a xs/\∀ p,H p=none->Q (.ref p) (upd H p (.lst (nY xs lo hi)))
theorem hU:yi X (EJ X.K):=by
 intro pins s σ H x v vl vu lo hi sl Q I rx hs pl pu h;obtain⟨a,xs,rfl,hx,q⟩:=h;cases rx;obtain⟨its,r,ht,hz⟩:=I.list hx;have hlen:=r.length;refine⟨"list",_,slot_list_getitem.lookup,ht.isList.typeIs,?_⟩;refine wpAny_getItem_list_slice ht.isList hs pl pu .none (by simp) ?_ (by rw[List.size_toArray]<;>omega)
 rw[kQ,← hlen];refine⟨.ref s.heap.objs.size,_,I.laid (t':=s.toks) (o:=.lst (nY xs lo hi)) (fun b ob q=>Heap.get?_push_of_some _ q) (Nat.le_refl _) ?_,rfl,q _ (I.hok.fresh (Nat.le_refl _))⟩
 exact⟨Nat.le_trans (iU xs lo hi) hz,_,0,(r.drop (HT.ck xs.length 0 lo)).take (HT.ck xs.length xs.length hi - HT.ck xs.length 0 lo),Heap.get?_push_size _ rfl⟩
theorem hV:eE X (.builtin "len") (fun xs H Q=>∃ p ys,xs=[.ref p]/\(jg X.K H p ys\/fH X.K H p ys)/\Q (.int ys.length) H):=by
 intro pins s σ H xs us Q I r h;obtain⟨p,ys,rfl,hq,q⟩:=h;obtain⟨u,rfl,rx⟩:=vals1 r;cases rx;have hn:=gQ;rcases hq with hq | hq
 ·obtain⟨its,r',pl,hz⟩:=I.list hq
  have hlen:=r'.length;exact Calls.call_len_list pl.isList (by simp only[List.size_toArray]<;>omega) ⟨.int ys.length,H,I.tok _,⟨s.toks + 1,by rw[List.size_toArray,hlen]⟩,q⟩
 ·obtain⟨its,r',pl,hz⟩:=I.tuple hq
  have hlen:=r'.length;exact len_tuple pl (by simp only[List.size_toArray]<;>omega) ⟨.int ys.length,H,I.tok _,⟨s.toks + 1,by rw[List.size_toArray,hlen]⟩,q⟩
theorem mn:eE X (.builtin "len") (fun xs H Q=>∃ z,xs=[.str z]/\z.length<=sizeLine/\Q (.int z.length) H):=by
 intro pins s σ H xs us Q I r h;obtain⟨z,rfl,hz,q⟩:=h;obtain⟨u,rfl,t,rfl⟩:=vals1 r;have hn:=gQ;exact len_str (by omega) ⟨.int z.length,H,I.tok _,⟨_,rfl⟩,q⟩
theorem mq:eE X (.type "list") (fun xs H Q=>∃ p ys,xs=[.ref p]/\(jg X.K H p ys\/fH X.K H p ys)/\∀ l,H l=none->Q (.ref l) (upd H l (.lst ys))):=by
 intro pins s σ H xs us Q I r h;obtain⟨p,ys,rfl,hq,q⟩:=h;obtain⟨u,rfl,rx⟩:=vals1 r;cases rx
 have fin:∀ (its:List Value),Vals ys its->ys.length<=sizeLine->∀ (h':Heap) (c':Nat),(∀ b o',s.heap.get? b=some o'->h'.get? b=some o') ->
   h'.get? s.heap.objs.size=some { cls:=.type "list",dict:=none,data:=.seq its.toArray c',slots := #[] }->EP X pins σ Q (.ref s.heap.objs.size) { s with heap:=h' }:=fun its r' hz h' c' kp e=>
  ⟨.ref s.heap.objs.size,_,I.laid (t':=s.toks) kp (Nat.le_refl _) (show cy X.prog X.w _ h' _ (.lst ys) from⟨hz,its,c',r',e⟩),rfl,q _ (I.hok.fresh (Nat.le_refl _))⟩
 rcases hq with hq | hq
 ·obtain⟨its,r',pl,hz⟩:=I.list hq
  have hlen:=r'.length;obtain⟨o,ho,hc,n,hd⟩:=pl.isList;exact call_list_seq p (.inl rfl) ho hc hd (fun h' c' kp e=>fin its r' hz h' c' kp e) (by simp only[List.size_toArray]<;>omega)
 ·obtain⟨its,r',pl,hz⟩:=I.tuple hq
  have hlen:=r'.length;obtain⟨o,ho,hc,n,hd⟩:=pl;exact call_list_seq p (.inr rfl) ho hc hd (fun h' c' kp e=>fin its r' hz h' c' kp e) (by simp only[List.size_toArray]<;>omega)
theorem kR:eE X (.type "tuple") (fun xs H Q=>∃ p ys,xs=[.ref p]/\((jg X.K H p ys/\∀ l,H l=none->Q (.ref l) (upd H l (.tup ys)))\/(fH X.K H p ys/\Q (.ref p) H))):=by
 intro pins s σ H xs us Q I r h;obtain⟨p,ys,rfl,h⟩:=h;obtain⟨u,rfl,rx⟩:=vals1 r;cases rx;rcases h with ⟨hq,q⟩ | ⟨hq,q⟩
 ·obtain⟨its,r',pl,hz⟩:=I.list hq
  have hlen:=r'.length;refine call_tuple_list pl.isList (fun h' kp => ?_) (by simp only[List.size_toArray]<;>omega)
  have I1:Inv X pins σ H { s with heap:=h' }:=I.kept (t':=s.toks) kp
  have I2:Inv X pins σ (upd H h'.objs.size (.tup ys)) { s with heap:=h'.push { cls:=.type "tuple",data:=.seq its.toArray } }:=
   I1.laid (t':=s.toks) (fun b o e=>Heap.get?_push_of_some _ e) (Nat.le_refl _) (show cy X.prog X.w _ _ _ (.tup ys) from⟨hz,its,r',IsTup.new _ _⟩)
  exact⟨.ref h'.objs.size,_,I2,rfl,q _ (I1.hok.fresh (Nat.le_refl _))⟩
 ·obtain⟨its,r',pl,hz⟩:=I.tuple hq
  exact call_tuple_same pl ⟨.ref p,H,I,rfl,q⟩
def BF(K:PySem.W.Frag)(T:String)(x:V)(H:Hp):Prop:=match x with
 | .str _=>T="str"
 | .int _=>T="int"
 | .ref p=>(T="list"/\∃ xs,jg K H p xs)\/(T="tuple"/\∃ o,K.lookup p=some o/\o.cls=.type "tuple"/\o.dict=none) \/
   (T="dict"/\((∃ kvs,H p=some (.dK kvs))\/∃ kvs,H p=some (.dT kvs)))\/(T="set"/\∃ S n,H p=some (.set S n))
 | _=>False
theorem uU{pins:List (Addr×Obj)}{σ:St}{H:Hp}{s:Shared}{T:String}{x:V}{v:Value}(I:Inv X pins σ H s)(r:RelV x v)(ty:BF X.K T x H) :
  s.TypeIs v T/\∀ a,v=.ref a->∃ ob,s.heap.get? a=some ob/\ob.dict=none:=by
 cases x with
 | str z=>
  obtain⟨t,rfl⟩:=r;cases (show T="str" from ty)
  exact⟨typeIs_str s z t,fun _ e=>nomatch e⟩
 | int i=>
  obtain⟨t,rfl⟩:=r;cases (show T="int" from ty)
  exact⟨typeIs_int s i t,fun _ e=>nomatch e⟩
 | ref p=>
  cases r;rcases ty with ⟨rfl,xs,hq⟩ | ⟨rfl,o,hk,hc,hd⟩ | ⟨rfl,hk⟩ | ⟨rfl,S,n,hk⟩
  ·obtain⟨its,_,pl,_⟩:=I.list hq
   refine⟨pl.isList.typeIs,fun a e => ?_⟩
   cases e;obtain⟨o,n,e,c,hd,_⟩:=pl;exact⟨o,e,hd⟩
  ·refine⟨⟨o,I.fG p o hk,hc⟩,fun a e => ?_⟩
   cases e;exact⟨o,I.fG _ o hk,hd⟩
  ·have z:∃ o,s.heap.get? p=some o/\o.ExactDict:=by
    rcases hk with ⟨kvs,hk⟩ | ⟨kvs,hk⟩
    ·obtain⟨_,_,_,_,o,_,_,e,ex,_⟩:=I.hok p _ hk
     exact⟨o,e,ex⟩
    ·obtain⟨_,_,_,_,o,_,_,e,ex,_⟩:=I.hok p _ hk
     exact⟨o,e,ex⟩
   obtain⟨o,e,ex⟩:=z;refine⟨⟨o,e,ex.1⟩,fun a e2 => ?_⟩
   cases e2;exact⟨o,e,ex.2.1⟩
  ·obtain⟨o,_,_,_,e,ex,_⟩:=I.hok p _ hk
   refine⟨⟨o,e,ex.1⟩,fun a e2 => ?_⟩
   cases e2;exact⟨o,e,ex.2.1⟩
 | _=>exact False.elim ty
noncomputable def Kk(K:PySem.W.Frag)(T:String)(r:V->List V->Hp->VK->Prop)(to:TE):TE:=fun σ H Q=>to σ H fun x H1=>BF K T x H1/\r x [] H1 Q
noncomputable def P0(K:PySem.W.Frag)(T:String)(r:V->List V->Hp->VK->Prop)(to:TE)(t:TA):TE:=fun σ H Q=>to σ H fun x H1=>BF K T x H1/\t σ H1 fun xs H2=>r x xs H2 Q
variable{o e:Expr}{es:List Expr}{to:TE}{t:TA}{name:Str}{apos cpos:Pos}{T id:String}{r:V->List V->Hp->VK->Prop}
theorem BG(pa:PlainAttrs T)(slot:Slot T name id)(hty:typeOf (.builtin id)=pure (.type "method_descriptor"))(hm:DU X id r)(ho:PE X o to)
  (hbase:attributeBase o name X.env (eval o X.env)=eval o X.env:=by rfl) (hline:(apos.endLine == cpos.line)=true:=by rfl):PE X (.Call (.Attribute o name apos) [] [] cpos) (Kk X.K T r to):=by
 intro pins s σ H Q I h;refine wpAny_Call_method0_late hbase hline (bU (ho pins s σ H _ I h) fun v s1 ⟨x,H1,I1,r1,ty,q1⟩ => ?_)
 obtain⟨h1,h2⟩:=uU I1 r1 ty;exact⟨T,id,pa,slot,hty,h1,h2,Calls.callWith_builtin rfl (PySem.evalArgs_none (hm pins s1 σ H1 x [] v [] Q I1 r1 .nil q1))⟩
theorem EK(pa:PlainAttrs T)(slot:Slot T name id)(hty:typeOf (.builtin id)=pure (.type "method_descriptor"))(hm:DU X id r)(ho:PE X o to)(ha:PA X (e::es) t)
  (hbase:attributeBase o name X.env (eval o X.env)=eval o X.env:=by rfl)
  (hfew:((backTo cpos (starEach (e::es) X.env)).all (fun x => !x.1) && (backToKw cpos (keywordEach [] X.env)).all (fun x=>x.1.isSome)
   && decide ((e::es).length + ([]:List Keyword).length + (if ([]:List Keyword).isEmpty then 0 else 1) < 30))=true:=by rfl)
  (hline:(apos.endLine == cpos.line)=true:=by rfl) (hs:starEach (e::es) X.env=(false,eval e X.env)::starEach es X.env:=by rfl) (hplain:(backTo cpos (starEach es X.env)).any (·.1)=false:=by rfl) :
  PE X (.Call (.Attribute o name apos) (e::es) [] cpos) (P0 X.K T r to t):=by
 intro pins s σ H Q I h;refine wpAny_Call_method_late hbase hfew hline rfl (bU (ho pins s σ H _ I h) fun v s1 ⟨x,H1,I1,r1,ty,q1⟩ => ?_)
 obtain⟨h1,h2⟩:=uU I1 r1 ty;refine⟨T,id,pa,slot,hty,h1,h2,?_⟩;have hA:=ha cpos pins s1 σ H1 _ I1 q1;rw[hs]at hA ⊢;refine Calls.callWith_builtin (by show(false || (backTo cpos (starEach es X.env)).any (·.1))=false;rw[hplain]<;>rfl) (Calls.evalArgs_plain ?_)
 exact bU hA fun us s2 ⟨vs,H2,I2,r2,q2⟩=>hm pins s2 σ H2 x vs v us Q I2 r1 r2 q2
end
def Kl(X:Cx)(id:String)(r:V->List V->Hp->VK->Prop):Prop:=
 ∀ (pins:List (Addr×Obj)) (s:Shared) (σ:St) (H:Hp) (x:V) (xs:List V) (v:Value) (us:List Value) (Q:VK),Inv X pins σ H s->RelV x v->Vals xs us->r x xs H Q ->
  wpAny (model X.prog X.w) X.A (call (.builtin id) (v::us)) (EP X pins σ Q) X.xe s
theorem Vals.one:∀ {x:V} {us:List Value},Vals [x] us->∃ u,us=[u]/\RelV x u
 | _,_,.cons r .nil=>⟨_,rfl,r⟩
theorem Vals.zero:∀ {us:List Value},Vals [] us->us=[]
 | _,.nil=>rfl
theorem Vals.eraseIdx:∀ {xs:List V} {us:List Value} (i:Nat),Vals xs us->Vals (xs.eraseIdx i) (us.eraseIdx i)
 | _,_,_,.nil=>.nil
 | _,_,0,.cons _ t=>t
 | _,_,i + 1,.cons r t=>.cons r (Vals.eraseIdx i t)
theorem Vals.reverse{xs:List V}{us:List Value}(h:Vals xs us):Vals xs.reverse us.reverse:=by
 induction h with
 | nil=>exact .nil
 | cons r t ih=>rw[List.reverse_cons,List.reverse_cons];exact Vals.append ih (.cons r .nil)
theorem lr{α:Type}:∀ (l:List α) (i:Nat),(l.eraseIdx i).length<=l.length
 | [],_=>Nat.le_refl _
 | _::_,0=>Nat.le_succ _
 | _::r,i + 1=>Nat.succ_le_succ (lr r i)
section
variable{X:Cx}{pins:List (Addr×Obj)}{σ:St}{H:Hp}{s:Shared}{l b:Addr}{xs ys zs:List V}
theorem Inv.BH{its its':List Value}{n:Nat}{f:Array Value->Array Value}{t':Nat}(I:Inv X pins σ H s)(hH:H l=some (.lst xs))
  (e:s.heap.get? l=some { cls:=.type "list",data:=.seq its.toArray n }) (hf:f its.toArray=its'.toArray) (hv:Vals ys its') (hz:ys.length<=sizeLine) :
  Inv X pins σ (upd H l (.lst ys)) { s with heap:=s.heap.update l (Obj.mapSeq f),toks:=t' }:=by
 have q:=PySem.IsL.update e f;rw[hf]at q;refine I.write (x:=l) (e:=l) (by rw[hH];exact trivial) (.inl rfl) (fun b' u hb hu=>(Heap.get?_update_other s.heap (Obj.mapSeq f) (Ne.symm hb)).trans hu) ⟨_,q⟩ ?_
 exact⟨hz,its',_,hv,q⟩
theorem Inv.Km{its:List Value}{t':Nat}(I:Inv X pins σ H s)(hv:Vals ys its)(hz:ys.length<=sizeLine) :
  Inv X pins σ (upd H s.heap.objs.size (.lst ys)) { s with heap:=s.heap.push { cls:=.type "list",data:=.seq its.toArray },toks:=t' }:=
 I.laid (fun _ _ q=>Heap.get?_push_of_some _ q) (Nat.le_refl _) ⟨hz,its,0,hv,Heap.get?_push_size _ rfl⟩
theorem Inv.fresh(I:Inv X pins σ H s):H s.heap.objs.size=none:=I.hok.fresh (Nat.le_refl _)
theorem Inv.BI(I:Inv X pins σ H s)(hH:H l=some (.lst xs)):xs.length<=sizeLine/\∃ (its:List Value) (n:Nat),Vals xs its/\xs.length=its.length/\s.heap.get? l=some { cls:=.type "list",data:=.seq its.toArray n }:=by
 obtain⟨z,its,n,r,e⟩:=I.hok l _ hH;exact⟨z,its,n,r,r.length,e⟩
end
section
variable{X:Cx}
def qY:V->List V->Hp->VK->Prop:=fun x vs H Q=>∃ l xs y,x=.ref l/\vs=[y]/\H l=some (.lst xs)/\xs.length < sizeLine/\Q .non (upd H l (.lst (xs++[y])))
theorem lu:Kl X "list.append" qY:=by
 intro pins s σ H x vs v us Q I rx rv h;obtain⟨l,xs,y,rfl,rfl,hH,hz,q⟩:=h;cases rx;obtain⟨u,rfl,ru⟩:=rv.one;obtain⟨z,its,n,r,hl,e⟩:=I.BI hH;refine call_meets F.slot_list_append ⟨_,e,rfl⟩ F.entry_list_append (F.args_list_append_2 _ _) (PySem.list_append l its.toArray n u (by rw[List.size_toArray];omega)) ⟨e,?_⟩
 refine⟨.non,_,I.BH (its':=its++[u]) hH e (by simp) (r.append (.cons ru .nil)) ?_,rfl,q⟩
 rw[List.length_append,List.length_singleton];omega
def uV:V->List V->Hp->VK->Prop:=fun x vs H Q=>∃ l xs i k y,x=.ref l/\vs=[.int i]/\H l=some (.lst xs) /\ -(2 ^ 63)<=i/\i < 2 ^ 63/\seqIndex? i xs.length=some k/\xs[k]?=some y/\Q y (upd H l (.lst (xs.eraseIdx k)))
theorem uW:Kl X "list.pop" uV:=by
 intro pins s σ H x vs v us Q I rx rv h;obtain⟨l,xs,i,k,y,rfl,rfl,hH,h1,h2,hk,hy,q⟩:=h;cases rx;obtain⟨u,rfl,ru⟩:=rv.one;obtain⟨t,rfl⟩:=ru;obtain⟨z,its,n,r,hl,e⟩:=I.BI hH;obtain⟨w,hw,xO⟩:=r.get hy
 refine call_meets F.slot_list_pop ⟨_,e,rfl⟩ F.entry_list_pop (F.args_list_pop_2 _ _)
  (MeetsSeq.list_pop_at l its.toArray n i t k w (fitsIndex_both h1 h2) (by rw[List.size_toArray,← hl];exact hk) (by rw[← Array.getElem?_toList];exact hw) (by rw[List.size_toArray];omega)) ⟨e,?_⟩
 refine⟨y,_,I.BH (its':=its.eraseIdx k) hH e ?_ (r.eraseIdx k) ?_,xO,q⟩
 ·show its.toArray.eraseIdxIfInBounds k=(its.eraseIdx k).toArray
  rw[List.eraseIdxIfInBounds_toArray]
 ·have:=lr xs k
  omega
def uX:V->List V->Hp->VK->Prop:=fun x vs H Q=>∃ l xs,x=.ref l/\vs=[]/\H l=some (.lst xs)/\Q .non (upd H l (.lst []))
theorem uY:Kl X "list.clear" uX:=by
 intro pins s σ H x vs v us Q I rx rv h;obtain⟨l,xs,rfl,rfl,hH,q⟩:=h;cases rx;have hus:=rv.zero;subst hus;obtain⟨z,its,n,r,hl,e⟩:=I.BI hH;refine call_meets F.slot_list_clear ⟨_,e,rfl⟩ F.entry_list_clear (F.args_list_clear_1 _) (AutoSeq1.list_clear_list_0 l its.toArray n (by rw[List.size_toArray];omega)) ⟨e,?_⟩
 exact⟨.non,_,I.BH (its':=[]) (ys:=[]) hH e rfl .nil (Nat.zero_le _),rfl,q⟩
end
section
variable{prog:Program}{w:World}{A:Around}{E:Value->Shared->Prop}{s:Shared}
end
section
variable{X:Cx}
end
section
variable{κ:Type}[DecidableEq κ]
noncomputable def BJ(kvs:List (κ×V))(k:κ):Option V:=(kvs.find? fun kv=>decide (kv.1=k)).map (·.2)
noncomputable def putK(kvs:List (κ×V))(k:κ)(v:V):List (κ×V):=
 if (kvs.any fun kv=>decide (kv.1=k))=true then kvs.map (fun kv=>if kv.1=k then (kv.1,v) else kv) else kvs++[(k,v)]
theorem lX.getD{o:Option V}{u:Option Value}{d:V}{d':Value}(r:lX o u)(rd:RelV d d'):RelV (o.getD d) (u.getD d'):=by
 cases o with
 | none=>cases u with
  | none=>exact rd
  | some _=>exact(show False from r).elim
 | some _=>cases u with
  | none=>exact(show False from r).elim
  | some _=>exact r
theorem KV.length{kvs:List (κ×V)}{vs:List (κ×Value)}(r:KV kvs vs):kvs.length=vs.length:=Paired.length r
end
abbrev KT(H:Hp):List (List Key×V)->List (List Key×Addr×Value)->Prop:=Paired fun p q=>p.1=q.1/\H q.2.1=some (.tup (p.1.map kV))/\RelV p.2 q.2.2
section
variable{P:Program}{w:World}{H:Hp}{h:Heap}{a:Addr}
end
def EL(H:Hp)(a:Addr)(y:V)(r:Option V):Prop:=
 (∃ kvs k,Rd H a (.dK kvs)/\y=kV k/\r=BJ kvs k)\/∃ kvs k b,Rd H a (.dT kvs)/\y=.ref b/\H b=some (.tup (k.map kV))/\r=BJ kvs k
def EN(H:Hp)(a:Addr)(y v:V)(H':Hp):Prop:=
 (∃ kvs k,H a=some (.dK kvs)/\y=kV k/\kvs.length < sizeLine/\H'=upd H a (.dK (putK kvs k v))) \/
 ∃ kvs k b,H a=some (.dT kvs)/\y=.ref b/\H b=some (.tup (k.map kV))/\kvs.length < sizeLine/\H'=upd H a (.dT (putK kvs k v))
theorem EL.k{H:Hp}{a:Addr}{kvs:List (Key×V)}{k:Key}(e:H a=some (.dK kvs)):EL H a (kV k) (BJ kvs k):=.inl ⟨kvs,k,.inl e,rfl,rfl⟩
theorem EN.k{H:Hp}{a:Addr}{kvs:List (Key×V)}{k:Key}{v:V}(e:H a=some (.dK kvs))(hl:kvs.length < sizeLine):EN H a (kV k) v (upd H a (.dK (putK kvs k v))):=.inl ⟨kvs,k,e,rfl,hl,rfl⟩
section
variable{X:Cx}{pins:List (Addr×Obj)}{σ:St}{H:Hp}{s:Shared}{a:Addr}{y v:V}{u r:Value}{o:Option V}{A:Around}{E:Value->Shared->Prop}
end
section
variable{X:Cx}{pins:List (Addr×Obj)}{σ:St}{H:Hp}{s:Shared}{a:Addr}{kvs:List (Key×V)}{k:Key}{u:Value}{A:Around}{E:Value->Shared->Prop}
end
section
variable{X:Cx}{o i e value:Expr}{pos pos' tpos:Pos}{td ty tv:TE}
end
section
variable{X:Cx}{pos:Pos}
end
section
variable{X:Cx}{pins:List (Addr×Obj)}{σ:St}{H:Hp}{s:Shared}{a:Addr}{y d:V}{u r:Value}{o:Option V}{A:Around}{E:Value->Shared->Prop}
end
section
variable{X:Cx}{o e f:Expr}{apos cpos:Pos}{td ty tx:TE}
end
section
variable{X:Cx}{pins:List (Addr×Obj)}{σ:St}{H:Hp}{s:Shared}{a:Addr}{kvs:List (Key×V)}{A:Around}{E:Value->Shared->Prop}
end
section
variable{X:Cx}{pins:List (Addr×Obj)}{σ:St}{H:Hp}{s:Shared}{a:Addr}{y:V}{u:Value}{A:Around}{E:Value->Shared->Prop}
end
end L2
namespace NY
open PySem PySem.W PySem.Calls PyProof.Rows
theorem i_{P:Params}{h:Heap}:∀ (ns:List Int) (vs:List Value),WellAll P h vs (ns.map WData.int)->IntsAre vs ns:=by
 intro ns
 induction ns with
 | nil=>
  intro vs w;rw[List.map_nil]at w;cases w;exact .nil
 | cons n ns ih=>
  intro vs w;rw[List.map_cons]at w;cases w with
  | cons a b=>
   cases a;exact .cons _ _ (ih _ b)
theorem tf{l:OpenLaw}{n:Nat}(hn:l.most=some n){P:Params}{h:Heap}{args:List WData}{vals:List Value}
  (hpre:l.row.toRowW.claim.pre args=true) (hwl:WellAll P h vals args) :
  ∃ a vs ns,vals=[Value.ref a]/\args=[WData.list (ns.map WData.int)]/\h.get? a=some { cls:=.type "list",data:=.seq vs.toArray }/\IntsAre vs ns/\ns.length<=n:=by
 have hsh:WShape.hasAll [] args [.list .int]=true:=(pre_splitW hpre).1;have hc:l.pre.holds [] { args:=args }=true:=(pre_splitW hpre).2;obtain⟨d,r,rfl,h1,h2⟩:=hasAllW_cons hsh;obtain rfl:=hasAllW_nil h2;obtain⟨xs,rfl,h3⟩:=hasW_list h1;obtain⟨ns,rfl⟩:=items_int h3
 have hlen:ns.length<=n:=by
  unfold OpenLaw.pre at hc
  have h4:(WTm.not (.lt (.lit (.int (n:Int))) (.len (.arg 0)))).holds [] { args:=[.list (ns.map .int)] }=true:=by
   have h4:=(holds_andW hc).1;rw[hn]at h4;exact h4
  have h5:=condW_of h4 (w_not (w_lt w_lit (w_len_list (w_arg rfl))));rw[List.length_map]at h5;refine Nat.le_of_not_lt fun q => ?_
  have q':(n:Int) < ((ns.length:Nat):Int):=by omega
  first
   | (rw[decide_eq_true q']at h5;exact absurd h5 (by decide))
   | (simp at h5;omega)
 cases hwl with
 | cons w1 w2=>
  cases w2;cases w1 with
  | list ho hall=>exact⟨_,_,ns,rfl,rfl,ho,i_ ns _ hall,hlen⟩
theorem ti(l:OpenLaw)(args:List WData):l.row.toRowW.claim.post args (.bool true) args=true:=
 postW_of (r:=l.row.toRowW) (X:=(true == true))
  (show WShape.has [] (.bool true) .bool=true by first | rfl | decide | simp[WShape.has,WShape.arms,WShape.armsAll])
  (show(WTm.eq .res (.lit (.bool true))).value [] { args:=args,res:=some (.bool true),after:=args }=some (.bool (true == true)) from w_eq_bool (w_res rfl) w_lit) rfl
theorem n5{l:OpenLaw}{n:Nat}{q:Program}{loose:List Str}{XP:(Str->Option Value)->Heap->Prop}{YP:World->Heap->Prop}{d:DefRec}
  (hn:l.most=some n) (hdf:d.params.defaults=[])
  (call:∀ (w:World) (s₀ s₁:Shared) (mg mb:Str->Option Value) (fa:Addr) (o:Obj) (pm cd doc:Value) (a:Addr) (vs:List Value) (ns:List Int),
   Ground q loose [] XP w s₀ mg mb s₁.heap->YP w s₁.heap ->
   s₁.heap.get? fa=some o->o.data=.func (docDef d.name d.params d.body d.scope pm cd doc)->s₁.heap.CodeRec cd d.name->mg d.name=some (.ref fa) ->
   s₁.heap.get? a=some { cls:=.type "list",data:=.seq vs.toArray }->IntsAre vs ns->ns.length<=n->s₁.gens = #[] ->
   codeAny (model l.prog w) callerA (.call (.ref fa) ⟨[.ref a],[]⟩) (fun r s'=>r=.ok (.ret (.bool true))/\OldK s₁.heap s'.heap/\s'.os=s₁.os/\AllBare s'.gens) s₁) :
  WalkO q loose XP YP l.row.toRowW d [] (fun f vs=>PySem.call f vs):=by
 intro w s₀ s₁ mg mb G Y fa o pm cd doc dV kV ho hd hcd hD hmg hg args vals as hpre hlay hrd hwl hlo;obtain rfl:dV=.none:=Dflts.none hD hdf;obtain rfl:kV=.none:=Dflts.noKw hD;obtain⟨a,vs,ns,rfl,rfl,hobj,hints,hlen⟩:=tf hn hpre hwl;refine enter_call (codeAny_mono (call w s₀ s₁ mg mb fa o pm cd doc a vs ns G Y ho (fd_plain hd) hcd hmg hobj hints hlen hg) fun r s' hq => ?_)
 obtain⟨rfl,h2,h3,h4⟩:=hq;exact⟨.inl ⟨.bool true,.bool true,[],rfl,fun _=>rfl,.bool true,ti l _,fun _=>⟨List.Pairwise.nil,fun _ hm=>(nomatch hm)⟩⟩,h2,h3,h4⟩
section
variable{prog:Program}{w:World}{A:Around}{E:Value->Shared->Prop}{s:Shared}{K:Frag}
end
end NY
namespace L2
open PySem PySem.Spec PyProof.Rows
theorem lx:∀ {vs:List Value} {ns:List Int},IntsAre vs ns->Vals (ns.map V.int) vs
 | _,_,.nil=>.nil
 | _,_,.cons n t h=>.cons ⟨t,rfl⟩ (lx h)
def Only(H:Hp):Prop:=∀ b,H b=none\/∃ o xs,H b=some (.i7 o (.lst xs))
theorem uZ{P:Program}{w:World}{K:PySem.W.Frag}{mg mb:Str->Option Value}{CX:qS}{k:Nat}{fa a:Addr}{fd:FuncData}{x:Str}{sp:Sp}{s₁:Shared}{vs:List Value}{ns:List Int}
  (KX:K.In s₁.heap) (hns:s₁.heap.Ns mainGlobals mg) (hb:s₁.heap.Ns builtinsNs mb) (hbb:∀ x:Str,x≠"__name__"->mb x=bootBuiltins x) (hlim:s₁.heap.NoLimit) (hg:s₁.gens = #[])
  (ha:s₁.heap.get? a=some { cls:=.type "list",data:=.seq vs.toArray }) (hi:IntsAre vs ns) (hl:ns.length<=sizeLine) (hr:bJ k callerA)
  (F:∀ base:Heap,K.In base->base.Ns mainGlobals mg->bO P w K mg base CX k fa fd [x] sp) (hbind:∀ (s:Shared) (u:Value),BindsTo s fd ⟨[u],[]⟩ [(x,u)])
  (hsp:∀ H:Hp,Only H->jg K H a (ns.map V.int)->sp [.ref a] H (fun v _=>v=.bl true) fun _ _ _=>False)
  (Kn:∀ H e s',CX [] H s₁ (fun _ _ _=>False) e s'->False) :
  codeAny (model P w) callerA (.call (.ref fa) ⟨[.ref a],[]⟩) (fun r s'=>r=.ok (.ret (.bool true))/\OldK s₁.heap s'.heap/\s'.os=s₁.os/\AllBare s'.gens) s₁:=by
 have rv:=lx hi;have lenV:=hi.length
 have core:∀ H:Hp,Only H->jg K H a (ns.map V.int)->iS P w H s₁.heap->(∀ b,H b≠none->b=a)->(H a≠none->K.lookup a=none) ->
   codeAny (model P w) callerA (.call (.ref fa) ⟨[.ref a],[]⟩) (fun r s'=>r=.ok (.ret (.bool true))/\OldK s₁.heap s'.heap/\s'.os=s₁.os/\AllBare s'.gens) s₁:=by
  intro H hO hS hok hA hK;have qZ:∀ {b:Addr} {o:Obj},s₁.heap.get? b=some o->H b=none->(lY s₁.heap H).get? b=some o:=fun e n=>uy e n
  have EB:∀ {b:Addr} {o:Obj} {es:Array DictEntry} {ep:Nat},s₁.heap.get? b=some o->o.data=.dict es ep->H b=none:=fun {b o es ep} e d=>by
   cases q:H b with
   | none=>rfl
   | some u=>
    have e':b=a:=hA b (by rw[q];simp)
    subst e';rw[ha]at e;cases e
    have d':Data.seq vs.toArray _=Data.dict es ep:=d;cases d'
  have Ie:∀ {b:Addr} {m:Str->Option Value},s₁.heap.Ns b m->(lY s₁.heap H).Ns b m:=fun {b m} ⟨o,es,ep,e,d,r⟩=>⟨o,es,ep,qZ e (EB e d),d,r⟩
  have NZ:K.In (lY s₁.heap H):=fun b o e=>qZ (KX b o e) (by
   cases q:H b with
   | none=>rfl
   | some u=>
    have e':b=a:=hA b (by rw[q];simp)
    subst e';rw[hK (by rw[q];simp)]at e;cases e)
  have hM:Mod K mg (lY s₁.heap H):=⟨NZ,Ie hns,⟨mb,Ie hb,hbb⟩,let ⟨mc,h1,h2⟩:=hlim;⟨mc,Ie h1,h2⟩⟩
  have e0:nV P w K mg (lY s₁.heap H) callerA [] s₁ H:=⟨rfl,hM,fun b o e=>xU e,Nat.le_of_eq (sR _ _),trivial,fun b hb=>absurd (show b∈([]:List Addr) from hb) (by simp),hok,.of_eq hg⟩
  refine codeAny_mono ((F _ NZ (Ie hns)).run callerA [] s₁ H ⟨[.ref a],[]⟩ [.ref a] [.ref a] _ _ hr e0 (hbind s₁ (.ref a)) (.cons rfl .nil) (hsp H hO hS)) fun r s' h => ?_
  cases r with
  | error e=>exact(Kn H e s' h).elim
  | ok fl=>
   cases fl with
   | next=>exact False.elim h
   | brk=>exact False.elim h
   | cont=>exact False.elim h
   | ret u=>
    obtain⟨v,H',os,bare,un,hok',r',q⟩:=h;have q':v=.bl true:=q;subst q';obtain rfl:u=Value.bool true:=r';refine⟨rfl,OldK.of_keep fun b o e => ?_,os,bare⟩
    cases q:H b with
    | none=>exact un.keep b o e q (by intro z;exact absurd (show b∈([]:List Addr) from z) (by simp)) (by simp)
    | some u=>
     rcases hO b with z | ⟨ob,xs,z⟩
     ·rw[q]at z;cases z
     ·have z2:=un.gO b ob _ z
      obtain⟨e1,_⟩:=hok b _ z;obtain⟨e2,_⟩:=hok' b _ z2;rw[e]at e1;cases e1
      exact e2
 cases hk:K.lookup a with
 | some o=>
  have e:=KX a o hk;rw[ha]at e;cases e;refine core (fun _=>none) (fun _=>.inl rfl) (.inr ⟨_,vs.toArray,_,hk,rfl,rfl,rfl,by rw[List.size_toArray,lenV];exact hl,by simpa using rv⟩) (fun b u z=>by have z':(none:Option HO)=some u:=z;cases z') (fun b z=>absurd rfl z) fun z=>absurd rfl z
 | none=>
  refine core (fun b=>if b=a then some (.i7 { cls:=.type "list",data:=.seq vs.toArray } (.lst (ns.map V.int))) else none) (fun b => ?_) (.inl (.inr ⟨{ cls:=.type "list",data:=.seq vs.toArray },if_pos rfl⟩)) (fun b u z => ?_) (fun b z => ?_) fun _=>hk
  ·by_cases hb:b=a
   ·exact .inr ⟨_,_,if_pos hb⟩
   ·exact .inl (if_neg hb)
  ·by_cases hb:b=a
   ·have z':=(if_pos hb).symm.trans z
    cases z';subst hb;exact⟨ha,by rw[List.length_map];exact hl,vs,_,rv,ha⟩
   ·have z':=(if_neg hb).symm.trans z
    cases z'
  ·by_cases hb:b=a
   ·exact hb
   ·exact absurd (if_neg hb) z
theorem yn{l:PySem.W.OpenLaw}{n k:Nat}{q:Program}{loose:List Str}{XP:(Str->Option Value)->Heap->Prop}{YP:World->Heap->Prop}{d:DefRec}{K:Params->PySem.W.Frag}{CX:World->qS}{sp:World->Sp}{x:Str}
  (hn:l.most=some n) (hn2:n<=sizeLine) (hdf:d.params.defaults=[]) (hr:bJ k callerA)
  (hY:∀ (w:World) (h:Heap),YP w h->(K w.params).In h)
  (F:∀ (w:World) (mg:Str->Option Value) (fa:Addr) (h:Heap),(K w.params).In h->h.Ns mainGlobals mg->mg d.name=some (.ref fa) ->
   ∃ fd:FuncData,(∀ (s:Shared) (u:Value),BindsTo s fd ⟨[u],[]⟩ [(x,u)]) /\
    ∀ base:Heap,(K w.params).In base->base.Ns mainGlobals mg->bO l.prog w (K w.params) mg base (CX w) k fa fd [x] (sp w))
  (hsp:∀ (w:World) (H:Hp) (a:Addr) (ns:List Int),ns.length<=n->Only H->jg (K w.params) H a (ns.map V.int)->sp w [.ref a] H (fun v _=>v=.bl true) fun _ _ _=>False)
  (Kn:∀ (w:World) (H:Hp) (s:Shared) (e:Value) (s':Shared),CX w [] H s (fun _ _ _=>False) e s'->False) :
  PySem.W.WalkO q loose XP YP l.row.toRowW d [] (fun f vs=>PySem.call f vs):=by
 refine NY.n5 hn hdf fun w s₀ s₁ mg mb fa o pm cd doc a vs ns G Y ho hd hcd hmg hobj hints hlen hg => ?_
 have KX:=hY w _ Y;obtain⟨fd,hb,hF⟩:=F w mg fa _ KX G.T.g hmg;exact uZ KX G.T.g G.T.b G.T.builtins G.T.nolimit hg hobj hints (Nat.le_trans hlen hn2) hr hF hb (fun H hO hS=>hsp w H a ns hlen hO hS) fun H e s'=>Kn w H s₁ e s'
noncomputable def inClass(s:Stmt)(j:Nat):Stmt:=match s with
 | .ClassDef _ _ _ body _ _ _ _ _ _ _=>body.getD j (.Pass ⟨0,0,0,0⟩)
 | _=>.Pass ⟨0,0,0,0⟩
noncomputable def bQ(s:Stmt):Arguments:=match s with
 | .FunctionDef _ a _ _ _ _ _ _ _ _=>a
 | _=>{ posonlyargs:=[],args:=[],vararg:=none,kwonlyargs:=[],kw_defaults:=[],kwarg:=none,defaults:=[] }
noncomputable def aT(s:Stmt):List Stmt:=match s with
 | .FunctionDef _ _ b _ _ _ _ _ _ _=>b
 | _=>[]
noncomputable def af(s:Stmt):Scope:=match s with
 | .FunctionDef _ _ _ _ _ _ sc _ _ _=>sc
 | _=>{ kind:=.function,names:=[],isGenerator:=false,isCoroutine:=false }
abbrev dW:qS:=fun _ _ _ _ _ _=>False
abbrev E0:XK:=fun _ _ _=>False
theorem q_{X:Cx}:Passes dW X E0:=fun _ _ _ _ _ _ _ h=>h.elim
structure tj(K:PySem.W.Frag)(x qual:Str)(st:Stmt)(f:Addr)(fd:FuncData):Prop where
 ex:∃ (oc:Value) (od:Option Addr) (kV doc pm:Value) (an:Option Addr) (cdv ct:Value) (osl:Array (Option Value)),
  fd=PySem.W.fnOf x qual (bQ st) (aT st) (af st) .none kV doc pm an cdv ct/\K.lookup f=some ⟨oc,od,.func fd,osl⟩/\PySem.W.codeIn K cdv qual=true
 kp:PySem.W.keepIn K (.ref f)=true
section
variable{P:Program}{w:World}{K:PySem.W.Frag}{mg:Str->Option Value}{base:Heap}
theorem tj.ok{x qual:Str}{st:Stmt}{f:Addr}{fd:FuncData}{N ps:List Str}{k:Nat}{sp:Sp}(F:tj K x qual st f fd)(S:fm N ps (af st))(len:∀ vs H Q E,sp vs H Q E->vs.length=ps.length)
  (hbody:∀ (cdv:Value) (A:Around) (outer:List Env) (s:Shared) (H:Hp) (vs:List V) (Q:VK) (E:XK),bJ k (A.deeper (envOfC qual (af st) s.heap.objs.size f cdv))->sp vs H Q E ->
   ∃ t,gZ (bW dW P w K mg base N qual (af st) f cdv A outer s H E).iT (aT st) t/\t { nx:=fun _ H'=>Q .non H',rt:=Q } (start N vs) H):bO P w K mg base dW (k + 1) f fd ps sp:=by
 obtain⟨oc,od,kV,doc,pm,an,cdv,ct,osl,rfl,lk,hcd⟩:=F.ex;refine uR lk hcd S len fun A outer s H vs Q E hr hsp => ?_
 obtain⟨t,h,q⟩:=hbody cdv A outer s H vs Q E hr hsp;exact⟨t,h.iT,q⟩
theorem tj.binds{x qual:Str}{st:Stmt}{f:Addr}{fd:FuncData}{ps:List Str}(F:tj K x qual st f fd)
  (h:∀ (kV doc pm:Value) (an:Option Addr) (cdv ct:Value) (us:List Value),us.length=ps.length->bindArgs (PySem.W.fnOf x qual (bQ st) (aT st) (af st) .none kV doc pm an cdv ct) ⟨us,[]⟩=pure (ps.zip us)):Binds K fd ps []:=by
 obtain⟨oc,od,kV,doc,pm,an,cdv,ct,osl,rfl,lk,hcd⟩:=F.ex;exact .all (h kV doc pm an cdv ct)
theorem jM{x qual:Str}{st:Stmt}{f:Addr}{oc:Value}{od an:Option Addr}{osl:Array (Option Value)}{kV doc pm cdv ct:Value}(l:K.lookup f=some ⟨oc,od,.func (PySem.W.fnOf x qual (bQ st) (aT st) (af st) .none kV doc pm an cdv ct),osl⟩)
  (c:PySem.W.codeIn K cdv qual=true) (k:PySem.W.keepIn K (.ref f)=true):tj K x qual st f (PySem.W.fnOf x qual (bQ st) (aT st) (af st) .none kV doc pm an cdv ct):=⟨⟨oc,od,kV,doc,pm,an,cdv,ct,osl,rfl,l,c⟩,k⟩
end
section
variable{X:Cx}
end
theorem n8{A B:Prop}(h:B):if false=true then A else B:=by
 rw[if_neg Bool.false_ne_true];exact h
theorem n9{A B:Prop}(h:A):if true=true then A else B:=by
 rw[if_pos rfl];exact h
def kS(H H':Hp):Prop:=∀ b o,H b=some o->H' b=some o
theorem kS.refl(H:Hp):kS H H:=fun _ _ h=>h
section
variable{κ:Type}[DecidableEq κ]
end
open PySem.W
def EO(X:Cx)(f:Addr)(vs:List V)(σ:St)(H:Hp)(Q:VK):Prop:=∀ (pins:List (Addr×Obj)) (s:Shared) (us:List Value),Inv X pins σ H s->Vals vs us->wpAny (model X.prog X.w) X.A (call (.ref f) us) (EP X pins σ Q) X.xe s
noncomputable def Cx.fz(X:Cx)(xs:List Str):Cx:={ X with fn:=fun y=>X.fn y && !(xs.contains y) }
section
variable{X:Cx}{pins:List (Addr×Obj)}{σ:St}{H:Hp}{s:Shared}
end
end L2
namespace L2
open PySem PySem.Spec PyProof.Rows
theorem KT.length{H:Hp}{l:List (List Key×V)}{m:List (List Key×Addr×Value)}(q:KT H l m):m.length=l.length:=by
 induction q with
 | nil=>rfl
 | cons _ _ ih=>rw[List.length_cons,List.length_cons,ih]
end L2
namespace HT
open PySem PyProof.Rows
section
variable{prog:Program}{w:World}{A:Around}{E:Value->Shared->Prop}{s:Shared}
theorem gw{t sl:Addr}{items:Array Value}{vl vu:Value}{lo hi:Option Int}{Q:Value->Shared->Prop}(ht:IsTup s.heap t items)(hs:s.heap.IsSliceOf sl vl vu .none)(pl:IsPart vl lo)(pu:IsPart vu hi)
  (h1:ck items.size 0 lo=0) (h2:ck items.size items.size hi=items.size) (h:Q (.ref t) s):wpAny (model prog w) A (getItem (.ref t) (.ref sl)) Q E s:=by
 obtain⟨os,hos,hcs,hds⟩:=id hs;have hTs:s.TypeIs (.ref sl) "slice":=⟨os,hos,hcs⟩;unfold getItem
 try with_reducible refine wpAny_holding ?_
 first | refine wpAny_bind (wpAny_pure ?_) | skip
 refine wpAny_bind (wpAny_sequenceKey ht.typeIs (by decide) ?_)
 refine wpAny_bind (wpAny_callSpecial?_slot (name:=Str.ofString "__getitem__") ht.typeIs PyProof.Rows.slot_tuple_getitem
  (wpAny_call_entry PyProof.Rows.slot_tuple_getitem ht.typeIs entry_tuple_getitem ?_ (args_tuple_getitem _ _)))
 show wpAny _ _ (Builtin.Tuple.tupleItemsOf (.ref t) >>= _) _ _ s
 refine wpAny_bind (tupleItemsOf_ ht ?_);refine wpAny_bind (wpAny_typeOf hTs ?_);rw[if_pos (by decide)]
 refine wpAny_bind (eV hs pl pu ?_)
 have Ko:(((ck items.size 0 lo:Nat):Int) == 0 && (1:Int) == 1 && (ck items.size items.size hi - ck items.size 0 lo) == items.size)=true:=by
  rw[h1,h2];simp
 show wpAny _ _ (if (((ck items.size 0 lo:Nat):Int) == 0 && (1:Int) == 1 && (ck items.size items.size hi - ck items.size 0 lo) == items.size)=true then _ else _) _ _ s
 rw[if_pos Ko];unfold Builtin.Tuple.tupleIsExact;refine wpAny_bind (wpAny_bind (wpAny_typeOf ht.typeIs (wpAny_pure ?_)));rw[if_pos (by decide)]
 exact wpAny_bind (wpAny_rule (wpAny_pure ⟨_,rfl,wpAny_pure h⟩))
theorem u0{t b:Addr}{ws:List Value}{Q:Value->Shared->Prop}(ht:IsTup s.heap t #[])(hb:IsTup s.heap b ws.toArray)(h:Q (.ref b) s):wpAny (model prog w) A (binaryOp .Add (.ref t) (.ref b)) Q E s:=by
 obtain⟨⟨cls,dd,data,sl⟩,ho,hc,n,hd⟩:=id ht;obtain⟨⟨cls2,dd2,data2,sl2⟩,ho2,hc2,n2,hd2⟩:=id hb;simp only at hc hd hc2 hd2;subst hc hd hc2 hd2
 exact concat_meets ⟨_,ho,rfl⟩ ⟨_,ho2,rfl⟩ noFill_tuple_add seq_tuple_add PySem.F.slot_tuple_add PySem.F.entry_tuple_add (PySem.F.args_tuple_add_2 _ _)
   (tuple_addW0 t b #[] ws.toArray n n2 dd dd2 sl sl2 rfl) ⟨ho,ho2,h⟩
end
end HT
namespace L2
open PySem PySem.Spec PyProof.Rows
section
variable{X:Cx}
def ER(K:PySem.W.Frag):V->Option Int->Option Int->Hp->VK->Prop:=fun x lo hi H Q=>∃ a xs,x=.ref a/\fH K H a xs/\HT.ck xs.length 0 lo=0/\HT.ck xs.length xs.length hi=xs.length/\Q (.ref a) H
theorem hZ:yi X (ER X.K):=by
 intro pins s σ H x v vl vu lo hi sl Q I rx hs pl pu h;obtain⟨a,xs,rfl,hx,h1,h2,q⟩:=h;cases rx;obtain⟨its,r,ht,hz⟩:=I.tuple hx;have hlen:its.toArray.size=xs.length:=by rw[List.size_toArray];exact r.length.symm
 refine⟨"tuple",_,PyProof.Rows.slot_tuple_getitem.lookup,ht.typeIs,?_⟩;exact HT.gw ht hs pl pu (by rw[hlen];exact h1) (by rw[hlen];exact h2) ⟨.ref a,H,I,rfl,q⟩
noncomputable def AE(K:PySem.W.Frag):R2:=fun x y H Q=>∃ a b ys,x=.ref a/\y=.ref b/\fH K H a []/\fH K H b ys/\Q (.ref b) H
theorem yo:fJ X (binaryOp .Add) (AE X.K):=by
 intro pins s σ H x y v u Q I rx ry h;obtain⟨a,b,ys,rfl,rfl,ha,hb,q⟩:=h;cases rx;cases ry;obtain⟨its,r1,p1,_⟩:=I.tuple ha;obtain⟨its2,r2,p2,_⟩:=I.tuple hb;cases r1;exact HT.u0 p1 p2 ⟨.ref b,H,I,rfl,q⟩
end
open PySem.W
section
variable{P:Program}{w:World}{K:PySem.W.Frag}{mg:Str->Option Value}{base:Heap}
theorem tj.P1{x qual:Str}{st:Stmt}{f:Addr}{fd:FuncData}{N ps:List Str}{k:Nat}{sp:Sp}{c:Addr}(F:tj K x qual st f fd)(hcv:fd.code=.ref c)(S:fm N ps (af st))(len:∀ vs H Q E,sp vs H Q E->vs.length=ps.length)
  (hbody:∀ (A:Around) (outer:List Env) (s s1:Shared) (H:Hp) (vs:List V) (Q:VK) (E:XK),bJ k (A.deeper (envOfC qual (af st) s.heap.objs.size f (.ref c)))->sp vs H Q E ->
   Inv (bW dW P w K mg base N qual (af st) f (.ref c) A outer s H E).iT [] (start N vs) H s1 ->
   wpAny (model P w) (A.deeper (envOfC qual (af st) s.heap.objs.size f (.ref c))) (execs (aT st) (envOfC qual (af st) s.heap.objs.size f (.ref c)))
    (fun fl s'=>∃ xs v u σ' H',(fl=.ret u\/fl=.next/\u=Value.none)/\Inv ((bW dW P w K mg base N qual (af st) f (.ref c) A outer s H E).iT.fz xs) [] σ' H' s'/\RelV v u/\Q v H') (fun _ _=>False) s1) :
  bO P w K mg base dW (k + 1) f fd ps sp:=by
 obtain⟨oc,od,kV,doc,pm,an,cdv,ct,osl,rfl,lk,hcd⟩:=F.ex;obtain rfl:cdv=.ref c:=hcv;refine⟨len,fun A outer s H args us vs Q E hr e0 hb r hsp => ?_⟩
 have hl:=len _ _ _ _ hsp;have KX:K.In s.heap:=e0.mod.DN.keeps fun b o e=>(e0.bs b o e).1
 have lim:s.heap.NoLimit:=e0.mod.nolimit.keeps fun b o e=>(e0.bs b o e).1
 have hkind:∀ y∈ps.zip us,(af st).names.lookup y.1=some .local\/((af st).names.lookup y.1=some .cell/\((cellsFrom (s.heap.objs.size + 1) (af st).names []).lookup y.1).isSome=true):=fun ⟨n,v⟩ hy=>by
  rcases S.par n (List.of_mem_zip hy).1 with q | q
  ·exact .inl q
  ·exact .inr ⟨q,PySem.W.cellsFrom_some _ _ _ (.inl q)⟩
 refine codeAny_call_function hr.depth (KX _ _ lk) rfl S.co S.gen rfl (PySem.W.codeRec_of KX hcd) (hb _ _ _ _ ?_);refine wpAny_newFunctionEnv_cells S.kind hkind fun env he s1 x => ?_
 subst he;refine⟨lim.keeps x.toInCall.keep,codeAny_func ?_⟩;have I:Inv (bW dW P w K mg base N qual (af st) f (.ref c) A outer s H E) [] (start N vs) H s1:=iF S hr.hd e0 hl r x;refine wpAny_mono (hbody A outer s s1 H vs Q E (hr.deeper _) hsp (I.wish _)) (fun fl s' hs => ?_) fun e s' hs=>hs.elim
 obtain⟨xs,v,u,σ',H',hfl,J,rv,q⟩:=hs;have fin:CE outer P w H s Q u s':=⟨v,H',J.os,J.bare,J.base,J.hok,rv,q⟩;rcases hfl with rfl | ⟨rfl,rfl⟩
 ·exact fin
 ·exact fin
end
end L2
namespace L2
open PySem PySem.Spec PyProof.Rows
section
variable{prog:Program}{w:World}{A:Around}{R:Result->Shared->Prop}{h:Heap}{g:Array GenState}{d:Drawn}{t:Nat}{os:OsState}
variable{nm q:Str}{C N f:Addr}{bs bm bmB:List Value}{hdct:Bool}{sn:List Str}{sub:List Value}{ab:Bool}{col:Option Bool}{dd:Option Addr}{k0 k1 k2 k3 k5:Option Value}{B newId initId:String}
abbrev dN(h:Heap)(C:Addr)(rest:List Value):Heap:=(h.push { cls:=.type "tuple",data:=.seq rest.toArray }).push { cls:=.ref C,data:=.fields #[.ref h.objs.size,.none,.none,.none,.bool false,.none] }
theorem kT(F:ExcBaseFacts B newId initId bmB)(T:OwnTail h bmB bm){mN:Str->Option Value}{rest:List Value}
  (hC:h.get? C=some (excClassObj nm q C N bs bm hdct sn sub ab col dd k0 k1 k2 k3 k5 newId)) (hn:h.Ns N mN) (hni:mN "__init__"=some (.ref f))
  (hb:∀ self,PySem.W.Looks (model prog w) h (bindSpecial (.ref f) self) (.ref f,[self])) (hrest:rest.length<=sizeLine)
  {Q:Fin->Shared->Prop} {E:Value->Shared->Prop}
  (hq:codeAny (model prog w) A (.call (.ref f) ⟨.ref (h.objs.size + 1)::rest,[]⟩) (fun r s'=>match r with | .ok (.ret v)=>v=.none/\Q (.done (.ret (.ref (h.objs.size + 1)))) s' | .ok _=>False | .error e=>E e s') ⟨dN h C rest,g,d,t,os⟩) :
  wpAny (model prog w) A (Builtin.«type.__call__» ⟨.ref C::rest,[]⟩) Q E ⟨h,g,d,t,os⟩:=by
 repeat (first | with_reducible refine wpAny_loadPart_at hC ?_ | with_reducible refine wpAny_madeBy_exc hC ?_ | wp_step)
 refine codeAny_call_builtin_code (Code.quiet_builtin _ F.quiet) (wpAny_check_new_subT F T hC ?_);refine codeAny_exc_new_subT F T hC ?_ hrest
 show wpAny _ _ _ _ _ _
 have k:∀ b o,h.get? b=some o->(dN h C rest).get? b=some o:=fun b o e=>Heap.get?_push_of_some _ (Heap.get?_push_of_some _ e)
 have hC₁:=k _ _ hC;have hn₁:(dN h C rest).Ns N mN:=let ⟨o,es,ep,e,r⟩:=hn;⟨o,es,ep,k _ _ e,r⟩
 have hget:(dN h C rest).get? (h.objs.size + 1)=some { cls:=.ref C,data:=.fields #[.ref h.objs.size,.none,.none,.none,.bool false,.none] }:=by heap_get
 have hcC:(Value.ref C::bm).contains (.ref C)=true:=by simp
 have T₁:=T.keeps k;have b1:=(hb (.ref (h.objs.size + 1))).keeps k;unfold isInstance
 repeat (first | with_reducible refine wpAny_loadPart_at hget ?_ | (with_reducible refine wpAny_isSubtype_exc hC₁ ?_;rw[hcC]) | wp_step)
 show wpAny _ _ (typeLookup (.ref C) _) _ _ _
 refine wpAny_typeLookup_tail hC₁ hn₁ T₁ F.mroIs F.init.lookup ?_;rw[hni];refine wpAny_holding (wpAny_bind (b1.at ?_));refine wpAny_bind (wpAny_call (codeAny_mono hq fun r s' z => ?_))
 rcases r with e | (v | _ | _ | _)<;>first | exact z | exact z.elim | skip
 obtain⟨rfl,z⟩:=z;exact wpAny_pure (wpAny_pure z)
theorem u3(F:ExcBaseFacts B newId initId bmB)(T:OwnTail h bmB bm){mN:Str->Option Value}{rest:List Value}
  (hC:h.get? C=some (excClassObj nm q C N bs bm hdct sn sub ab col dd k0 k1 k2 k3 k5 newId)) (hn:h.Ns N mN) (hni:mN "__init__"=some (.ref f))
  (hb:∀ self,PySem.W.Looks (model prog w) h (bindSpecial (.ref f) self) (.ref f,[self])) (hrest:rest.length<=sizeLine)
  (hq:codeAny (model prog w) (A.under (.builtin "type.__call__" ⟨.ref C::rest,[]⟩)) (.call (.ref f) ⟨.ref (h.objs.size + 1)::rest,[]⟩) (PySem.W.InitBack (h.objs.size + 1) R) ⟨dN h C rest,g,d,t,os⟩) :
  codeAny (model prog w) A (.call (.ref C) ⟨rest,[]⟩) R ⟨h,g,d,t,os⟩:=by
 have f1:=tc_lookup;have f2:=tc_bind (.ref C);have hT:(⟨h,g,d,t,os⟩:Shared).TypeIs (.ref C) "type":=⟨_,hC,rfl⟩;refine codeAny_of_tree ?_
 show wpAny _ _ (callAny (.ref C) _) _ _ _
 repeat (any_goals (first | assumption | with_reducible refine wpAny_loadPart_at hC ?_ | wp_step))
 refine⟨rfl,?_⟩;refine codeAny_call_builtin_at (Code.quiet_builtin _ (by decide +kernel)) entry_typeCall (wpAny_check_type_call_sub hC (kT F T hC hn hni hb hrest ?_))
 exact hq
end
end L2
namespace L2
open PySem PySem.Spec PyProof.Rows
open PySem.W (clsIn findIn takerIn InstAt)
open PySem.Builtin PySem.Builtin.ObjectAttr PySem.Builtin.Getset_descriptor
section
variable{K:PySem.W.Frag}{prog:Program}{w:World}{A:Around}{E:Value->Shared->Prop}{s:Shared}{x C:Addr}{name:Str}{v:Value}{R:Result->Shared->Prop}
abbrev gR:List Value:=[.type "ValueError",.type "Exception",.type "BaseException",.type "object"]
noncomputable def eQ:List Value->Bool
 | .ref _::r=>eQ r
 | l=>l == gR
theorem ly(self:Value):∀ {l:List Value},eQ l=true->refuseLoop self "__setattr__" l=pure ()
 | [],e=>by simp[eQ]at e
 | a::r,e=>by
  cases a with
  | ref c=>rw[refuseLoop_ref];exact ly self e
  | _=>rw[eq_of_beq (show(_ == gR)=true from e)];exact PySem.F.store_ValueError.passes self
theorem u4:∀ {l:List Value},eQ l=true->l.contains (.type "object")=true
 | [],e=>by simp[eQ]at e
 | a::r,e=>by
  cases a with
  | ref c=>rw[List.contains_cons,u4 (l:=r) e,Bool.or_true]
  | _=>rw[eq_of_beq (show(_ == gR)=true from e)];decide
theorem yp{ox:Obj}{od:Option Obj}{tk:Tok}{cd:ClassData}(X:K.In s.heap)(I:InstAt s.heap x ox C od)(hc:clsIn K C=some cd)(ho:eQ cd.mro=true)(ht:takerIn K C name=some none)
  (h:∀ b,wpAny (model prog w) A.in1 (storeInOwnDict (.ref x) (.ref C) (.str name tk) name v b) (fun fin s'=>match fin with | .done f=>R (.ok f) s' | .again c'=>c'.quiet=true/\codeAny (model prog w) A c' R s') (fun e s'=>R (.error e) s') s) :
  codeAny (model prog w) A (.call (.builtin "object.__setattr__") ⟨[.ref x,.str name tk,v],[]⟩) R s:=by
 have SF:=PySem.F.store_object
 have ne:cd.mro.isEmpty=false:=by cases q:cd.mro with
  | nil=>rw[q]at ho;simp[eQ]at ho
  | cons _ _=>rfl
 have sub:PySem.W.Looks (model prog w) s.heap (isInstance (.ref x) (.type "object")) true:=I.type.andThen (PySem.W.looks_mroIn X (by unfold PySem.W.mroIn;rw[hc,Option.bind_some,if_neg (by rw[ne];decide),u4 ho]))
 refine codeAny_call_builtin SF.slot.plain SF.entry (@PySem.W.check_slot (model prog w) _ _ s _ _ _ (.ref x) [.str name tk,v] [] _ SF.kind SF.split sub (SF.args _ _ _) ?_);obtain⟨attr,ha,hr⟩:=Option.bind_eq_some_iff.mp ht;have hm:PySem.W.Looks (model prog w) s.heap (mroOf (.ref C)) cd.mro:=(PySem.W.looks_clsIn X hc).andThen .now
 have L3:PySem.W.Looks (model prog w) s.heap (storeTaker? attr) none:=by
  cases attr with
  | none=>exact .now
  | some a=>
   obtain⟨b,hb,e⟩:=Option.map_eq_some_iff.mp hr;refine(PySem.W.looks_takesIn X hb).andThen ?_;cases b with
   | true=>cases e
   | false=>exact .now
 rw[PySem.W.osa_eq,refuse_eq];refine wpAny_bind (wpAny_bind (I.type.here (wpAny_bind (hm.here ?_))));rw[ly _ ho];refine wpAny_pure (wpAny_bind (I.type.here (wpAny_bind ((PySem.W.looks_findIn X ha).here (wpAny_bind (L3.here ?_))))));exact h _
theorem yq{vs:Array Value}{sl:Array (Option Value)}{cd:ClassData}{Q:Unit->Shared->Prop}(X:K.In s.heap)(hx:s.heap.get? x=some ⟨.ref C,none,.fields vs,sl⟩)(hc:clsIn K C=some cd)(ho:eQ cd.mro=true)(hd:cd.hasDict=true)
  (hs:findIn K (.ref C) "__setattr__"=some (some (.builtin "object.__setattr__"))) (ht:takerIn K C name=some none)
  (h:∀ h' t',h'.get? x=some ⟨.ref C,some s.heap.objs.size,.fields vs,sl⟩->h'.Ns1 s.heap.objs.size (fun y=>if y=name then some v else none)->(∀ b o,b≠x->s.heap.get? b=some o->h'.get? b=some o)->Q () { s with heap:=h',toks:=t' }) :
  wpAny (model prog w) A (setAttr (.ref x) name v) Q E s:=by
 have I:InstAt s.heap x ⟨.ref C,none,.fields vs,sl⟩ C none:=⟨hx,rfl,rfl,trivial⟩;refine PySem.W.set_plain X I hs (yp (s:={ s with toks:=s.toks + 1 }) X I hc ho ht fun b => ?_)
 have hx₁:(s.heap.push { cls:=.type "dict",data:=.dict #[] }).get? x=some ⟨.ref C,none,.fields vs,sl⟩:=Heap.get?_push_of_some _ hx;have hxs:x≠s.heap.objs.size:=Nat.ne_of_lt (Heap.lt_size hx);refine wpAny_bind (wpAny_pure (wpAny_bind (wpAny_bind (wpAny_loadPart hx (wpAny_bind (PySem.W.Looks.here (s:={ s with toks:=s.toks + 1 }) (PySem.W.looks_clsIn X hc) ?_))))));rw[hd];refine wpAny_bind (wpAny_alloc' (wpAny_bind (wpAny_update' hx₁ (wpAny_pure ?_))))
 have hgd:((s.heap.push { cls:=.type "dict",data:=.dict #[] }).update x fun o=>{ o with dict:=some s.heap.objs.size }).get? s.heap.objs.size=some { cls:=.type "dict",data:=.dict #[] }:=
  (Heap.get?_update_ne _ _ _ _ hxs.symm).trans (Heap.get?_push_at rfl rfl)
 have hnd:((s.heap.push { cls:=.type "dict",data:=.dict #[] }).update x fun o=>{ o with dict:=some s.heap.objs.size }).Ns s.heap.objs.size (fun _=>none):=
  ⟨_,#[],_,hgd,rfl,fun e he=>absurd he (by simp),fun _=>rfl⟩
 have hxd:((s.heap.push { cls:=.type "dict",data:=.dict #[] }).update x fun o=>{ o with dict:=some s.heap.objs.size }).get? x=some ⟨.ref C,some s.heap.objs.size,.fields vs,sl⟩:=Heap.get?_update_self _ hx₁ rfl
 have hkp:∀ b o,b≠x->s.heap.get? b=some o->((s.heap.push { cls:=.type "dict",data:=.dict #[] }).update x fun o=>{ o with dict:=some s.heap.objs.size }).get? b=some o:=fun b o hb e=>
  (Heap.get?_update_ne _ _ _ _ hb).trans (Heap.get?_push_of_some _ e)
 show wpAny _ _ (storeInDict s.heap.objs.size (.str name s.toks) name v) _ _ _
 unfold storeInDict newKeyGuard;refine wpAny_bind (wpAny_pure (wpAny_bind (wpAny_nsSet1 (Heap.Ns1.of_empty hnd) fun h' hn' hsb => ?_)))
 obtain⟨oD,esD,epD,hoD,hdD,hcD⟩:=hn'.count (Within.cons name v Within.nil);refine wpAny_bind (wpAny_lookBehind hoD (by rw[hdD];exact pastItsLine_dict (Nat.le_trans hcD (by rw[List.length_cons,List.length_nil,sizeLine_eq];omega))) ?_)
 refine wpAny_pure (h h' _ ((hsb.2 x hxs).trans hxd) hn' fun b o hb e=>(hsb.2 b (Nat.ne_of_lt (Heap.lt_size e))).trans (hkp b o hb e))
end
end L2
namespace L2
open PySem PySem.Spec PyProof.Rows
section
variable{prog:Program}{w:World}{A:Around}{R:Result->Shared->Prop}{h:Heap}{g:Array GenState}{d:Drawn}{t:Nat}{os:OsState}
variable{nm q:Str}{C N e:Addr}{bs bm bmB:List Value}{hdct:Bool}{sn:List Str}{sub:List Value}{ab:Bool}{col:Option Bool}{dd od:Option Addr}{k0 k1 k2 k3 k5:Option Value}{B newId initId:String}{a0:Addr}{sl:Array (Option Value)}
theorem kU(F:ExcBaseFacts B newId initId bmB)(T:OwnTail h bmB bm){rest:List Value}
  (hC:h.get? C=some (excClassObj nm q C N bs bm hdct sn sub ab col dd k0 k1 k2 k3 k5 newId)) (he:h.get? e=some ⟨.ref C,od,.fields #[.ref a0,.none,.none,.none,.bool false,.none],sl⟩) (hrest:rest.length<=sizeLine)
  (hq:∀ h',h'.get? e=some ⟨.ref C,od,.fields #[.ref h.objs.size,.none,.none,.none,.bool false,.none],sl⟩->h'.get? h.objs.size=some { cls:=.type "tuple",data:=.seq rest.toArray }->(∀ b o,b≠e->h.get? b=some o->h'.get? b=some o)->R (.ok (.ret .none)) ⟨h',g,d,t,os⟩) :
  codeAny (model prog w) A (.call (.builtin initId) ⟨.ref e::rest,[]⟩) R ⟨h,g,d,t,os⟩:=by
 refine codeAny_call_builtin F.init.plain F.initEntry (wpAny_check_init_subT F T hC he rfl ?_);have P2:=Heap.get?_push_of_some (h:=h) { cls:=.type "tuple",data:=.seq rest.toArray } he;have hne:h.objs.size≠e:=Nat.ne_of_gt (Heap.lt_size he)
 wp_walk
 refine hq _ ?_ ?_ fun b o hb e1 => ?_
 ·exact Heap.get?_update_self _ P2 rfl
 ·rw[Heap.get?_update_other _ _ (Ne.symm hne)]
  exact Heap.get?_push_at rfl rfl
 ·rw[Heap.get?_update_other _ _ (Ne.symm hb)]
  exact Heap.get?_push_of_some _ e1
end
end L2
namespace L2
open PySem PySem.Spec PyProof.Rows
open PySem.W (clsIn findIn takerIn InstAt Looks mroIn)
structure pP(K:PySem.W.Frag)(C:Addr):Prop where
 ga:findIn K (.ref C) "__getattribute__"=some (some (.builtin "BaseException.__getattribute__"))
 gn:findIn K (.ref C) "__getattr__"=some none
 be:mroIn K C (.type "BaseException")=some true
section
variable{prog:Program}{w:World}{A:Around}{E:Value->Shared->Prop}{h:Heap}{g:Array GenState}{d:Drawn}{t:Nat}{os:OsState}{K:PySem.W.Frag}{x C:Addr}{ox:Obj}{od:Option Obj}{DV:Value}
theorem u5{Q:Unit->Shared->Prop}(X:K.In h)(I:InstAt h x ox C od)(G:pP K C)(hq:Q () ⟨h,g,d,t,os⟩):wpAny (model prog w) A (checkBuiltinCall "BaseException.__getattribute__" ⟨[.ref x,DV],[]⟩) Q E ⟨h,g,d,t,os⟩:=by
 have hk:builtinKind "BaseException.__getattribute__"=some .slot:=by decide +kernel
 have hsplit:splitId "BaseException.__getattribute__"=some ("BaseException","__getattribute__"):=by decide +kernel
 have ha:=F.args_bexc_ga (.ref x) DV;have L:Looks (model prog w) h (isInstance (.ref x) (.type "BaseException")) true:=(I.type).andThen (PySem.W.looks_mroIn X G.be);simp only[checkBuiltinCall,hk,hsplit];refine wpAny_bind (L.at ?_)
 repeat (any_goals (first | assumption | wp_step))
theorem yr{v:Value}{t':Nat}{R:Result->Shared->Prop}(X:K.In h)(I:InstAt h x ox C od)(G:pP K C)(hf:∀ (Q:Fin->Shared->Prop) (E:Value->Shared->Prop),Q (.done (.ret v)) ⟨h,g,d,t',os⟩->wpAny (model prog w) A.in1 (Builtin.«object.__getattribute__» ⟨[.ref x,DV],[]⟩) Q E ⟨h,g,d,t,os⟩)
  (hq:R (.ok (.ret v)) ⟨h,g,d,t',os⟩):codeAny (model prog w) A (.call (.builtin "BaseException.__getattribute__") ⟨[.ref x,DV],[]⟩) R ⟨h,g,d,t,os⟩:=
 codeAny_call_builtin F.attr_ValueError.ga.plain F.entry_bexc_ga (u5 X I G (hf _ _ hq))
theorem AF{v:Value}{t':Nat}{fill expr:Bool}{Q:Value->Shared->Prop}(X:K.In h)(I:InstAt h x ox C od)(G:pP K C)(hf:∀ (A:Around) (Q:Fin->Shared->Prop) (E:Value->Shared->Prop),Q (.done (.ret v)) ⟨h,g,d,t',os⟩->wpAny (model prog w) A (Builtin.«object.__getattribute__» ⟨[.ref x,DV],[]⟩) Q E ⟨h,g,d,t,os⟩)
  (hh:handedOut v=pure v) (hq:Q v ⟨h,g,d,t',os⟩):wpAny (model prog w) A (getAttrBy (.ref x) DV fill expr) Q E ⟨h,g,d,t,os⟩:=by
 have L0:=I.type (M:=model prog w);have L1:=PySem.W.looks_findIn (M:=model prog w) X G.ga;have L2:=PySem.W.looks_findIn (M:=model prog w) X G.gn;have f3:=F.attr_ValueError.ga.bind (.ref x);have hx0:(expr && onTheHeap (Value.builtin "BaseException.__getattribute__"))=false:=by cases expr<;>rfl
 have hx2:(Value.builtin "BaseException.__getattribute__" == Value.builtin "object.__getattribute__")=false:=by decide +kernel
 unfold getAttrBy;refine wpAny_holding (wpAny_bind (L0.at (wpAny_bind (L1.at ?_))))
 show wpAny _ _ (if (onTheHeap (.ref C) && Value.builtin "BaseException.__getattribute__" == Value.builtin "object.__getattribute__")=true then _ else _) _ _ _
 rw[if_neg (by rw[hx2];simp)]
 unfold getAttrByItsOwn hookBefore;rw[if_pos (by rfl)]
 refine wpAny_bind (L2.at ?_)
 repeat (any_goals (first | assumption | wp_step))
 refine yr X I G (hf _) ?_
 show wpAny _ _ (handedOut v) _ _ _
 rw[hh];exact wpAny_pure hq
theorem yt{v:Value}{name:Str}{expr:Bool}{Q:Value->Shared->Prop}(X:K.In h)(I:InstAt h x ox C od)(G:pP K C)(hf:PySem.W.findObj K C od name=some (.value v))(hh:PySem.W.handedIn v=true)(hq:Q v ⟨h,g,d,t + 1,os⟩) :
  wpAny (model prog w) A (getAttr (.ref x) name expr) Q E ⟨h,g,d,t,os⟩:=by
 unfold getAttr;refine wpAny_bind (wpAny_mkText (AF X I G (fun A' Q' E' q => ?_) (PySem.W.handedOut_of hh) hq))
 have L0:=I.type (M:=model prog w);have L1:=PySem.W.looks_find (M:=model prog w) X I hf;unfold Builtin.«object.__getattribute__»;refine wpAny_bind (wpAny_pure (wpAny_bind (wpAny_pure (wpAny_bind (L0.at (wpAny_bind (L1.at ?_)))))));exact wpAny_pure q
theorem tm{od:Obj}{Q:Option Value->Shared->Prop}(X:K.In h)(I:InstAt h x ox C (some od))(G:pP K C)(hdct:PySem.W.hasDictIn K C=true)(ha:findIn K (.ref C) "__class__"=some (some (.builtin "object.__class__")))
  (hn:PySem.W.specialIn K (.builtin "object.__class__") "__get__"=some (some (.builtin "getset_descriptor.__get__"))) (htk:PySem.W.takesIn K (.builtin "object.__class__")=some true) (hm:mroIn K C (.type "object")=some true)
  (hq:Q (some (.ref C)) ⟨h,g,d,t + 1,os⟩):wpAny (model prog w) A (getAttr? (.ref x) "__class__") Q E ⟨h,g,d,t,os⟩:=by
 have hf:PySem.W.findObj K C (some od) "__class__"=some (.bind (.builtin "getset_descriptor.__get__") (.builtin "object.__class__")):=PySem.W.findObj_data (by obtain⟨cd,hc,_⟩:=PySem.W.any_some hdct;rw[hc];rfl) ha hn htk
 unfold getAttr? getAttrBy?;refine wpAny_bind (wpAny_mkText (wpAny_bind (wpAny_attempt (AF (t':=t + 1) X I G (fun A' Q' E' q => ?_) rfl (wpAny_pure hq)))))
 have L0:=I.type (M:=model prog w);have L1:=PySem.W.looks_find (M:=model prog w) X I hf;unfold Builtin.«object.__getattribute__»;refine wpAny_bind (wpAny_pure (wpAny_bind (wpAny_pure (wpAny_bind (L0.at (wpAny_bind (L1.at ?_)))))))
 show wpAny _ _ (holding [.builtin "object.__class__"] (call (.builtin "getset_descriptor.__get__") [.builtin "object.__class__",.ref x,.ref C]) >>= ret) _ _ _
 exact wpAny_bind (wpAny_holding (wpAny_call (PySem.W.class_get (s:=⟨h,g,d,t + 1,os⟩) (ox:=ox) (od:=some od) X I hm (wpAny_pure q))))
theorem n_{ox od:Obj}(G:pP K C)(hdct:PySem.W.hasDictIn K C=true)(ha:findIn K (.ref C) "__class__"=some (some (.builtin "object.__class__")))
  (hn:PySem.W.specialIn K (.builtin "object.__class__") "__get__"=some (some (.builtin "getset_descriptor.__get__"))) (htk:PySem.W.takesIn K (.builtin "object.__class__")=some true) (hm:mroIn K C (.type "object")=some true) :
  PySem.W.KitX K (.ref x) (.ref C) (fun h=>InstAt h x ox C (some od)) where
 ty:=fun _ _ _ I=>I.type
 it:=fun _ _ X _=>by
  obtain⟨cdD,hcD,_⟩:=PySem.W.any_some hdct;unfold PySem.W.clsIn at hcD;split at hcD
  ·rename_i c' d' cd' sl' ho
   intro A' Q' E' s' k q;unfold isType loadHead;exact wpAny_bind (wpAny_loadPart (k _ _ (X _ _ ho)) (wpAny_pure q))
  ·cases hcD
 ne:=fun h tp dd its n sl X htp=>by
  obtain⟨cdD,hcD,_⟩:=PySem.W.any_some hdct;refine Bool.eq_false_iff.mpr fun q => ?_
  have e:C=tp:=Value.ref.inj (beq_iff_eq.mp q);subst e;unfold PySem.W.clsIn at hcD;split at hcD
  ·rename_i c' d' cd' sl' ho
   have z:=(X _ _ ho).symm.trans htp;cases z
  ·cases hcD
 ca:=fun {_ _ _ _ _ s} X I k=>by
  obtain⟨h,g,d,t,os⟩:=s;exact tm X I G hdct ha hn htk hm k
end
end L2
namespace L2
open PySem PySem.Spec PyProof.Rows
open PySem.W (clsIn findIn takerIn InstAt)
structure mr(K:PySem.W.Frag)(C N fI:Addr):Prop where
 ex:∃ (nm q:Str) (bs bm:List Value) (sn:List Str) (sub:List Value) (ab:Bool) (col:Option Bool) (dd:Option Addr) (k0 k1 k2 k3 k5:Option Value),
  K.lookup C=some (excClassObj nm q C N bs bm true sn sub ab col dd k0 k1 k2 k3 k5 "ValueError.__new__")/\(∀ h:Heap,K.In h->OwnTail h gR bm)
 cd:∃ cd,clsIn K C=some cd/\eQ cd.mro=true/\cd.hasDict=true
 sa:findIn K (.ref C) "__setattr__"=some (some (.builtin "object.__setattr__"))
 xg:pP K C
 hd:PySem.W.hasDictIn K C=true
 ns:∀ h:Heap,K.In h->∃ mN,h.Ns N mN/\mN "__init__"=some (.ref fI)
 kp:PySem.W.keepIn K (.ref C)=true
 fn:PySem.W.typeIn K (.ref fI)=some (.type "function")
noncomputable def bZ(C:Addr)(od:Option Addr)(t:Addr):Obj:=⟨.ref C,od,.fields #[.ref t,.none,.none,.none,.bool false,.none],#[]⟩
section
variable{X:Cx}{pins:List (Addr×Obj)}{σ:St}{H:Hp}{s:Shared}{e C N fI t:Addr}{fld:Str}
theorem Inv.u6(I:Inv X [] σ H s){o:Obj}(h:s.heap.get? e=some o)(hn:H e=none)(hl:e≠X.env.locals)(hf:e∉X.fs)(hd:∀ v,o.data≠.cell v):Inv X [(e,o)] σ H s:=
 ⟨I.ok,I.os,I.bare,I.base,I.loc,I.cell,I.free,I.cX,fun p hp=>by
  rcases List.mem_append.mp hp with q | q
  ·exact I.pin p (by simp[q])
  ·rw[List.mem_singleton.mp q];exact⟨h,hn,hl,hf,hd⟩,I.hok,I.len⟩
theorem Inv.u7(I:Inv X pins σ H s):Inv X [] σ H s:=
 ⟨I.ok,I.os,I.bare,I.base,I.loc,I.cell,I.free,I.cX,fun p hp=>I.pin p (by rw[List.append_nil]at hp;simp[hp]),I.hok,I.len⟩
theorem yu{Q:Unit->Shared->Prop}{E:Value->Shared->Prop}{A:Around}{v:V}{u:Value}(I:Inv X [(e,bZ C none t)] σ H s)(T:mr X.K C N fI)(na:fk X.K C fld)(he:e∈X.ex\/X.s₀.heap.objs.size<=e)(hcl:∀ x c,X.env.cells.lookup x=some c->c≠e)(hpn:∀ p∈X.pn,p.1≠e)(r:RelV v u)
  (h:∀ dd s',H dd=none->dd≠e->Inv X [(e,bZ C (some dd) t)] σ (upd H dd (.xd [(fld,v)])) s'->Q () s'):wpAny (model X.prog X.w) A (setAttr (.ref e) fld u) Q E s:=by
 obtain⟨cd,c1,c2,c3⟩:=T.cd;obtain⟨p1,p2,p3,p4,p5⟩:=I.pin (e,bZ C none t) (by simp)
 dsimp only at p1 p2 p3 p4 p5;have hfr:H s.heap.objs.size=none:=I.hok.fresh (Nat.le_refl _);have hlt:=Heap.lt_size p1;have hne:s.heap.objs.size≠e:=Nat.ne_of_gt hlt;refine yq I.fG p1 c1 c2 c3 T.sa na.taker fun h' t' g1 g2 g3=>h s.heap.objs.size _ hfr hne ?_
 have I0:=I.u7;have keep:∀ b o,b∉[e]->s.heap.get? b=some o->h'.get? b=some o:=fun b o hb q=>g3 b o (by simpa using hb) q
 have J:Inv X [] σ (upd H s.heap.objs.size (.xd [(fld,v)])) { s with heap:=h',toks:=t' }:=by
  refine I0.step (ch:=[e]) (fun b hb => ?_) (fun b o _ _ hb q _=>keep b o hb q) (fun b o _ _ hb q _=>⟨o.slots,keep b o hb q⟩) (fun b o hb q hn => ?_) (fun b o hb q=>⟨o,keep b o hb q⟩) (fun b xs q => ?_) (fun b o u' q => ?_) (fun b ps q => ?_) (fun m hn => ?_) ?_ I.bare
  ·rw[List.mem_singleton.mp hb]
   exact⟨he,p3,hcl,fun p hp=>hpn p (by simpa using hp)⟩
  ·rw[aG (Nat.ne_of_lt (Heap.lt_size q))];exact hn
  ·rw[aG (fun z=>by rw[z,hfr]at q;cases q)];exact q
  ·rw[aG (fun z=>by rw[z,hfr]at q;cases q)];exact q
  ·exact⟨#[],by rw[aG (fun z=>by rw[z,hfr]at q;cases q),q];simp⟩
  ·obtain⟨o,es,ep,e1,e2⟩:=hn
   exact⟨o,es,ep,keep _ o (by simp[Ne.symm p3]) e1,e2⟩
  ·intro a o q
   by_cases ha:a=s.heap.objs.size
   ·subst ha
    rw[bo]at q;cases q;refine⟨_,g2,fun f => ?_⟩
    show lX ([(fld,v)].lookup f) (if f=fld then some u else none)
    by_cases hf:f=fld
    ·rw[hf,if_pos rfl];simp[List.lookup];exact r
    ·rw[if_neg hf]
     have:(f == fld)=false:=by simpa using hf
     simp[List.lookup,this];exact trivial
   ·rw[aG ha]at q
    refine(I.hok a o q).stay (fun b u' hb q'=>keep b u' (fun z => ?_) q') (fun b q' => ?_) fun b xs q' => ?_
    ·rw[List.mem_singleton.mp z]at hb
     rcases hb with hb | hb
     ·rw[← hb,p2]at q;cases q
     ·rw[p2]at hb;cases hb
    ·rw[aG (fun z=>by rw[z,hfr]at q';cases q')];exact q'
    ·rw[aG (fun z=>by rw[z,hfr]at q';cases q')];exact q'
 exact J.u6 g1 (by rw[aG (Ne.symm hne)];exact p2) p3 p4 (fun v=>by simp[bZ])
theorem rb{Q:Value->Shared->Prop}{E:Value->Shared->Prop}{A:Around}{v:V}{b:Bool}{dd:Addr}{o:Obj}{fs:List (Str×V)}(I:Inv X pins σ H s)(T:mr X.K C N fI)(na:fk X.K C fld)(he:s.heap.get? e=some o)(ho:o.cls=.ref C)(hod:o.dict=some dd)(hoc:PySem.W.notCls o=true)
  (hd:H dd=some (.xd fs)) (hl:fs.lookup fld=some v) (h:∀ u,RelV v u->Inv X pins σ H { s with toks:=s.toks + 1 }->Q u { s with toks:=s.toks + 1 }):wpAny (model X.prog X.w) A (getAttr (.ref e) fld b) Q E s:=by
 obtain⟨mA,n,r⟩:=I.hok dd _ hd;obtain⟨u,hu,ru⟩:=lX.some_of (v:=v) (o:=mA fld) (by rw[← hl];exact r fld)
 obtain⟨od,g,l⟩:=gp n;have J:InstAt s.heap e o C (some od):=⟨he,ho,hoc,by rw[hod];exact g⟩
 have J2:=h u ru (I.tok _);have K2:=I.fG;obtain⟨hh,gg,dr,tk,os⟩:=s;exact yt K2 J T.xg (PySem.W.findObj_own T.hd na (by rfl) (by rw[l,hu])) (sZ ru) J2
end
end L2
namespace L2
open PySem PySem.Spec PyProof.Rows
open PySem.W (clsIn findIn takerIn InstAt)
section
variable{X:Cx}{pins:List (Addr×Obj)}{σ:St}{H:Hp}{s:Shared}{e C N fI t dd:Addr}{fld:Str}{o o':Obj}{h':Heap}
structure u9(X:Cx)(e:Addr):Prop where
 new:e∈X.ex\/X.s₀.heap.objs.size<=e
 cell:∀ x c,X.env.cells.lookup x=some c->c≠e
 pn:∀ p∈X.pn,p.1≠e
theorem Inv.P4{t':Nat}(I:Inv X [(e,o)] σ H s)(F:u9 X e)(h1:h'.get? e=some o')(hk:∀ b ob,b≠e->s.heap.get? b=some ob->h'.get? b=some ob)(hd:∀ v,o'.data≠.cell v):Inv X [(e,o')] σ H { s with heap:=h',toks:=t' }:=by
 obtain⟨p1,p2,p3,p4,p5⟩:=I.pin (e,o) (by simp)
 dsimp only at p1 p2 p3 p4 p5;have I0:=I.u7;have keep:∀ b o,b∉[e]->s.heap.get? b=some o->h'.get? b=some o:=fun b o hb q=>hk b o (by simpa using hb) q
 have J:Inv X [] σ H { s with heap:=h',toks:=t' }:=by
  refine I0.step (ch:=[e]) (fun b hb => ?_) (fun b o _ _ hb q _=>keep b o hb q) (fun b o _ _ hb q _=>⟨o.slots,keep b o hb q⟩) (fun b o hb q hn=>hn) (fun b o hb q=>⟨o,keep b o hb q⟩) (fun b xs q=>q) (fun b o u' q=>q) (fun b ps q=>⟨#[],by rw[q];simp⟩) (fun m hn => ?_) ?_ I.bare
  ·rw[List.mem_singleton.mp hb]
   exact⟨F.new,p3,F.cell,fun p hp=>F.pn p (by simpa using hp)⟩
  ·obtain⟨o,es,ep,e1,e2⟩:=hn
   exact⟨o,es,ep,keep _ o (by simp[Ne.symm p3]) e1,e2⟩
  ·intro a u q
   refine(I.hok a u q).stay (fun b u' hb q'=>keep b u' (fun z => ?_) q') (fun b q'=>q') fun b xs q'=>q'
   rw[List.mem_singleton.mp z]at hb;rcases hb with hb | hb
   ·rw[← hb,p2]at q;cases q
   ·rw[p2]at hb;cases hb
 exact J.u6 h1 p2 p3 p4 hd
structure XBase(K:PySem.W.Frag)(mg:Str->Option Value)(bn:Str)(B0:Addr):Prop where
 mg:mg bn=some (.ref B0)
 ga:PySem.W.specialIn K (.ref B0) "__getattribute__"=some (some (.builtin "type.__getattribute__"))
 rd:PySem.W.readsIn K B0 (.type "type")=true
 ini:PySem.W.findCls K (.ref B0) (.type "type") "__init__"=some (.val (.builtin "ValueError.__init__"))
theorem u_{bn:Str}{B0:Addr}{v:V}{fs:List (Str×V)}{i:Nat}{sf:Str}{p1 p2 p3 p4 apos pos:Pos}{pl:Sem Bool}{Q:Value->Shared->Prop}(I:Inv X [(e,bZ C (some dd) t)] σ H s)(F:u9 X e)(T:mr X.K C N fI)(B:XBase X.K X.mg bn B0)(na:fk X.K C fld)
  (hd:H dd=some (.xd fs)) (hl:fs.lookup fld=some v) (hN:X.N[i]?=some sf) (hv:uu X.env.scope sf) (hσ:σ[i]?=some (some (.ref e))) (hg:Gl X bn)
  (ht:eval (.Call (.Attribute (.Name bn p1) "__init__" apos) [.Name sf p2,.Attribute (.Name sf p3) fld p4] [] pos) X.env=(do
   let ov ← eval (.Name bn p1) X.env
   standAt apos.atName
   let (f,first) ← holding [ov] (getMethod ov "__init__" pl)
   callWith pos f first (backTo pos (starEach [.Name sf p2,.Attribute (.Name sf p3) fld p4] X.env)) (backToKw pos (keywordEach [] X.env))))
  (h:∀ t' s',Inv X [(e,bZ C (some dd) t')] σ H s'->Q .none s') (hdb:(bn == ("__debug__":Str))=false:=by decide) (hd1:(sf == ("__debug__":Str))=false:=by decide) (hd2:(sf == ("__classdict__":Str))=false:=by decide) :
  wpAny (model X.prog X.w) X.A (eval (.Call (.Attribute (.Name bn p1) "__init__" apos) [.Name sf p2,.Attribute (.Name sf p3) fld p4] [] pos) X.env) Q X.xe s:=by
 refine PySem.W.methodCall_KW (pl:=pl) (fi I hg B.mg ?_ hdb) ht;refine PySem.W.method_cls I.fG B.ga (PySem.W.cls_value I.fG B.rd B.ini (by decide +kernel) ?_)
 have I1:=I.tok (s.toks + 1);refine PyProof.Rows.callWith_builtin1 ?_ rfl rfl;refine Calls.spliced_cons (bU (gP (pos:=p2) hN hv hd1 hd2 _ _ σ H (fun w H'=>w=.ref e/\H'=H) I1 ⟨.ref e,hσ,rfl,rfl⟩) fun u s1 ⟨w,H1,J1,r1,hw,hH⟩ => ?_)
 subst hw hH;cases (show u=Value.ref e from r1)
 refine Calls.spliced_cons (qR rfl (bU (gP (pos:=p3) hN hv hd1 hd2 _ _ σ H1 (fun w H'=>w=.ref e/\H'=H1) J1 ⟨.ref e,hσ,rfl,rfl⟩) fun u s2 ⟨w,H2,J2,r2,hw,hH⟩ => ?_))
 subst hw hH;cases (show u=Value.ref e from r2)
 obtain⟨q1,_,_,_,_⟩:=J2.pin (e,bZ C (some dd) t) (by simp)
 refine rb J2 T na q1 rfl rfl rfl hd hl fun u ru J3 => ?_
 refine Calls.spliced_nil ?_;obtain⟨nm,q,bs,bm,sn,sub,ab,col,Kp,k0,k1,k2,k3,k5,hC,ot⟩:=T.ex;obtain⟨z1,_,_,_,_⟩:=J3.pin (e,bZ C (some dd) t) (by simp)
 refine wpAny_call (kU PySem.F.excBase_ValueError (ot _ J3.fG) (J3.fG _ _ hC) z1 (by show 1<=sizeLine;decide) fun h' g1 g2 g3 => ?_)
 exact h _ _ (J3.P4 F g1 g3 (fun v=>by simp[bZ]))
end
end L2
namespace L2
open PySem PySem.Spec PyProof.Rows
section
variable{X:Cx}{pins:List (Addr×Obj)}{σ:St}{H:Hp}{s:Shared}{e:Addr}
noncomputable def Cx.mk1(X:Cx)(e:Addr):Cx:={ X with ex:=[e] }
theorem Inv.mk1(I:Inv X pins σ H s)(hx:X.ex=[])(h1:e≠X.env.locals)(h2:∀ x c,X.env.cells.lookup x=some c->c≠e)(h3:∀ o,X.base.get? e≠some o)(h4:e∉X.fs):Inv (X.mk1 e) pins σ H s:=
 ⟨⟨I.ok.mod,I.ok.kind,I.ok.glob,I.ok.blt,I.ok.above,I.ok.inj,I.ok.has,I.ok.cab,I.ok.hd,I.ok.frames,I.ok.Av,fun b hb=>by rw[List.mem_singleton.mp hb];exact⟨h1,h2⟩,I.ok.bs,I.ok.sS,fun b o q hb=>by rw[List.mem_singleton.mp hb]at q;exact h3 o q,fun b hb=>by rw[List.mem_singleton.mp hb];exact h4,I.ok.fN,I.ok.uA⟩,
  I.os,I.bare,I.base.mono (fun _ h=>h) (by rw[hx];simp),I.loc,I.cell,I.free,I.cX,I.pin,I.hok,I.len⟩
end
section
variable{P:Program}{w:World}{K:PySem.W.Frag}{mg:Str->Option Value}{base:Heap}
theorem yv{x qual sf pn bn fld:Str}{st:Stmt}{f c C N0 B0:Addr}{fd:FuncData}{k:Nat}{ve:Expr}{a1 a2 p1 p2 p3 p4 apos pos a3 p5:Pos}{pl:Env->Sem Bool}{fP:VK}
  (F:tj K x qual st f fd) (hcv:fd.code=.ref c) (S:fm [sf,pn] [sf,pn] (af st)) (T:mr K C N0 f) (B:XBase K mg bn B0) (na:fk K C fld)
  (hbd:aT st=[.Assign [.Attribute (.Name sf a1) fld a2] ve a3,.Expr (.Call (.Attribute (.Name bn p1) "__init__" apos) [.Name sf p2,.Attribute (.Name sf p3) fld p4] [] pos) p5])
  (hg:(af st).names.lookup bn=some .globalImplicit) (P5:(af st).names.lookup sf=some .local)
  (hsw:∀ env,swapsWith ve (some (.Attribute (.Name sf a1) fld a2)) a3.line env=pure false) (hl:(apos.endLine == pos.line)=true)
  (ht:∀ env:Env,eval (.Call (.Attribute (.Name bn p1) "__init__" apos) [.Name sf p2,.Attribute (.Name sf p3) fld p4] [] pos) env=(do
   let ov ← eval (.Name bn p1) env
   standAt apos.atName
   let (f,first) ← holding [ov] (getMethod ov "__init__" (pl env))
   callWith pos f first (backTo pos (starEach [.Name sf p2,.Attribute (.Name sf p3) fld p4] env)) (backToKw pos (keywordEach [] env))))
  {A:Around} {outer:List Env} {s:Shared} {H:Hp} {u:Value} {v0:V} {e t0:Addr} {R:Result->Shared->Prop}
  (yw:∀ E,∃ tv,PE ((bW dW P w K mg base [sf,pn] qual (af st) f (.ref c) A outer s H E).iT.mk1 e) ve tv/\tv (start [sf,pn] [.ref e,v0]) H fP)
  (hr:bJ (k + 1) A) (e0:nV P w K mg base A outer s H) (hb:BindsTo s fd ⟨[.ref e,u],[]⟩ [(sf,.ref e),(pn,u)]) (rv:RelV v0 u)
  (he:s.heap.get? e=some (bZ C none t0)) (P6:base.objs.size<=e) (P7:H e=none) (hef:e∉frs outer)
  (h:∀ v H2 dd t' s',fP v H2->s'.os=s.os->AllBare s'.gens->Un (frs outer) [e] H (upd H2 dd (.xd [(fld,v)])) s.heap s'.heap->iS P w (upd H2 dd (.xd [(fld,v)])) s'.heap->H2 dd=none->dd≠e ->
   s'.heap.get? e=some (bZ C (some dd) t')->upd H2 dd (.xd [(fld,v)]) e=none->R (.ok (.ret (.ref e))) s')
  (hd0:(bn == ("__debug__":Str))=false:=by decide) (hd1:(sf == ("__debug__":Str))=false:=by decide) (hd2:(sf == ("__classdict__":Str))=false:=by decide) :
  codeAny (model P w) A (.call (.ref f) ⟨[.ref e,u],[]⟩) (PySem.W.InitBack e R) s:=by
 obtain⟨oc,od,kV,doc,pm,an,cdv,ct,osl,rfl,lk,hcd⟩:=F.ex;obtain rfl:cdv=.ref c:=hcv;have KX:K.In s.heap:=e0.mod.DN.keeps fun b o e=>(e0.bs b o e).1
 have lim:s.heap.NoLimit:=e0.mod.nolimit.keeps fun b o e=>(e0.bs b o e).1
 have hkind:∀ y∈[sf,pn].zip [.ref e,u],(af st).names.lookup y.1=some .local\/((af st).names.lookup y.1=some .cell/\((cellsFrom (s.heap.objs.size + 1) (af st).names []).lookup y.1).isSome=true):=fun ⟨n,v⟩ hy=>by
  rcases S.par n (List.of_mem_zip hy).1 with q | q
  ·exact .inl q
  ·exact .inr ⟨q,PySem.W.cellsFrom_some _ _ _ (.inl q)⟩
 refine codeAny_call_function hr.depth (KX _ _ lk) rfl S.co S.gen rfl (PySem.W.codeRec_of KX hcd) (hb _ _ _ _ ?_);refine wpAny_newFunctionEnv_cells S.kind hkind fun env hen s1 x => ?_
 subst hen;refine⟨lim.keeps x.toInCall.keep,codeAny_func ?_⟩;have E:XK:=fun _ _ _=>False
 have I:Inv (bW dW P w K mg base [sf,pn] qual (af st) f (.ref c) A outer s H E) [] (start [sf,pn] [.ref e,v0]) H s1:=iF (us:=[.ref e,u]) S hr.hd e0 rfl (.cons rfl (.cons rv .nil)) x;have hlt:=Heap.lt_size he;have hloc:e≠s.heap.objs.size:=Nat.ne_of_lt hlt
 have hcl:∀ (y:Str) (cc:Addr),(envOfC qual (af st) s.heap.objs.size f (.ref c)).cells.lookup y=some cc->cc≠e:=fun y cc hy z=>by
  have:=I.ok.cab y cc rfl hy;rw[z]at this;exact absurd (Nat.lt_of_lt_of_le hlt this) (Nat.lt_irrefl _)
 have I1:=(I.wish (fun _ _=>False)).mk1 (e:=e) rfl hloc hcl (fun o q=>absurd (Nat.lt_of_lt_of_le (Heap.lt_size q) P6) (Nat.lt_irrefl _)) hef
 have I2:=I1.u6 (x.toInCall.keep _ _ he) P7 hloc hef (fun v=>by simp[bZ])
 obtain⟨tv,hpe,htv⟩:=yw E
 have run:wpAny (model P w) (A.deeper (envOfC qual (af st) s.heap.objs.size f (.ref c))) (execs (aT st) (envOfC qual (af st) s.heap.objs.size f (.ref c)))
   (fun fl s'=>fl=.next/\∃ v H2 dd t',fP v H2/\H2 dd=none/\dd≠e/\Inv ((bW dW P w K mg base [sf,pn] qual (af st) f (.ref c) A outer s H E).iT.mk1 e) [(e,bZ C (some dd) t')] (start [sf,pn] [.ref e,v0]) (upd H2 dd (.xd [(fld,v)])) s') (fun _ _=>False) s1:=by
  generalize hX:(bW dW P w K mg base [sf,pn] qual (af st) f (.ref c) A outer s H E).iT.mk1 e=X at *;have xe:X.env=envOfC qual (af st) s.heap.objs.size f (.ref c):=by rw[← hX];rfl
  have xN:X.N=[sf,pn]:=by rw[← hX];rfl
  have xA:X.A=A.deeper (envOfC qual (af st) s.heap.objs.size f (.ref c)):=by rw[← hX];rfl
  have xK:X.K=K:=by rw[← hX];rfl
  have xm:X.mg=mg:=by rw[← hX];rfl
  have xp:X.prog=P:=by rw[← hX];rfl
  have xw:X.w=w:=by rw[← hX];rfl
  have xx:X.xe=fun _ _=>False:=by rw[← hX];rfl
  have fr:u9 X e:=⟨.inl (by rw[← hX];simp[Cx.mk1]),by rw[xe];exact hcl,by rw[← hX];intro p hp;cases hp⟩
  rw[← xA,← xe,← xp,← xw,← xx,hbd];rw[← xK]at T B na;rw[← xm]at B;have hN:X.N[0]?=some sf:=by rw[xN];rfl
  have hv:uu X.env.scope sf:=.inl (by rw[xe];exact P5)
  have P8:Gl X bn:=by show X.env.scope.names.lookup bn=_;rw[xe];exact hg
  refine wpAny_execs_cons (plainObj_wpAny_Assign_Attribute (bU (hpe _ s1 _ H fP I2 htv) fun u1 s2 ⟨v,H2,J2,r2,q2⟩ => ?_) (hsw _))
  refine bU (gP (pos:=a1) hN hv hd1 hd2 _ _ _ H2 (fun z H'=>z=.ref e/\H'=H2) J2 ⟨.ref e,rfl,rfl,rfl⟩) fun u2 s3 ⟨z,H3,J3,r3,hz,hH⟩ => ?_
  subst hz hH;cases (show u2=Value.ref e from r3)
  refine yu J3 T na fr.new fr.cell fr.pn r2 fun dd s4 hdd hne J4 => ?_
  refine wpAny_execs_cons (wpAny_Expr_any (u_ (v:=v) (fs:=[(fld,v)]) J4 fr T B na bo (by simp[List.lookup]) hN hv rfl P8 (ht X.env) (fun t' s5 J5 => ?_) hd0 hd1 hd2) J4.quiet (by rfl))
  exact wpAny_execs_nil ⟨rfl,v,_,dd,t',q2,hdd,hne,J5⟩
 refine wpAny_mono run (fun fl s' hs => ?_) fun _ _ z=>z.elim
 obtain⟨rfl,v,H2,dd,t',q2,hdd,hne,J⟩:=hs;obtain⟨g1,g2,_,_,_⟩:=J.pin (e,bZ C (some dd) t') (by simp)
 exact⟨rfl,h v H2 dd t' s' q2 J.os J.bare J.base J.hok hdd hne g1 g2⟩
end
section
variable{M:Model}{A:Around}{E:Value->Shared->Prop}{s:Shared}
structure rf(l:List Env)(e:Addr)(oe:Obj)(T:Addr)(h h':Heap):Prop where
 keep:∀ b o,b≠e->b∉frs l->h.get? b=some o->h'.get? b=some o
 slot:∀ b o,b≠e->h.get? b=some o->∃ sl,h'.get? b=some { o with slots:=sl }
 at_:h'.get? e=some (oe.mapFields (·.setIfInBounds 1 (.ref T)))
 tb:∃ oT ts,h'.get? T=some oT/\oT.data=.fields ts/\ts[3]?=some .none
 new:h.objs.size<=T
def pQ(h:Heap)(vs:Array Value):Prop:=vs[1]?=some .none\/∃ T0 Ig ts0,vs[1]?=some (.ref T0)/\h.get? T0=some Ig/\Ig.data=.fields ts0/\ts0[3]?=some .none
theorem rh{base:Heap}{env:Env}{outer:List Env}{L e:Addr}{oe:Obj}{vs:Array Value}{head:Value}{hadNext:Bool}{Q:Unit->Shared->Prop}
  (hfr:A.frames=some (env::outer)) (hl:s.heap.FunFrames base (env::outer)) (hf:env.frame=some L) (he:s.heap.get? e=some oe) (hd:oe.data=.fields vs) (hsz:1 < vs.size)
  (h:∀ h' T,rf (env::outer) e oe T s.heap h'->Q () { s with heap:=h' }) :
  wpAny M A (do let a ← frameOf env;let pl ← entryPlaceOf L hadNext;let b ← EntryCells.newEntry head a .none (rawInt L) .none pl;setField (.ref e) 1 b) (fun _ s'=>wpAny M A (setFlight (.ref e) none) Q E s') E s:=by
 have hene:e∉frs (env::outer):=fun hm=>by
  obtain⟨_,o,ho,hnf⟩:=hl.mem hm;rw[he]at ho;injection ho with ho;subst ho;exact hnf vs hd
 refine wpAny_bind (wpAny_frameOf_fun hfr hl hf fun h₁ hs₁ => ?_)
 refine wpAny_bind (wpAny_entryPlaceOf fun pl hpl => ?_)
 unfold EntryCells.newEntry newFields;refine wpAny_bind (wpAny_newObj_type ?_ (hpl.sizeOk5 _ _ _ _ _));have he₁:h₁.get? e=some oe:=(hs₁.2.1 e hene).trans he;generalize hob:({ cls:=.type "traceback",dict:=none,data:=.fields ([head,.ref L,.none,rawInt L,.none]++(if pl.isEmpty then List.replicate 6 Value.none else pl)).toArray }:Obj)=ob at *
 have BK:ob.data=.fields ([head,.ref L,.none,rawInt L,.none]++(if pl.isEmpty then List.replicate 6 Value.none else pl)).toArray:=by rw[← hob]
 have Kq:ob.isFreed=false:=by rw[← hob];rfl
 have he₂:=Heap.get?_push_of_some (h:=h₁) ob he₁;have hTe:h₁.objs.size≠e:=Nat.ne_of_gt (Heap.lt_size he₁);refine wpAny_setField he₂ hd hsz ?_;have hd₃:=Obj.data_mapFields hd (·.setIfInBounds 1 (Value.ref h₁.objs.size));have he₃:=Heap.get?_update_self (Obj.mapFields (·.setIfInBounds 1 (Value.ref h₁.objs.size))) he₂ (Obj.isFreed_of_fields hd₃);have hT₃:((h₁.push ob).update e (Obj.mapFields (·.setIfInBounds 1 (Value.ref h₁.objs.size)))).get? h₁.objs.size=some ob:=(Heap.get?_update_other _ _ (Ne.symm hTe)).trans (Heap.get?_push_size h₁ Kq);unfold setFlight;refine wpAny_bind (wpAny_field he₃ hd₃ (x:=.ref h₁.objs.size) (by simp[hsz]) ?_)
 rw[if_pos (show(Value.ref h₁.objs.size != Value.none)=true from by simp)]
 refine wpAny_setField hT₃ BK (by simp) (h _ h₁.objs.size ?_)
 have keep:∀ b o,b≠e->h₁.get? b=some o->(((h₁.push ob).update e (Obj.mapFields (·.setIfInBounds 1 (Value.ref h₁.objs.size)))).update h₁.objs.size (Obj.mapFields (·.setIfInBounds 3 ((none:Option Addr).elim Value.none fun f=>rawInt f)))).get? b=some o:=fun b o hbe hb=>by
  have hbT:h₁.objs.size≠b:=Nat.ne_of_gt (Heap.lt_size hb);rw[Heap.get?_update_other _ _ hbT,Heap.get?_update_other _ _ (Ne.symm hbe)];exact Heap.get?_push_of_some _ hb
 refine⟨fun b o hb hn q=>keep b o hb ((hs₁.2.1 b hn).trans q),fun b o hb q => ?_,?_,?_,by rw[hs₁.1];exact Nat.le_refl _⟩
 ·obtain⟨sl,q1⟩:=hs₁.2.2 b o q
  exact⟨sl,keep b _ hb q1⟩
 ·rw[Heap.get?_update_other _ _ hTe];exact he₃
 ·exact⟨_,_,Heap.get?_update_self _ hT₃ (Obj.isFreed_of_fields (Obj.data_mapFields BK _)),Obj.data_mapFields BK _,by simp⟩
theorem va{base:Heap}{env:Env}{outer:List Env}{L e:Addr}{oe:Obj}{vs:Array Value}{Q:Unit->Shared->Prop}
  (hfr:A.frames=some (env::outer)) (hl:s.heap.FunFrames base (env::outer)) (hf:env.frame=some L) (he:s.heap.get? e=some oe) (hd:oe.data=.fields vs) (h1:pQ s.heap vs)
  (h:∀ h' T,rf (env::outer) e oe T s.heap h'->Q () { s with heap:=h' }) :
  wpAny M A (noteFrame (.ref e) env) (fun _ s'=>wpAny M A (setFlight (.ref e) none) Q E s') E s:=by
 unfold noteFrame;simp only[hf];rcases h1 with h1 | ⟨T0,Ig,ts0,h1,g1,g2,g3⟩
 ·refine wpAny_bind (wpAny_field he hd h1 ?_)
  rw[if_neg (by decide)]
  exact rh hfr hl hf he hd (Array.getElem?_eq_some_iff.mp h1).1 h
 ·refine wpAny_bind (wpAny_field he hd h1 ?_)
  rw[if_pos (show(Value.ref T0 != Value.none)=true from by simp)]
  refine wpAny_bind (wpAny_field g1 g2 g3 ?_);rw[if_neg (show ¬ ((Value.none == rawInt L)=true) from by simp[rawInt])]
  refine wpAny_bind (wpAny_setField g1 g2 (Array.getElem?_eq_some_iff.mp g3).1 ?_);rw[Heap.update_setField_same s.heap T0 Ig ts0 3 .none g1 g2 g3];exact rh hfr hl hf he hd (Array.getElem?_eq_some_iff.mp h1).1 h
theorem tq{base:Heap}{env:Env}{outer:List Env}{L e:Addr}{oe:Obj}{vs:Array Value}{Q:Unit->Shared->Prop}
  (hfr:A.frames=some (env::outer)) (hl:s.heap.FunFrames base (env::outer)) (hf:env.frame=some L) (he:s.heap.get? e=some oe) (hd:oe.data=.fields vs) (h1:pQ s.heap vs)
  (h:∀ h' T,rf (env::outer) e oe T s.heap h'->Q () { s with heap:=h' }):wpAny M A (leaving env (.ref e)) Q E s:=by
 unfold leaving;exact wpAny_bind (va hfr hl hf he hd h1 h)
end
structure vb(K:PySem.W.Frag)(mg:Str->Option Value)(C N0 f c:Addr)(fd:FuncData)(st:Stmt)(qual fld sf pn:Str)(ve:Expr):Prop where
 fn:∃ x,tj K x qual st f fd
 cv:fd.code=.ref c
 sc:fm [sf,pn] [sf,pn] (af st)
 cls:mr K C N0 f
 bs:Binds K fd [sf,pn] []
 na:fk K C fld
 sl:(af st).names.lookup sf=some .local
 d1:(sf == ("__debug__":Str))=false
 d2:(sf == ("__classdict__":Str))=false
 body:∃ (bn:Str) (B0:Addr) (a1 a2 a3 p1 p2 p3 p4 p5 apos pos:Pos) (pl:Env->Sem Bool),XBase K mg bn B0/\(bn == ("__debug__":Str))=false/\(af st).names.lookup bn=some .globalImplicit /\
  aT st=[.Assign [.Attribute (.Name sf a1) fld a2] ve a3,.Expr (.Call (.Attribute (.Name bn p1) "__init__" apos) [.Name sf p2,.Attribute (.Name sf p3) fld p4] [] pos) p5] /\
  (∀ env,swapsWith ve (some (.Attribute (.Name sf a1) fld a2)) a3.line env=pure false)/\(apos.endLine == pos.line)=true /\
  (∀ env:Env,eval (.Call (.Attribute (.Name bn p1) "__init__" apos) [.Name sf p2,.Attribute (.Name sf p3) fld p4] [] pos) env=(do
   let ov ← eval (.Name bn p1) env
   standAt apos.atName
   let (f,first) ← holding [ov] (getMethod ov "__init__" (pl env))
   callWith pos f first (backTo pos (starEach [.Name sf p2,.Attribute (.Name sf p3) fld p4] env)) (backToKw pos (keywordEach [] env))))
section
variable{X:Cx}{pins:List (Addr×Obj)}{σ:St}{H:Hp}{s:Shared}{C N0 f c:Addr}{fd:FuncData}{st:Stmt}{qual fld sf pn:Str}{ve:Expr}{k:Nat}{v0:V}{u:Value}{fP:VK}
theorem BL(D:vb X.K X.mg C N0 f c fd st qual fld sf pn ve)(I:Inv X pins σ H s)(hr:bJ (k + 2) X.A)(rv:RelV v0 u)
  (yw:∀ (A:Around) (s':Shared) (e:Addr) (E:XK),bJ k (A.deeper (envOfC qual (af st) s'.heap.objs.size f (.ref c)))->∃ tv,PE ((bW dW X.prog X.w X.K X.mg X.base [sf,pn] qual (af st) f (.ref c) A X.stack s' H E).iT.mk1 e) ve tv/\tv (start [sf,pn] [.ref e,v0]) H fP)
  {Q:Value->Shared->Prop} (h:∀ e dd t v H2 s',fP v H2->Inv X pins σ (upd H2 dd (.xd [(fld,v)])) s'->s'.heap.get? e=some (bZ C (some dd) t)->s.heap.objs.size<=e->upd H2 dd (.xd [(fld,v)]) e=none->H2 dd=none->Q (.ref e) s') :
  wpAny (model X.prog X.w) X.A (call (.ref C) [u]) Q X.xe s:=by
 obtain⟨nm,q,bs,bm,sn,sub,ab,col,Kp,k0,k1,k2,k3,k5,hC,ot⟩:=D.cls.ex;obtain⟨mN,hn,hni⟩:=D.cls.ns _ I.fG;obtain⟨x,F⟩:=D.fn;obtain⟨bn,B0,a1,a2,a3,p1,p2,p3,p4,p5,apos,pos,pl,B,hd0,hg,hbd,hsw,hl,ht⟩:=D.body;have kx:∀ b o,s.heap.get? b=some o->(dN s.heap C [u]).get? b=some o:=fun b o e=>Heap.get?_push_of_some _ (Heap.get?_push_of_some _ e)
 have I2:Inv X pins σ H { s with heap:=dN s.heap C [u] }:=I.kept (t':=s.toks) kx
 have hget:(dN s.heap C [u]).get? (s.heap.objs.size + 1)=some (bZ C none s.heap.objs.size):=by
  show(dN s.heap C [u]).get? (s.heap.objs.size + 1)=some ({ cls:=.ref C,data:=.fields #[.ref s.heap.objs.size,.none,.none,.none,.bool false,.none] }:Obj)
  heap_get
 have hfe:H (s.heap.objs.size + 1)=none:=I.hok.fresh (Nat.le_succ _);have hne:∀ b o,s.heap.get? b=some o->b≠s.heap.objs.size + 1:=fun b o q=>Nat.ne_of_lt (Nat.lt_succ_of_lt (Heap.lt_size q))
 have hef:s.heap.objs.size + 1∉frs X.stack:=fun z=>by
  obtain⟨_,o,ho,_⟩:=I.stack.mem z;exact hne _ _ ho rfl
 refine wpAny_call ?_;have hz:[u].length<=sizeLine:=by show 1<=sizeLine;decide
 refine u3 PySem.F.excBase_ValueError (ot _ I.fG) (I.fG _ _ hC) hn hni (fun self=>PySem.W.bind_fn I.fG self D.cls.fn) hz ?_
 refine yv (k:=k) (fP:=fP) (v0:=v0) F D.cv D.sc D.cls B D.na hbd hg D.sl hsw hl ht (fun E=>yw _ _ _ E ?_) (hr.make C [u] []) (I2.env0.make C [u] []) (D.bs _ [.ref (s.heap.objs.size + 1),u] I2.fG rfl) rv hget ?_ hfe hef (fun v H2 dd t' s' q2 ho hbr un hok hdd P9 g1 g2 => ?_) hd0 D.d1 D.d2
 ·exact(hr.make C [u] []).deeper _
 ·exact Nat.le_trans (Nat.le_trans I.ok.sS I.sz) (Nat.le_succ _)
 ·refine h (s.heap.objs.size + 1) dd t' v H2 s' q2 (I.call' (ch:=[]) ho ⟨fun b o e n hb _=>un.keep b o (kx b o e) n hb (by simpa using hne b o e),fun b o e n hb _=>un.slot b o (kx b o e) n hb (by simpa using hne b o e),fun b o e n _=>un.free b o (kx b o e) n (by simpa using hne b o e),fun b o e _=>un.there b o (kx b o e) (by simpa using hne b o e),un.tups,un.gO,un.i8⟩ hok hbr (by simp)) g1 (Nat.le_succ _) g2 hdd
end
section
variable{M:Model}{A:Around}{E:Value->Shared->Prop}{s:Shared}{env:Env}
variable{nm q:Str}{C N:Addr}{bs bm:List Value}{hdct:Bool}{sn:List Str}{sub:List Value}{ab:Bool}{col:Option Bool}{dd:Option Addr}{k0 k1 k2 k3 k5:Option Value}{newId:String}
theorem jN{x:Sem Value}{Q:Flow->Shared->Prop}(hbase:bm.contains (.type "BaseException")=true)(hh:A.handled=none)
  (h:wpAny M A x (fun v s₁=>∃ e od t,v=.ref e/\s₁.heap.get? C=some (excClassObj nm q C N bs bm hdct sn sub ab col dd k0 k1 k2 k3 k5 newId)/\s₁.heap.get? e=some (bZ C od t)/\E (.ref e) s₁) E s) :
  wpAny M A (raiseStmt env (some x) none) Q E s:=by
 have hcB:(Value.ref C::bm).contains (.type "BaseException")=true:=by rw[List.contains_cons,hbase,Bool.or_true]
 unfold raiseStmt;refine wpAny_bind (wpAny_mono h (fun v s₁ h₁ => ?_) fun _ _ x=>x)
 obtain⟨e,od,t,rfl,hC,he,hE⟩:=h₁;obtain⟨hp,g,d,tk,os⟩:=s₁;have he:hp.get? e=some ⟨.ref C,od,.fields #[.ref t,.none,.none,.none,.bool false,.none],#[]⟩:=he
 repeat (first | with_reducible refine wpAny_loadPart_at he ?_ | with_reducible refine wpAny_loadPart_at hC ?_ | (with_reducible refine wpAny_isSubtype_exc hC ?_;rw[hcB]) | wp_step)
 exact wpAny_raiseNew_none hh hE
theorem tw{x:Expr}{pos:Pos}{Q:Flow->Shared->Prop}(hbase:bm.contains (.type "BaseException")=true)(hh:A.handled=none)
  (h:wpAny M A (eval x env) (fun v s₁=>∃ e od t,v=.ref e/\s₁.heap.get? C=some (excClassObj nm q C N bs bm hdct sn sub ab col dd k0 k1 k2 k3 k5 newId)/\s₁.heap.get? e=some (bZ C od t)/\E (.ref e) s₁) E s) :
  wpAny M A (exec (.Raise (some x) none pos) env) Q E s:=by
 rw[arm_exec_Raise]
 first
  | exact wpAny_bind (wpAny_standAt (jN hbase hh (wpAny_bind (wpAny_mono h (fun v s₁ h₁=>wpAny_bind (wpAny_standAt (wpAny_pure h₁))) fun _ _ x=>x))))
  | (show wpAny M A (do standAt pos;raiseStmt env (some (do let v ← eval x env;standAt pos;pure v)) none) Q E s;exact wpAny_bind (wpAny_standAt (jN hbase hh (wpAny_bind (wpAny_mono h (fun v s₁ h₁=>wpAny_bind (wpAny_standAt (wpAny_pure h₁))) fun _ _ x=>x)))))
end
structure pR(P:Program)(w:World)(outer:List Env)(H:Hp)(s:Shared)(e C d:Addr)(H':Hp)(s':Shared):Prop where
 os:s'.os=s.os
 bare:AllBare s'.gens
 un:Un (frs outer) [] H H' s.heap s'.heap
 hok:iS P w H' s'.heap
 new:s.heap.objs.size<=e
 free:H' e=none
 obj:∃ oe vs,s'.heap.get? e=some oe/\oe.cls=.ref C/\oe.dict=some d/\oe.data=.fields vs/\pQ s'.heap vs
noncomputable def iV(P:Program)(w:World):qS:=fun outer H s E x s'=>∃ e C d H',x=.ref e/\pR P w outer H s e C d H' s'/\E (.ref C) (some d) H'
section
variable{X:Cx}{pins:List (Addr×Obj)}{σ:St}{H:Hp}{s:Shared}{e C d t:Addr}
theorem vc(I:Inv X pins σ H s)(hx:X.ex=[])(hst:X.stack=X.env::X.outer)(hfm:X.env.frame=some X.env.locals)(he:s.heap.get? e=some (bZ C (some d) t))(hn:X.s₀.heap.objs.size<=e)(hH:H e=none){Q:Unit->Shared->Prop}{E:Value->Shared->Prop}
  (h:∀ s',pR X.prog X.w X.outer X.H₀ X.s₀ e C d H s'->Q () s'):wpAny (model X.prog X.w) X.A (leaving X.env (.ref e)) Q E s:=by
 have hfr:=I.ok.frames;rw[hst]at hfr;have hl:=I.stack;rw[hst]at hl;refine tq hfr hl hfm he rfl (.inl rfl) fun h' T F=>h _ ?_
 have hfree:∀ b u,H b=some u->b∉frs (X.env::X.outer):=fun b u q z=>by
  have:=I.jf b (by rw[hst];exact z)
  rw[this]at q;cases q
 have hlt:∀ b o,X.s₀.heap.get? b=some o->b≠e/\b≠X.env.locals:=fun b o q=>⟨fun z=>by rw[z]at q;exact absurd (Nat.lt_of_lt_of_le (Heap.lt_size q) hn) (Nat.lt_irrefl _),fun z=>by rw[z]at q;exact absurd (Nat.lt_of_lt_of_le (Heap.lt_size q) I.ok.above) (Nat.lt_irrefl _)⟩
 have hnf:∀ b o,X.s₀.heap.get? b=some o->b∉X.fs->b∉frs (X.env::X.outer):=fun b o q hb z=>by
  unfold frs at z;rw[List.filterMap_cons,hfm]at z;rcases List.mem_cons.mp z with z | z
  ·exact(hlt b o q).2 z
  ·exact hb z
 refine⟨I.os,I.bare,⟨fun b o q n hb _ => ?_,fun b o q n hb _ => ?_,fun b o q n _=>I.base.free b o q n (by rw[hx];simp),fun b o q _ => ?_,I.base.tups,I.base.gO,I.base.i8⟩,fun a u q => ?_,hn,hH,?_⟩
 ·exact F.keep b o (hlt b o q).1 (hnf b o q hb) (I.base.keep b o q n hb (by rw[hx];simp))
 ·obtain⟨sl,q1⟩:=I.base.slot b o q n hb (by rw[hx];simp)
  obtain⟨sl',q2⟩:=F.slot b _ (hlt b o q).1 q1;exact⟨sl',q2⟩
 ·obtain⟨o',q1⟩:=I.base.there b o q (by rw[hx];simp)
  obtain⟨sl',q2⟩:=F.slot b _ (hlt b o q).1 q1;exact⟨_,q2⟩
 ·refine(I.hok a u q).stay (fun b u' hb q'=>F.keep b u' (fun z => ?_) ?_ q') (fun b q'=>q') fun b xs q'=>q'
  ·rw[z]at hb
   rcases hb with hb | hb
   ·rw[← hb,hH]at q;cases q
   ·rw[hH]at hb;cases hb
  ·rcases hb with hb | hb
   ·rw[hb];exact hfree a u q
   ·exact hfree b _ hb
 ·obtain⟨oT,ts,g1,g2,g3⟩:=F.tb
  exact⟨_,_,F.at_,rfl,rfl,rfl,.inr ⟨T,oT,ts,by simp,g1,g2,g3⟩⟩
end
def BN(te:TE)(Arg:V->Hp->Prop)(fP:V->Hp->VK)(C:Addr)(fld:Str)(E:XK):TS:=fun _ σ H=>te σ H fun v0 H1=>Arg v0 H1/\∀ v H2 dd,fP v0 H1 v H2->H2 dd=none->E (.ref C) (some dd) (upd H2 dd (.xd [(fld,v)]))
section
variable{P:Program}{w:World}{K:PySem.W.Frag}{mg:Str->Option Value}{base:Heap}{N:List Str}{qual:Str}{scope:Scope}{f:Addr}{cd:Value}{A:Around}{outer:List Env}{s0:Shared}{H0:Hp}{E:XK}
variable{C N0 fI c:Addr}{fd:FuncData}{st:Stmt}{fQ fld sf pn cn:Str}{ve arg:Expr}{k:Nat}{te:TE}{Arg:V->Hp->Prop}{fP:V->Hp->VK}{np cpos pos:Pos}
theorem vd(D:vb K mg C N0 fI c fd st fQ fld sf pn ve)(hr:bJ (k + 2) (A.deeper (envOfC qual scope s0.heap.objs.size f cd)))(hg:Gl (bW (iV P w) P w K mg base N qual scope f cd A outer s0 H0 E) cn)(hm:mg cn=some (.ref C))
  (harg:PE (bW (iV P w) P w K mg base N qual scope f cd A outer s0 H0 E) arg te)
  (yw:∀ v0 H1,Arg v0 H1->∀ (A':Around) (ot:List Env) (s':Shared) (e:Addr) (E':XK),bJ k (A'.deeper (envOfC fQ (af st) s'.heap.objs.size fI (.ref c)))->∃ tv,PE ((bW dW P w K mg base [sf,pn] fQ (af st) fI (.ref c) A' ot s' H1 E').iT.mk1 e) ve tv/\tv (start [sf,pn] [.ref e,v0]) H1 (fP v0 H1))
  (hst:starEach [arg] (envOfC qual scope s0.heap.objs.size f cd)=[(false,eval arg (envOfC qual scope s0.heap.objs.size f cd))]) (hdb:(cn == ("__debug__":Str))=false:=by decide) :
  PS (bW (iV P w) P w K mg base N qual scope f cd A outer s0 H0 E) (.Raise (some (.Call (.Name cn np) [arg] [] cpos)) none pos) (BN te Arg fP C fld E):=by
 intro pins s σ H Dn I h;obtain⟨nm,q,bs,bm,sn,sub,ab,col,Kp,k0,k1,k2,k3,k5,hC,ot⟩:=D.cls.ex;have hbase:bm.contains (.type "BaseException")=true:=(ot _ I.fG).hasType (by decide +kernel)
 refine tw (C:=C) (nm:=nm) (q:=q) (N:=N0) (bs:=bs) (bm:=bm) (hdct:=true) (sn:=sn) (sub:=sub) (ab:=ab) (col:=col) (dd:=Kp) (k0:=k0) (k1:=k1) (k2:=k2) (k3:=k3) (k5:=k5) (newId:="ValueError.__new__") hbase (I.ok.hd rfl) ?_;refine wpAny_Call_Name_kw (fi I hg hm ?_ hdb);refine PySem.W.callWith_K (h₀:=base) I.ok.mod.DN D.cls.kp ?_ hst rfl
 have hst':backTo cpos (starEach [arg] (bW (iV P w) P w K mg base N qual scope f cd A outer s0 H0 E).env)=(false,eval arg (bW (iV P w) P w K mg base N qual scope f cd A outer s0 H0 E).env)::[]:=by
  show backTo cpos (starEach [arg] (envOfC qual scope s0.heap.objs.size f cd))=_
  rw[hst];rfl
 rw[hst'];refine Calls.spliced_cons (bU (harg pins s σ H _ I h) fun u s1 ⟨v0,H1,I1,r1,ha,hq⟩=>Calls.spliced_nil ⟨I1.fG,?_⟩)
 refine BL (k:=k) (fP:=fP v0 H1) D I1 hr r1 (fun A' s' e E' hr'=>yw v0 H1 ha A' _ s' e E' hr') fun e dd t v H2 s' q2 J g1 g2 g3 g4=>⟨e,some dd,t,rfl,J.fG _ _ hC,g1,?_⟩
 exact vc J rfl rfl rfl g1 (Nat.le_trans I1.sz g2) g3 fun s'' T=>⟨e,C,dd,_,rfl,T,hq v H2 dd q2 g4⟩
end
section
variable{X:Cx}{pins:List (Addr×Obj)}{σ:St}{H H':Hp}{s s':Shared}{e C d:Addr}{h':Heap}
noncomputable def Cx.oa(X:Cx)(e:Addr):Cx:={ X with A:=X.A.mark (some (.ref e)),calm:=false,xe:=fun _ _=>False }
theorem Inv.oa(I:Inv X pins σ H s):Inv (X.oa e) pins σ H s:=
 ⟨⟨I.ok.mod,I.ok.kind,I.ok.glob,I.ok.blt,I.ok.above,I.ok.inj,I.ok.has,I.ok.cab,(fun z=>nomatch (show false=true from z)),I.ok.frames,I.ok.Av,I.ok.Bg,I.ok.bs,I.ok.sS,I.ok.nP,I.ok.nQ,I.ok.fN,I.ok.uA⟩,
  I.os,I.bare,I.base,I.loc,I.cell,I.free,I.cX,I.pin,I.hok,I.len⟩
theorem Inv.ES(ok:X.Ok)(I:Inv (X.oa e) pins σ H s):Inv X [] σ H s:=
 ⟨ok,I.os,I.bare,I.base,I.loc,I.cell,I.free,I.cX,fun p hp=>I.pin p (by rw[List.append_nil]at hp;simp[show p∈(X.oa e).pn from hp]),I.hok,I.len⟩
theorem Inv.blank{t':Nat}{m':Str->Option Value}(ok:X.Ok)(I:Inv (X.oa e) pins σ H s)(hn:h'.Ns X.env.locals m')(hs:Heap.SameBut X.env.locals s.heap h'):Inv X [] (List.replicate X.N.length none) H { s with heap:=h',toks:=t' }:=by
 have k:∀ b o,b≠X.env.locals->s.heap.get? b=some o->h'.get? b=some o:=fun b o hb q=>(hs.2 b hb).trans q
 have DO:∀ b o,X.s₀.heap.get? b=some o->b≠X.env.locals:=fun b o q=>Nat.ne_of_lt (Nat.lt_of_lt_of_le (Heap.lt_size q) I.ok.above)
 refine⟨ok,I.os,I.bare,⟨fun b o q n hb hx=>k b o (DO b o q) (I.base.keep b o q n hb hx),fun b o q n hb hx => ?_,I.base.free,fun b o q hx => ?_,I.base.tups,I.base.gO,I.base.i8⟩,⟨m',hn,fun i x v _ z => ?_⟩,fun x c q => ?_,I.free,I.cX,fun p hp => ?_,fun a u q => ?_,by simp⟩
 ·obtain⟨sl,q1⟩:=I.base.slot b o q n hb hx
  exact⟨sl,k b _ (DO b o q) q1⟩
 ·obtain⟨o',q1⟩:=I.base.there b o q hx
  exact⟨o',k b _ (DO b o q) q1⟩
 ·rw[List.getElem?_replicate]at z
  split at z<;>cases z
 ·obtain⟨v,o,q1,q2⟩:=I.cell x c q
  exact⟨v,o,k c o (I.xM x c q) q1,q2⟩
 ·rw[List.append_nil]at hp
  obtain⟨a1,a2,a3,a4,a5⟩:=I.pin p (by simp[show p∈(X.oa e).pn from hp])
  exact⟨k _ _ a3 a1,a2,a3,a4,a5⟩
 ·refine(I.hok a u q).stay (fun b u' hb q'=>k b u' (fun z => ?_) q') (fun _ q'=>q') fun _ _ q'=>q'
  have hf:H X.env.locals=none:=I.free;rcases hb with hb | hb
  ·rw[← hb,z,hf]at q;cases q
  ·rw[z,hf]at hb;cases hb
theorem Inv.flown{oe:Obj}{T:Addr}(I:Inv X [] σ H s)(F:rf X.stack e oe T s.heap h')(Fr:u9 X e)(he:e≠X.env.locals)(hH:H e=none):Inv X [] σ H { s with heap:=h' }:=by
 have hst:∀ b,b∈frs X.stack->b=X.env.locals\/b∈X.fs:=fun b z=>List.mem_cons.mp (I.lZ b z)
 refine I.step (g':=s.gens) (d':=s.drawn) (t':=s.toks) (ch:=[e]) (fun b hb => ?_) (fun b o hL hb hc q n=>F.keep b o (by simpa using hc) (fun z=>(hst b z).elim hL hb) q) (fun b o _ _ hc q _=>F.slot b o (by simpa using hc) q) (fun _ _ _ _ n=>n) (fun b o hc q => ?_) (fun _ _ q=>q) (fun _ _ _ q=>q) (fun b ps q=>⟨#[],by rw[q];simp⟩) (fun m hm => ?_) (fun a u q => ?_) I.bare
 ·rw[List.mem_singleton.mp hb]
  exact⟨Fr.new,he,Fr.cell,fun p hp=>Fr.pn p (by simpa using hp)⟩
 ·obtain⟨sl,q1⟩:=F.slot b o (by simpa using hc) q
  exact⟨_,q1⟩
 ·obtain⟨o,es,ep,e1,e2,e3⟩:=hm
  obtain⟨sl,q1⟩:=F.slot _ o (Ne.symm he) e1;exact⟨_,es,ep,q1,e2,e3⟩
 ·refine(I.hok a u q).stay (fun b u' hb q'=>F.keep b u' (fun z => ?_) (fun z => ?_) q') (fun _ q'=>q') fun _ _ q'=>q'
  ·rw[z]at hb
   rcases hb with hb | hb
   ·rw[← hb,hH]at q;cases q
   ·rw[hH]at hb;cases hb
  ·have hf:=I.jf b z
   rcases hb with hb | hb
   ·rw[hb,q]at hf;cases hf
   ·rw[hb]at hf;cases hf
theorem fR{M:Model}{A:Around}{E:Value->Shared->Prop}{Q:Unit->Shared->Prop}{oe oT:Obj}{vs ts:Array Value}{T:Addr}(he:s.heap.get? e=some oe)(hd:oe.data=.fields vs)(h1:vs[1]?=some (.ref T))(hT:s.heap.get? T=some oT)(hdT:oT.data=.fields ts)(h3:ts[3]?=some .none)(h:Q () s) :
  wpAny M A (setFlight (.ref e) none) Q E s:=by
 unfold setFlight;refine wpAny_bind (wpAny_field he hd h1 ?_);rw[if_pos (show(Value.ref T != Value.none)=true from by simp)]
 refine wpAny_setField hT hdT (Array.getElem?_eq_some_iff.mp h3).1 ?_;have:s.heap.update T (Obj.mapFields (·.setIfInBounds 3 ((none:Option Addr).elim Value.none fun f=>rawInt f)))=s.heap:=Heap.update_setField_same s.heap T oT ts 3 .none hT hdT h3
 rw[this];exact h
end
section
variable{X:Cx}{σ:St}{H H':Hp}{s s':Shared}{e C d:Addr}
theorem vf{bn:Str}{nm:Option Str}{B0:Addr}{i:Nat}{b0:Stmt}{suite:List Stmt}{hp pos:Pos}{fs:List (Str×V)}{Q:Flow->Shared->Prop}{E:Value->Shared->Prop}(I:Inv X [] σ H s)(Th:pR X.prog X.w X.stack H s e C d H' s')(hst:X.stack=X.env::X.outer)(hfm:X.env.frame=some X.env.locals)
  (hxd:H' d=some (.xd fs)) (hg:Gl X bn) (hm:X.mg bn=some (.ref B0)) (hex:PySem.W.exmOne X.K (.ref C) (.ref B0)=some true) (hN:X.N.Nodup) (hi:∀ n,nm=some n->X.N[i]?=some n) (hn:∀ n,nm=some n->X.env.scope.names.lookup n=some .local)
  (hsuite:∀ oe s4,oe.cls=.ref C->oe.dict=some d->PySem.W.notCls oe=true->Inv (X.oa e) [(e,oe)] (if nm.isSome then σ.set i (some (.ref e)) else σ) H' s4 ->
   wpAny (model X.prog X.w) (X.A.mark (some (.ref e))) (execs (b0::suite) X.env) (fun f s5=>∃ ET H5,Inv (X.oa e) [(e,oe)] ET H5 s5/\∀ Ib s6,Inv X [] Ib H5 s6->Q f s6) (fun _ _=>False) s4)
  (hdb:(bn == ("__debug__":Str))=false:=by decide) :
  wpAny (model X.prog X.w) X.A (noteFrame (.ref e) X.env) (fun _ s₂=>wpAny (model X.prog X.w) X.A (setFlight (.ref e) none) (fun _ s₃=>wpAny (model X.prog X.w) X.A (handleBy (.ref e) X.env [.ExceptHandler (some (.Name bn hp)) nm (b0::suite) pos]) Q E s₃) E s₂) E s':=by
 have I':Inv X [] σ H' s':=I.call' (ch:=[]) Th.os Th.un Th.hok Th.bare (by simp)
 obtain⟨oe,vs,g1,g2,g3,g4,g5⟩:=Th.obj;have hfr:=I'.ok.frames;rw[hst]at hfr;have hl:=I'.stack;rw[hst]at hl;have hlt:∀ b o,s.heap.get? b=some o->b≠e:=fun b o q z=>by rw[z]at q;exact absurd (Nat.lt_of_lt_of_le (Heap.lt_size q) Th.new) (Nat.lt_irrefl _)
 have hloc:e≠X.env.locals:=fun z=>by
  obtain⟨m,⟨o,_,_,ho,_⟩,_⟩:=I.loc;exact hlt _ _ ho z.symm
 have fr:u9 X e:=⟨.inr (Nat.le_trans I.sz Th.new),fun x c q=>by
  obtain⟨v,o,q1,_⟩:=I.cell x c q;exact hlt _ _ q1,fun p hp=>by
  obtain⟨q1,_⟩:=I.pin p (by simp[hp])
  exact hlt _ _ q1⟩
 have hfs:e∉X.fs:=fun z=>by
  obtain⟨_,o,ho,_⟩:=I.ok.fN.mem z;exact absurd (Nat.lt_of_lt_of_le (Heap.lt_size ho) (Nat.le_trans I.sz Th.new)) (Nat.lt_irrefl _)
 refine va hfr hl hfm g1 g4 g5 fun h' T F => ?_
 have J:Inv X [] σ H' { s' with heap:=h' }:=I'.flown (by rw[hst];exact F) fr hloc Th.free
 have hat:=F.at_;obtain⟨oT,ts,t1,t2,t3⟩:=F.tb;have hcl:(oe.mapFields (·.setIfInBounds 1 (.ref T))).cls=.ref C:=by rw[Obj.cls_mapFields];exact g2
 have hdat:=Obj.data_mapFields g4 (·.setIfInBounds 1 (Value.ref T))
 have hdi:(oe.mapFields (·.setIfInBounds 1 (.ref T))).dict=some d:=by
  obtain⟨oc,od,dt,sl⟩:=oe;cases dt<;>exact g3
 have hsz:1 < vs.size:=by
  rcases g5 with z | ⟨_,_,_,z,_⟩<;>exact(Array.getElem?_eq_some_iff.mp z).1
 generalize (oe.mapFields (·.setIfInBounds 1 (.ref T)))=oe' at *;have hnc:PySem.W.notCls oe'=true:=by unfold PySem.W.notCls;rw[hdat]
 obtain⟨mA,nA,_⟩:=J.hok d _ hxd;obtain⟨od,gd,_⟩:=gp nA;have at_:PySem.W.InstAt h' e oe' C (some od):=⟨hat,hcl,hnc,by rw[hdi];exact gd⟩
 refine wpAny_handleBy_cons (codeAny_handlers_test ?_) (by intro q;cases q)
 refine fi (X:=X.oa e) J.oa hg hm ?_ hdb;refine(PySem.W.exm_one (K:=X.K) J.fG at_.type hex).here ?_;cases nm with
 | none=>
  refine codeAny_handlers_suite ?_;refine fR hat hdat (by simp[hsz]) t1 t2 t3 ?_
  have J1:Inv (X.oa e) [(e,oe')] σ H' { s' with heap:=h' }:=J.oa.u6 hat Th.free hloc hfs (fun v=>by rw[hdat];simp)
  exact wpAny_mono (hsuite oe' _ hcl hdi hnc J1) (fun f s5 ⟨ET,H5,J5,q5⟩=>q5 _ _ (J5.ES I.ok)) (fun _ _ z=>z.elim)
 | some n=>
 have hi:=hi n rfl;have hn:=hn n rfl;refine codeAny_handlers_suite_as ?_;refine fR hat hdat (by simp[hsz]) t1 t2 t3 ?_
 have J1:Inv (X.oa e) [(e,oe')] σ H' { s' with heap:=h' }:=J.oa.u6 hat Th.free hloc hfs (fun v=>by rw[hdat];simp)
 refine jE (X:=X.oa e) J1 hN hi (.inl hn) (v:=.ref e) rfl (fun s4 J4 => ?_) (.inr hn)
 refine wpAny_mono (hsuite oe' s4 hcl hdi hnc J4) (fun f s5 ⟨ET,H5,J5,q5⟩ => ?_) (fun _ _ z=>z.elim)
 obtain⟨m,P_,_⟩:=J5.loc;exact wpAny_nameGoes hn P_ (by rw[I.ok.kind];rfl) fun h6 m6 n6 Qa=>q5 _ _ (J5.blank I.ok n6 Qa)
end
theorem Cx.pS(X:Cx):X.fz []=X:=by
 obtain⟨a1,a2,a3,a4,a5,a6,a7,a8,a9,a10,a11,a12,a13,fn,a15,a16,a17⟩:=X;simp[Cx.fz]
section
variable{X:Cx}{σ:St}{H:Hp}{s:Shared}{C:Addr}{k:Nat}{f:Addr}{fd:FuncData}{ps:List Str}{sp:Sp}{ta:TA}{fs:List (Str×V)}{Rest:Hp->Prop}
end
section
variable{X:Cx}{pins:List (Addr×Obj)}{σ:St}{H:Hp}{s:Shared}{e C N fI:Addr}{oe:Obj}
noncomputable def Cx.yx(X:Cx)(e:Addr)(oe:Obj):Cx:={ X with pn:=X.pn++[(e,oe)] }
theorem Inv.yx(I:Inv X [(e,oe)] σ H s):Inv (X.yx e oe) [] σ H s:=
 ⟨⟨I.ok.mod,I.ok.kind,I.ok.glob,I.ok.blt,I.ok.above,I.ok.inj,I.ok.has,I.ok.cab,I.ok.hd,I.ok.frames,I.ok.Av,I.ok.Bg,I.ok.bs,I.ok.sS,I.ok.nP,I.ok.nQ,I.ok.fN,I.ok.uA⟩,
  I.os,I.bare,I.base,I.loc,I.cell,I.free,I.cX,fun p hp=>I.pin p (by simpa[Cx.yx] using hp),I.hok,I.len⟩
theorem Inv.EU(I:Inv (X.yx e oe) [] σ H s):Inv X [(e,oe)] σ H s:=
 ⟨⟨I.ok.mod,I.ok.kind,I.ok.glob,I.ok.blt,I.ok.above,I.ok.inj,I.ok.has,I.ok.cab,I.ok.hd,I.ok.frames,I.ok.Av,I.ok.Bg,I.ok.bs,I.ok.sS,I.ok.nP,I.ok.nQ,I.ok.fN,I.ok.uA⟩,
  I.os,I.bare,I.base,I.loc,I.cell,I.free,I.cX,fun p hp=>I.pin p (by simpa[Cx.yx] using hp),I.hok,I.len⟩
structure Kr(K:PySem.W.Frag)(C:Addr):Prop where
 ha:PySem.W.findIn K (.ref C) "__class__"=some (some (.builtin "object.__class__"))
 hn:PySem.W.specialIn K (.builtin "object.__class__") "__get__"=some (some (.builtin "getset_descriptor.__get__"))
 ht:PySem.W.takesIn K (.builtin "object.__class__")=some true
 hm:PySem.W.mroIn K C (.type "object")=some true
structure AG(X:Cx)(e C:Addr)(oe:Obj)(d:Addr)(N fI:Addr):Prop where
 pn:(e,oe)∈X.pn
 cls:oe.cls=.ref C
 dict:oe.dict=some d
 no:PySem.W.notCls oe=true
 txt:mr X.K C N fI
 is:Kr X.K C
variable{d:Addr}
theorem AG.inst(c:AG X e C oe d N fI)(I:Inv X pins σ H s){fs:List (Str×V)}(hd:H d=some (.xd fs)):∃ od,PySem.W.InstAt s.heap e oe C (some od):=by
 obtain⟨mA,nA,_⟩:=I.hok d _ hd;obtain⟨od,gd,_⟩:=gp nA;exact⟨od,(I.pin (e,oe) (by simp[c.pn])).1,c.cls,c.no,by rw[c.dict];exact gd⟩
def mw(X:Cx)(z:Str×Pos)(cv:Value):Prop:=∀ (E:Value->Shared->Prop) (pins:List (Addr×Obj)) (s:Shared) (σ:St) (H:Hp) (Q:Value->Shared->Prop),Inv X pins σ H s->Q cv s->wpAny (model X.prog X.w) X.A (eval (.Name z.1 z.2) X.env) Q E s
noncomputable def EV(i:Nat)(e d:Addr)(b:Bool):TE:=fun σ H Q=>σ[i]?=some (some (.ref e))/\(∃ fs,H d=some (.xd fs))/\Q (.bl b) H
theorem vg{i:Nat}{n cn:Str}{p q r pos:Pos}{cv:Value}{b:Bool}(c:AG X e C oe d N fI)(hi:X.N[i]?=some n)(hv:uu X.env.scope n)(hg:Gl X "isinstance")(hm:X.mg "isinstance"=none)
  (hcn:mw X (cn,r) cv)
  (hk:PySem.W.kitOne X.K (.ref C) cv=some b) (hd1:(n == ("__debug__":Str))=false:=by decide) (hd2:(n == ("__classdict__":Str))=false:=by decide) :
  PE X (.Call (.Name "isinstance" p) [.Name n q,.Name cn r] [] pos) (EV i e d b):=by
 intro pins s σ H Q I h;obtain⟨h1,⟨fs,h2⟩,h3⟩:=h;refine wpAny_Call_Name_kw (dF I hg hm boot_isinstance ?_ (by decide) (by decide))
 refine PyProof.Rows.callWith_builtin1 ?_ rfl rfl;refine Calls.spliced_cons (bU (gP (pos:=q) hi hv hd1 hd2 pins s σ H (fun w H'=>w=.ref e/\H'=H) I ⟨.ref e,h1,rfl,rfl⟩) fun u s1 ⟨w,H1,J1,r1,hw,hH⟩ => ?_)
 subst hw hH;cases (show u=Value.ref e from r1)
 refine Calls.spliced_cons (hcn _ pins s1 σ H1 _ J1 (Calls.spliced_nil ?_));obtain⟨od,at_⟩:=c.inst J1 h2;exact PySem.W.kia_one (n_ (od:=od) c.txt.xg c.txt.hd c.is.ha c.is.hn c.is.ht c.is.hm) J1.fG at_ hk (fun z=>nomatch z) fun tk=>⟨.bl b,H1,J1.tok tk,rfl,h3⟩
inductive Names (X:Cx):List (Str×Pos)->List Value->Prop
 | nil:Names X [] []
 | cons {z:Str×Pos} {cv:Value} {ns:List (Str×Pos)} {cs:List Value} (h:mw X z cv) (t:Names X ns cs):Names X (z::ns) (cv::cs)
theorem gG{pos:Pos}{E:Value->Shared->Prop}:∀ {ns:List (Str×Pos)} {cs:List Value},Names X ns cs ->
  ∀ {pins:List (Addr×Obj)} {s:Shared} {σ:St} {H:Hp} {Q:List Value->Shared->Prop},Inv X pins σ H s->Q cs s->wpAny (model X.prog X.w) X.A (spliced (backTo pos (starEach (ns.map fun z=>.Name z.1 z.2) X.env))) Q E s
 | [],_,.nil,_,_,_,_,_,_,h=>Calls.spliced_nil h
 | z::ns,cv::cs,.cons h1 h2,pins,s,σ,H,Q,I,h=>Calls.spliced_cons (h1 E pins s σ H _ I (gG h2 I h))
theorem yy{i:Nat}{n:Str}{x1:Nat}{p q r pos:Pos}{ns:List (Str×Pos)}{cs:List Value}{b:Bool}(c:AG X e C oe d N fI)(hi:X.N[i]?=some n)(hv:uu X.env.scope n)(hg:Gl X "isinstance")(hm:X.mg "isinstance"=none)
  (hcn:Names X ns cs) (hz:cs.length<=100)
  (hk:PySem.W.kitAny X.K (.ref C) cs=some b) (hd1:(n == ("__debug__":Str))=false:=by decide) (hd2:(n == ("__classdict__":Str))=false:=by decide) :
  PE X (.Call (.Name "isinstance" p) [.Name n q,.Tuple (ns.map fun z=>.Name z.1 z.2) x1 r] [] pos) (EV i e d b):=by
 intro pins s σ H Q I h;obtain⟨h1,⟨fs,h2⟩,h3⟩:=h;refine wpAny_Call_Name_kw (dF I hg hm boot_isinstance ?_ (by decide) (by decide))
 refine PyProof.Rows.callWith_builtin1 ?_ rfl rfl;refine Calls.spliced_cons (bU (gP (pos:=q) hi hv hd1 hd2 pins s σ H (fun w H'=>w=.ref e/\H'=H) I ⟨.ref e,h1,rfl,rfl⟩) fun u s1 ⟨w,H1,J1,r1,hw,hH⟩ => ?_)
 subst hw hH;cases (show u=Value.ref e from r1)
 refine Calls.spliced_cons (wpAny_Tuple_spliced (x1:=x1) (gG hcn J1 ⟨Nat.le_trans hz (by decide),Calls.spliced_nil ?_⟩))
 have J2:Inv X pins σ H1 { s1 with heap:=s1.heap.push { cls:=.type "tuple",data:=.seq cs.toArray } }:=J1.kept (t':=s1.toks) fun b o z=>Heap.get?_push_of_some _ z
 obtain⟨od,at_⟩:=c.inst J2 h2;exact PySem.W.kia_tup (n_ (od:=od) c.txt.xg c.txt.hd c.is.ha c.is.hn c.is.ht c.is.hm) J2.fG at_ (Heap.get?_push_size _ rfl) hk (fun z=>nomatch z) fun tk=>⟨.bl b,H1,J2.tok tk,rfl,h3⟩
noncomputable def Qb(i:Nat)(e d:Addr)(fld:Str):TE:=fun σ H Q=>σ[i]?=some (some (.ref e))/\∃ fs v,H d=some (.xd fs)/\fs.lookup fld=some v/\Q v H
theorem EW{i:Nat}{n fld:Str}{q p:Pos}(c:AG X e C oe d N fI)(na:fk X.K C fld)(hi:X.N[i]?=some n)(hv:uu X.env.scope n)(hd1:(n == ("__debug__":Str))=false:=by decide)(hd2:(n == ("__classdict__":Str))=false:=by decide) :
  PE X (.Attribute (.Name n q) fld p) (Qb i e d fld):=by
 intro pins s σ H Q I h;obtain⟨h1,fs,v,h2,h3,h4⟩:=h;refine qR rfl (bU (gP (pos:=q) hi hv hd1 hd2 pins s σ H (fun w H'=>w=.ref e/\H'=H) I ⟨.ref e,h1,rfl,rfl⟩) fun u s1 ⟨w,H1,J1,r1,hw,hH⟩ => ?_)
 subst hw hH;cases (show u=Value.ref e from r1)
 exact rb J1 c.txt na (J1.pin (e,oe) (by simp[c.pn])).1 c.cls c.dict c.no h2 h3 fun u' ru J2=>⟨v,H1,J2,ru,h4⟩
end
section
variable{X:Cx}{e C N fI d:Addr}{oe:Obj}
theorem da{cn:Str}{r:Pos}{u:Value}(hg:Gl X cn)(hm:X.mg cn=some u)(hd:(cn == ("__debug__":Str))=false):mw X (cn,r) u:=fun E pins s σ H Q I q=>fi I hg hm q hd
theorem pT{cn:Str}{r:Pos}{u:Value}(hg:Gl X cn)(hm:X.mg cn=none)(hv:bootBuiltins cn=some u)(hn:cn≠"__name__")(hd:(cn == ("__debug__":Str))=false):mw X (cn,r) u:=fun E pins s σ H Q I q=>dF I hg hm hv q hn hd
end
noncomputable def vh(e:DictEntry):Bool:=match e.key with
 | .str _ _=>true
 | _=>false
def Ih(K:PySem.W.Frag)(N:Addr)(nm:Str):Option (Option Value):=match K.lookup N with
 | some ⟨_,_,.dict es _,_⟩=>if es.toList.all vh=true then some (nsFind es nm) else none
 | _=>none
theorem AH{K:PySem.W.Frag}{N:Addr}{nm:Str}{r:Option Value}(h:Ih K N nm=some r)(hp:Heap)(X:K.In hp):∃ mN,hp.Ns N mN/\mN nm=r:=by
 unfold Ih at h;split at h
 ·rename_i c d es n sl hl
  split at h
  ·rename_i ha
   cases h;refine⟨nsFind es,⟨_,es,n,X _ _ hl,rfl,fun e he => ?_,fun _=>rfl⟩,rfl⟩
   have:=List.all_eq_true.mp ha e (by simpa using he)
   unfold vh at this;split at this
   ·rename_i a b q;exact⟨a,b,q⟩
   ·cases this
  ·cases h
 ·cases h
def og(K:PySem.W.Frag):List Value->Bool
 | .ref A::tl=>(match K.lookup A with
  | some ⟨_,_,.cls cd,_⟩=>Ih K cd.ns "__init__" == some none
  | _=>false) && og K tl
 | l=>l == gR
theorem ri{K:PySem.W.Frag}:∀ {l:List Value},og K l=true->∀ h:Heap,K.In h->OwnTail h gR l
 | [],e,h,X=>by simp[og]at e
 | a::r,e,h,X=>by
  cases a with
  | ref A=>
   simp only[og,Bool.and_eq_true]at e;obtain⟨e1,e2⟩:=e;split at e1
   ·rename_i c d cd sl hl
    obtain⟨mN,n1,n2⟩:=AH (eq_of_beq e1) h X;exact .own (X _ _ hl) n1 n2 (ri e2 h X)
   ·cases e1
  | _=>rw[eq_of_beq (show(_ == gR)=true from e)];exact .base
end L2
namespace Mir
open PySem
inductive D where
 | non | bl (b:Bool) | int (i:Int) | str (x:Str)
 | lst (xs:List D) | tup (xs:List D) | dct (ks:List L2.Key) (vs:List D) | ref (n:Nat)
 deriving Inhabited
inductive Out (α:Type) where
 | ok (a:α) | exc (c:Str) (fs:List (Str×D)) | bad
noncomputable def Out.bind{α β:Type}:Out α->(α->Out β)->Out β
 | .ok a,f=>f a
 | .exc c fs,_=>.exc c fs
 | .bad,_=>.bad
instance:Monad Out where
 pure:=.ok
 bind:=Out.bind
@[simp] theorem Ii{α β:Type}(a:α)(f:α->Out β):(Out.ok a >>= f)=f a:=rfl
@[simp] theorem EX{α β:Type}(f:α->Out β):((Out.bad:Out α) >>= f)=.bad:=rfl
@[simp] theorem EY{α β:Type}(c fs)(f:α->Out β):((Out.exc c fs:Out α) >>= f)=.exc c fs:=rfl
@[simp] theorem Ij{α:Type}(a:α):(pure a:Out α)=.ok a:=rfl
mutual
noncomputable def dJ:D->D->Bool
 | .non,.non=>true
 | .bl a,.bl b=>a == b
 | .bl a,.int j=>(if a then 1 else 0) == j
 | .int i,.bl b=>i == (if b then 1 else 0)
 | .int i,.int j=>i == j
 | .str x,.str y=>x == y
 | .lst xs,.lst ys=>dX xs ys
 | .tup xs,.tup ys=>dX xs ys
 | _,_=>false
noncomputable def dX:List D->List D->Bool
 | [],[]=>true
 | x::xs,y::ys=>dJ x y && dX xs ys
 | _,_=>false
end
noncomputable def aH:Nat->D->Bool
 | _,.non | _,.bl _ | _,.int _ | _,.str _=>true
 | n + 1,.lst xs | n + 1,.tup xs=>xs.all (aH n)
 | _,_=>false
noncomputable def small(n:Nat):Bool:=decide (n<=sizeLine)
def ja:D->Option Bool
 | .non=>some false
 | .bl b=>some b
 | .int i=>some (i != 0)
 | .str x=>if small x.length then some (x.length != 0) else none
 | .lst xs=>some (!xs.isEmpty)
 | .tup xs=>some (!xs.isEmpty)
 | _=>none
abbrev Rs:=Bool×D
noncomputable def kW(i:Int):Bool:=decide (i.natAbs < 18446744073709551616)
theorem oh{i:Int}(h:kW i=true) : -(2 ^ 64) < i/\i < 2 ^ 64:=by
 have:=of_decide_eq_true h;omega
def eW(op:Operator)(x y:D):Out Rs:=
 match op,x,y with
 | .Add,.int i,.int j=>.ok (false,.int (i + j))
 | .Sub,.int i,.int j=>.ok (false,.int (i - j))
 | .Mult,.int i,.int j=>if kW i || kW j then .ok (false,.int (i * j)) else .bad
 | .FloorDiv,.int i,.int j=>if decide (0 < j) && decide (j < 1073741824) then .ok (false,.int (i / j)) else .bad
 | .Mod,.int i,.int j=>if decide (0 < j) then .ok (false,.int (i % j)) else .bad
 | .Pow,.int i,.int j=>if decide (0<=j) && decide (j<=1000) && decide (i.natAbs < 2 ^ 64) then .ok (false,.int (i ^ j.toNat)) else .bad
 | .Add,.str i,.str j=>if small (i.length + j.length) then .ok (false,.str (i++j)) else .bad
 | .Add,.lst i,.lst j=>if small (i.length + j.length) then .ok (true,.lst (i++j)) else .bad
 | _,_,_=>.bad
noncomputable def AI(x y:Str):Bool := !(Builtin.Str.occurrences y x 0 y.length 1).isEmpty
def inD(x y:D):Out Bool:=
 match x,y with
 | x,.lst ys=>if aH 8 x && ys.all (aH 8) then .ok (ys.any fun y=>dJ y x) else .bad
 | x,.tup ys=>if aH 8 x && ys.all (aH 8) then .ok (ys.any fun y=>dJ y x) else .bad
 | .str x,.str y=>.ok (AI x y)
 | _,_=>.bad
noncomputable def isD(x y:D):Out Bool:=
 match x,y with
 | .non,.non=>.ok true
 | _,.non=>.ok false
 | .bl a,.bl b=>.ok (a == b)
 | .non,.bl _=>.ok false
 | .int _,.bl _=>.ok false
 | .str _,.bl _=>.ok false
 | .lst _,.bl _=>.ok false
 | .tup _,.bl _=>.ok false
 | _,_=>.bad
def dY(op:CmpOp)(x y:D):Out Bool:=
 match op,x,y with
 | .Eq,x,y=>if aH 8 x && aH 8 y then .ok (dJ x y) else .bad
 | .NotEq,x,y=>if aH 8 x && aH 8 y then .ok (!dJ x y) else .bad
 | .Lt,.int i,.int j=>.ok (decide (i < j))
 | .LtE,.int i,.int j=>.ok (decide (i<=j))
 | .Gt,.int i,.int j=>.ok (decide (j < i))
 | .GtE,.int i,.int j=>.ok (decide (j<=i))
 | .In,x,y=>inD x y
 | .NotIn,x,y=>do let b ← inD x y;.ok (!b)
 | .Is,x,y=>isD x y
 | .IsNot,x,y=>do let b ← isD x y;.ok (!b)
 | _,_,_=>.bad
noncomputable def fS(c:Nat):Str:=⟨#[c]⟩
def pU(x y:D):Out Rs:=
 match x,y with
 | .lst xs,.int i=>match L2.iD xs i with | some d=>.ok (false,d) | none=>.bad
 | .tup xs,.int i=>match L2.iD xs i with | some d=>.ok (false,d) | none=>.bad
 | .str z,.int i=>if small z.length then (match L2.iD z.cps.toList i with | some c=>.ok (false,.str (fS c)) | none=>.bad) else .bad
 | _,_=>.bad
def cQ{α:Type}(xs:List α)(lo hi:Option Int):List α:=(xs.drop (HT.ck xs.length 0 lo)).take (HT.ck xs.length xs.length hi - HT.ck xs.length 0 lo)
def vi(x:D)(lo hi:Option Int):Out Rs:=
 match x with
 | .lst xs=>.ok (true,.lst (cQ xs lo hi))
 | .str z=>if small z.length then .ok (false,.str ⟨(cQ z.cps.toList lo hi).toArray⟩) else .bad
 | _=>.bad
noncomputable def intsFrom(lo:Int):Nat->List D
 | 0=>[]
 | n + 1=>.int lo::intsFrom (lo + 1) n
noncomputable def gx(i:Int):Bool:=decide (i.natAbs < 4611686018427387904)
theorem oi{i:Int}(h:gx i=true) : -(2 ^ 62)<=i/\i < 2 ^ 62:=by
 have:=of_decide_eq_true h;omega
noncomputable def cY(i:Nat):List D->List D
 | []=>[]
 | d::ds=>.tup [.int i,d]::cY (i + 1) ds
inductive h8 where
 | len | all | any | sorted | list | tuple | int | min | max | bool
 deriving DecidableEq
def gy:List D->Option (List Bool)
 | []=>some []
 | d::r=>match ja d,gy r with | some b,some bs=>some (b::bs) | _,_=>none
noncomputable def eF:List D->Option (List Str)
 | []=>some []
 | .str i::r=>(eF r).map (i :: ·)
 | _=>none
inductive Qc where
 | index | join
 deriving DecidableEq
def mx(m:Qc)(x:D)(a:D):Out Rs:=
 match m,x,a with
 | .index,.lst xs,.tup [d]=>if aH 8 d && xs.all (aH 8) then (match xs.findIdx? fun y=>dJ y d with | some j=>.ok (false,.int j) | none=>.bad) else .bad
 | .index,.str z,.tup [.str y]=>match Builtin.Str.occurrences z y 0 z.length 1 with | i::_=>.ok (false,.int i) | []=>.bad
 | .join,.str z,.tup [.lst ds]=>match eF ds with | some xs=>if decide (z.length<=16) && decide ((xs.map (·.length)).sum + xs.length<=1048576) then .ok (false,.str (Txt.join z xs)) else .bad | none=>.bad
 | _,_,_=>.bad
inductive Ty where
 | int | str | bool | list | tuple | dict
 deriving DecidableEq
noncomputable def vj:D->Ty->Option Bool
 | .non,_=>some false
 | .bl _,t=>some (t == .bool || t == .int)
 | .int _,t=>some (t == .int)
 | .str _,t=>some (t == .str)
 | .lst _,t=>some (t == .list)
 | .tup _,t=>some (t == .tuple)
 | .dct _ _,t=>some (t == .dict)
 | .ref _,_=>none
noncomputable def eG:D->Bool
 | .non | .bl _ | .int _ | .str _=>true
 | _=>false
noncomputable def gH(σ:List Str)(x:Str):List Str:=if x∈σ then σ else σ++[x]
def unlike(xs:List Str):Nat:=(xs.foldl gH []).length
noncomputable def fuel:Nat:=100000
end Mir
namespace Mir
open PySem PySem.Spec PyProof.Rows L2
mutual
noncomputable def Rep(Z:Addr->Prop)(H:Hp):D->V->Prop
 | .non,v=>v=.non
 | .bl b,v=>v=.bl b
 | .int i,v=>v=.int i
 | .str x,v=>v=.str x
 | .lst ds,v=>∃ a vs,v=.ref a/\Z a/\Rd H a (.lst vs)/\aR Z H ds vs
 | .tup ds,v=>∃ a vs,v=.ref a/\Z a/\Rd H a (.tup vs)/\aR Z H ds vs
 | .dct ks ds,v=>∃ a vs,v=.ref a/\Z a/\H a=some (.dK (ks.zip vs))/\aR Z H ds vs
 | .ref _,_=>False
noncomputable def aR(Z:Addr->Prop)(H:Hp):List D->List V->Prop
 | [],vs=>vs=[]
 | d::ds,vs=>∃ v r,vs=v::r/\Rep Z H d v/\aR Z H ds r
end
section
variable{Z Z':Addr->Prop}{H H':Hp}
theorem my{a:Addr}{u:HO}(k:∀ o,H a=some o->H' a=some o)(h:Rd H a u):Rd H' a u:=by
 rcases h with h | ⟨o,h⟩
 ·exact .inl (k _ h)
 ·exact .inr ⟨o,k _ h⟩
mutual
theorem Rep.mono(k:∀ a o,Z a->H a=some o->H' a=some o)(z:∀ a,Z a->Z' a):∀ {d:D} {v:V},Rep Z H d v->Rep Z' H' d v
 | .non,_,h=>by simpa only [Rep] using h
 | .bl _,_,h=>by simpa only [Rep] using h
 | .int _,_,h=>by simpa only [Rep] using h
 | .str _,_,h=>by simpa only [Rep] using h
 | .lst ds,v,h=>by
  simp only[Rep]at h ⊢;obtain⟨a,vs,e,hz,hr,hs⟩:=h;exact⟨a,vs,e,z a hz,my (fun o=>k a o hz) hr,aR.mono k z hs⟩
 | .tup ds,v,h=>by
  simp only[Rep]at h ⊢;obtain⟨a,vs,e,hz,hr,hs⟩:=h;exact⟨a,vs,e,z a hz,my (fun o=>k a o hz) hr,aR.mono k z hs⟩
 | .dct ks ds,v,h=>by
  simp only[Rep]at h ⊢;obtain⟨a,vs,e,hz,hr,hs⟩:=h;exact⟨a,vs,e,z a hz,k a _ hz hr,aR.mono k z hs⟩
 | .ref _,_,h=>by simp only[Rep]at h
theorem aR.mono(k:∀ a o,Z a->H a=some o->H' a=some o)(z:∀ a,Z a->Z' a):∀ {ds:List D} {vs:List V},aR Z H ds vs->aR Z' H' ds vs
 | [],_,h=>by simpa only [aR] using h
 | d::ds,vs,h=>by
  simp only[aR]at h ⊢;obtain⟨v,r,e,h1,h2⟩:=h;exact⟨v,r,e,Rep.mono k z h1,aR.mono k z h2⟩
end
theorem aR.length:∀ {ds:List D} {vs:List V},aR Z H ds vs->vs.length=ds.length
 | [],_,h=>by simp only[aR]at h;rw[h];rfl
 | d::ds,_,h=>by
  simp only[aR]at h;obtain⟨v,r,e,_,h2⟩:=h;rw[e,List.length_cons,List.length_cons,aR.length h2]
theorem aR.get:∀ {ds:List D} {vs:List V} {i:Nat} {d:D},aR Z H ds vs->ds[i]?=some d->∃ v,vs[i]?=some v/\Rep Z H d v
 | [],_,_,_,_,e=>by simp at e
 | d::ds,_,0,_,h,e=>by
  simp only[aR]at h;obtain⟨v,r,rfl,h1,_⟩:=h;simp at e;subst e
  exact⟨v,rfl,h1⟩
 | d::ds,_,i + 1,d',h,e=>by
  simp only[aR]at h;obtain⟨v,r,rfl,_,h2⟩:=h;obtain⟨u,h3,h4⟩:=aR.get (i:=i) (d:=d') h2 (by simpa using e)
  exact⟨u,by simpa using h3,h4⟩
theorem aR.append:∀ {ds es:List D} {vs ws:List V},aR Z H ds vs->aR Z H es ws->aR Z H (ds++es) (vs++ws)
 | [],_,_,_,h,h'=>by simp only[aR]at h;rw[h];exact h'
 | d::ds,_,_,_,h,h'=>by
  simp only[aR]at h;obtain⟨v,r,rfl,h1,h2⟩:=h
  show aR Z H (d::(ds++_)) (v::(r++_))
  simp only[aR];exact⟨v,_,rfl,h1,aR.append h2 h'⟩
theorem aR.nil:aR Z H [] []:=by simp only[aR]
theorem aR.cons{d:D}{ds:List D}{v:V}{vs:List V}(h:Rep Z H d v)(h':aR Z H ds vs):aR Z H (d::ds) (v::vs):=by
 simp only[aR];exact⟨v,vs,rfl,h,h'⟩
theorem aR.nil_inv{vs:List V}(h:aR Z H [] vs):vs=[]:=by simpa only [aR] using h
theorem aR.cons_inv{d:D}{ds:List D}{vs:List V}(h:aR Z H (d::ds) vs):∃ v r,vs=v::r/\Rep Z H d v/\aR Z H ds r:=by simpa only [aR] using h
def Now(Z:Addr->Prop)(H:Hp)(d:D)(v:V):Prop:=
 match d with
 | .lst ds=>∃ a vs,v=.ref a/\Rd H a (.lst vs)/\aR Z H ds vs
 | d=>Rep Z H d v
theorem Rep.now{d:D}{v:V}(h:Rep Z H d v):Now Z H d v:=by
 cases d with
 | lst ds=>
  simp only[Rep]at h;obtain⟨a,vs,e,_,h⟩:=h;exact⟨a,vs,e,h⟩
 | _=>exact h
end
structure dO(Z:Addr->Prop)(H:Hp)(Z':Addr->Prop)(H':Hp):Prop where
 same:kS H H'
 sub:∀ a,Z a->Z' a
 new:∀ a,Z' a->Z a\/H a=none
 dom:∀ a,Z' a->H' a≠none
theorem dO.refl{Z:Addr->Prop}{H:Hp}(d:∀ a,Z a->H a≠none):dO Z H Z H:=⟨kS.refl _,fun _ h=>h,fun _ h=>.inl h,d⟩
theorem kS.laid{H:Hp}{p:Addr}{o:HO}(h:H p=none):kS H (upd H p o):=fun b u e=>by rw[aG (ba e h)];exact e
theorem dO.laid{Z:Addr->Prop}{H:Hp}{p:Addr}{o:HO}(d:∀ a,Z a->H a≠none)(h:H p=none):dO Z H Z (upd H p o):=
 ⟨kS.laid h,fun _ h=>h,fun _ h=>.inl h,fun a ha=>by
  have ne:a≠p:=fun e=>d a ha (by rw[e];exact h)
  rw[aG ne];exact d a ha⟩
def Zp(Z:Addr->Prop)(p:Addr):Addr->Prop:=fun a=>Z a\/a=p
section
variable{Z0 Z Z':Addr->Prop}{H0 H H':Hp}{ρ:yz}{σ:L2.St}
end
def du(bw own:Bool)(Z:Addr->Prop)(Hb H:Hp)(d:D)(v:V):Prop:=
 if own=true then ∃ a vs ds,d=.lst ds/\v=.ref a/\Hb a=none/\¬ Z a/\H a=some (.lst vs)/\aR Z H ds vs
 else if bw=true then Now Z H d v else Rep Z H d v
theorem du.own{bw:Bool}{Z:Addr->Prop}{Hb H:Hp}{a:Addr}{ds:List D}{vs:List V}(h1:Hb a=none)(h2:¬ Z a)(h3:H a=some (.lst vs))(h4:aR Z H ds vs):du bw true Z Hb H (.lst ds) (.ref a):=by
 unfold du;rw[if_pos rfl];exact⟨a,vs,ds,rfl,rfl,h1,h2,h3,h4⟩
theorem du.rep{bw:Bool}{Z:Addr->Prop}{Hb H:Hp}{d:D}{v:V}(h:Rep Z H d v):du bw false Z Hb H d v:=by
 unfold du;rw[if_neg Bool.false_ne_true]
 split
 ·exact h.now
 ·exact h
theorem du.now{own:Bool}{Z:Addr->Prop}{Hb H:Hp}{d:D}{v:V}(h:du true own Z Hb H d v):Now Z H d v:=by
 unfold du at h;split at h
 ·obtain⟨a,vs,ds,rfl,rfl,_,_,h3,h4⟩:=h
  exact⟨a,vs,rfl,.inl h3,h4⟩
 ·rw[if_pos rfl]at h;exact h
theorem PE.imp{X:Cx}{e:Expr}{t t':TE}(h:PE X e t)(i:∀ σ H Q,t' σ H Q->t σ H Q):PE X e t':=fun pins s σ H Q I q=>h pins s σ H Q I (i σ H Q q)
theorem jO{α β:Type}{x:Out α}{f:α->Out β}{b:β}(h:(x >>= f)=.ok b):∃ a,x=.ok a/\f a=.ok b:=by
 cases x with
 | ok a=>exact⟨a,rfl,h⟩
 | exc c fs=>cases h
 | bad=>cases h
section
variable{Γ:kX}{Z0 Z:Addr->Prop}{H0 H:Hp}{ρ:yz}{σ:L2.St}{c:Ex}{Q:VK}{own:Bool}{d:D}
end
end Mir
namespace Mir
open PySem PySem.Spec PyProof.Rows L2
section
variable{Z Z':Addr->Prop}{H H2 H':Hp}{d:D}{v:V}{bw own:Bool}
theorem bC{n:Nat}(h:small n=true):n<=sizeLine:=of_decide_eq_true h
end
section
variable{X:Cx}{Γ:kX}{bw:Bool}{a b e:Expr}{ca cb c:Ex}{pos:Pos}
noncomputable def eX:D->Option V
 | .non=>some .non
 | .bl b=>some (.bl b)
 | .int i=>some (.int i)
 | .str x=>some (.str x)
 | _=>none
theorem dZ{Z:Addr->Prop}{H:Hp}{d:D}{v:V}(h:eX d=some v):Rep Z H d v:=by
 cases d<;>simp only[eX]at h<;>first | cases h;simp only[Rep] | cases h
end
section
variable{Z:Addr->Prop}{H:Hp}{x:V}
theorem ft(h:Now Z H .non x):x=.non:=by simpa only [Now,Rep] using h
theorem aZ{i:Int}(h:Now Z H (.int i) x):x=.int i:=by simpa only [Now,Rep] using h
theorem fT{i:Bool}(h:Now Z H (.bl i) x):x=.bl i:=by simpa only [Now,Rep] using h
theorem cD{i:Str}(h:Now Z H (.str i) x):x=.str i:=by simpa only [Now,Rep] using h
theorem cz{ds:List D}(h:Now Z H (.lst ds) x):∃ a vs,x=.ref a/\Rd H a (.lst vs)/\aR Z H ds vs:=h
theorem fu{ds:List D}(h:Now Z H (.tup ds) x):∃ a vs,x=.ref a/\Z a/\Rd H a (.tup vs)/\aR Z H ds vs:=by simpa only [Now,Rep] using h
theorem jb{K:PySem.W.Frag}{a:Addr}{vs:List V}(h:Rd H a (.lst vs)):jg K H a vs:=.inl h
theorem tD{K:PySem.W.Frag}{a:Addr}{vs:List V}(h:Rd H a (.tup vs)):fH K H a vs:=.inl h
theorem yA{bw:Bool}{Q:VK}{ds:List D}{vs:List V}(dom:∀ a,Z a->H a≠none)(hs:aR Z H ds vs)
  (k:∀ v H' Z',dO Z H Z' H'->du bw true Z' H H' (.lst ds) v->Q v H'):∀ p,H p=none->Q (.ref p) (upd H p (.lst vs)):=fun p hp=>
 k _ _ Z (dO.laid dom hp) (.own hp (fun z=>dom p z hp) bo (hs.mono (fun a o _=>kS.laid hp a o) fun _ z=>z))
end
section
variable{X:Cx}{Γ:kX}{bw:Bool}{a b e:Expr}{ca cb c:Ex}{pos:Pos}
def AJ:R2:=fun x y H Q=>∃ l b xs zs,x=.ref l/\y=.ref b/\Rd H l (.lst xs)/\Rd H b (.lst zs)/\xs.length + zs.length<=sizeLine/\∀ p,H p=none->Q (.ref p) (upd H p (.lst (xs++zs)))
theorem yB:fJ X (binaryOp .Add) AJ:=by
 intro pins s σ H x y v u Q I rx ry h;obtain⟨l,b,xs,zs,rfl,rfl,hH,hB,hz,q⟩:=h;cases rx;cases ry;obtain⟨z,its,n,r,e⟩:xs.length<=sizeLine/\∃ (its:List Value) (n:Nat),Vals xs its/\s.heap.get? l=some { cls:=.type "list",data:=.seq its.toArray n }:=Rd.ok hH I.hok;obtain⟨z2,its2,n2,r2,e2⟩:zs.length<=sizeLine/\∃ (its:List Value) (n:Nat),Vals zs its/\s.heap.get? b=some { cls:=.type "list",data:=.seq its.toArray n }:=Rd.ok hB I.hok;have hl:=r.length;have hl2:=r2.length;refine PySem.P.add_list e e2 ?_ (by rw[List.size_toArray,List.size_toArray];omega)
 have ea:its.toArray++its2.toArray=(its++its2).toArray:=by simp
 rw[ea];exact⟨.ref _,_,I.Km (t':=s.toks) (r.append r2) (by rw[List.length_append];omega),rfl,q _ I.fresh⟩
def yC(op:Operator):R2:=fun x y H Q=>match op with
 | .Add=>(∃ i j,x=.int i/\y=.int j/\Q (.int (i + j)) H)\/(∃ i j,x=.str i/\y=.str j/\i.length + j.length<=sizeLine/\Q (.str (i++j)) H)\/AJ x y H Q
 | .Sub=>∃ i j,x=.int i/\y=.int j/\Q (.int (i - j)) H
 | .Mult=>∃ i j,x=.int i/\y=.int j/\yc i j/\Q (.int (i * j)) H
 | .FloorDiv=>∃ i j,x=.int i/\y=.int j/\Er i j/\Q (.int (i / j)) H
 | .Mod=>∃ i j,x=.int i/\y=.int j/\0 < j/\Q (.int (i % j)) H
 | .Pow=>∃ i j,x=.int i/\y=.int j/\Es i j/\Q (.int (i ^ j.toNat)) H
 | _=>False
theorem vk(op:Operator):fJ X (binaryOp op) (yC op):=by
 cases op with
 | Add=>exact Bt.or (pI.or yB)
 | Sub=>exact Bu
 | Mult=>exact Bv
 | FloorDiv=>exact yd
 | Mod=>exact Bw
 | Pow=>exact Bx
 | _=>exact fun _ _ _ _ _ _ _ _ _ _ _ _ h=>h.elim
theorem BO{op:Operator}{dx dy:D}{x y:V}{Z:Addr->Prop}{H:Hp}{own:Bool}{d:D}{Q:VK}(nx:Now Z H dx x)(ny:Now Z H dy y)(dom:∀ a,Z a->H a≠none)(ee:eW op dx dy=.ok (own,d))
  (k:∀ v H' Z',dO Z H Z' H'->du bw own Z' H H' d v->Q v H'):yC op x y H Q:=by
 have flat:∀ {d':D} {v:V},eX d'=some v->Out.ok (false,d')=Out.ok (own,d)->Q v H:=fun hf q=>by
  cases q;exact k _ H Z (dO.refl dom) (.rep (dZ hf))
 unfold eW at ee;split at ee
 ·cases aZ nx;cases aZ ny
  exact .inl ⟨_,_,rfl,rfl,flat rfl ee⟩
 ·cases aZ nx;cases aZ ny
  exact⟨_,_,rfl,rfl,flat rfl ee⟩
 ·cases aZ nx;cases aZ ny
  split at ee
  ·rename_i hc
   refine⟨_,_,rfl,rfl,?_,flat rfl ee⟩;simp only[Bool.or_eq_true]at hc;have hc:=hc.imp oh oh;exact hc
  ·cases ee
 ·cases aZ nx;cases aZ ny
  split at ee
  ·rename_i hc
   refine⟨_,_,rfl,rfl,?_,flat rfl ee⟩;simp only[Bool.and_eq_true,decide_eq_true_eq]at hc;exact hc
  ·cases ee
 ·cases aZ nx;cases aZ ny
  split at ee
  ·rename_i hc
   exact⟨_,_,rfl,rfl,of_decide_eq_true hc,flat rfl ee⟩
  ·cases ee
 ·cases aZ nx;cases aZ ny
  split at ee
  ·rename_i hc
   refine⟨_,_,rfl,rfl,?_,flat rfl ee⟩;simp only[Bool.and_eq_true,decide_eq_true_eq]at hc;exact⟨hc.1.1,Int.le_trans hc.1.2 (by decide),hc.2⟩
  ·cases ee
 ·cases cD nx;cases cD ny
  split at ee
  ·rename_i hc
   exact .inr (.inl ⟨_,_,rfl,rfl,bC hc,flat rfl ee⟩)
  ·cases ee
 ·obtain⟨l,xs,rfl,h1,h2⟩:=cz nx
  obtain⟨m,zs,rfl,h3,h4⟩:=cz ny;split at ee
  ·rename_i hc
   cases ee;have hz:=bC hc;exact .inr (.inr ⟨l,m,xs,zs,rfl,rfl,h1,h3,by rw[h2.length,h4.length];exact hz,yA dom (h2.append h4) k⟩)
  ·cases ee
 ·cases ee
end
section
variable{Z:Addr->Prop}{H:Hp}
theorem mz{a:Addr}{u u':HO}(hn:∀ o w,u≠.i7 o w)(hn':∀ o w,u'≠.i7 o w)(h:Rd H a u)(h':Rd H a u'):u=u':=by
 rcases h with h | ⟨o,h⟩<;>rcases h' with h' | ⟨o',h'⟩<;>rw[h]at h'<;>injection h' with e
 ·exact absurd e (hn _ _)
 ·exact absurd e.symm (hn' _ _)
 ·injection e
theorem pV{a:Addr}{xs ys:List V}(h:Rd H a (.lst xs))(h':Rd H a (.lst ys)):xs=ys:=by
 have e:=mz (fun _ _ z=>by cases z) (fun _ _ z=>by cases z) h h'
 injection e
theorem pW{a:Addr}{xs ys:List V}(h:Rd H a (.tup xs))(h':Rd H a (.tup ys)):xs=ys:=by
 have e:=mz (fun _ _ z=>by cases z) (fun _ _ z=>by cases z) h h'
 injection e
theorem rj{a:Addr}{xs ys:List V}(h:Rd H a (.lst xs))(h':Rd H a (.tup ys)):False:=by
 have e:=mz (fun _ _ z=>by cases z) (fun _ _ z=>by cases z) h h'
 cases e
mutual
theorem Rep.uniq:∀ (n:Nat) (d d':D) (v:V),aH n d=true->aH n d'=true->Rep Z H d v->Rep Z H d' v->d=d'
 | n,.lst xs,d',v,o,o',h,h'=>by
  simp only[Rep]at h;obtain⟨a,vs,rfl,_,h1,h2⟩:=h;cases d'<;>simp only[Rep]at h'
  case lst ys=>
   obtain⟨b,ws,e,_,h3,h4⟩:=h';cases e;cases pV h1 h3;cases n with
   | zero=>simp[aH]at o
   | succ n=>rw[aR.uniq n xs ys vs (by simpa[aH] using o) (by simpa[aH] using o') h2 h4]
  case tup ys=>
   obtain⟨b,ws,e,_,h3,h4⟩:=h';cases e;exact(rj h1 h3).elim
  case dct ks ys=>cases n<;>simp[aH]at o'
  all_goals cases h'
 | n,.tup xs,d',v,o,o',h,h'=>by
  simp only[Rep]at h;obtain⟨a,vs,rfl,_,h1,h2⟩:=h;cases d'<;>simp only[Rep]at h'
  case tup ys=>
   obtain⟨b,ws,e,_,h3,h4⟩:=h';cases e;cases pW h1 h3;cases n with
   | zero=>simp[aH]at o
   | succ n=>rw[aR.uniq n xs ys vs (by simpa[aH] using o) (by simpa[aH] using o') h2 h4]
  case lst ys=>
   obtain⟨b,ws,e,_,h3,h4⟩:=h';cases e;exact(rj h3 h1).elim
  case dct ks ys=>cases n<;>simp[aH]at o'
  all_goals cases h'
 | n,.dct ks xs,_,_,o,_,_,_=>by cases n<;>simp[aH]at o
 | n,.ref _,_,_,_,_,h,_=>by simp only[Rep]at h
 | n,.non,d',v,_,o',h,h'=>by
  simp only[Rep]at h;subst h
  cases d'<;>simp only[Rep]at h'<;>first | rfl | (obtain⟨_,_,e,_⟩:=h';cases e;done) | (cases h';done)
 | n,.bl b,d',v,_,o',h,h'=>by
  simp only[Rep]at h;subst h
  cases d'<;>simp only[Rep]at h'<;>first | (obtain⟨_,_,e,_⟩:=h';cases e;done) | (cases h';rfl) | (cases h';done)
 | n,.int b,d',v,_,o',h,h'=>by
  simp only[Rep]at h;subst h
  cases d'<;>simp only[Rep]at h'<;>first | (obtain⟨_,_,e,_⟩:=h';cases e;done) | (cases h';rfl) | (cases h';done)
 | n,.str b,d',v,_,o',h,h'=>by
  simp only[Rep]at h;subst h
  cases d'<;>simp only[Rep]at h'<;>first | (obtain⟨_,_,e,_⟩:=h';cases e;done) | (cases h';rfl) | (cases h';done)
theorem aR.uniq:∀ (n:Nat) (xs ys:List D) (vs:List V),(∀ x∈xs,aH n x=true)->(∀ x∈ys,aH n x=true)->aR Z H xs vs->aR Z H ys vs->xs=ys
 | n,[],ys,vs,_,_,h,h'=>by
  rw[h.nil_inv]at h';cases ys with
  | nil=>rfl
  | cons y ys=>obtain⟨_,_,e,_⟩:=h'.cons_inv;cases e
 | n,x::xs,ys,vs,o,o',h,h'=>by
  obtain⟨v,r,rfl,h1,h2⟩:=h.cons_inv;cases ys with
  | nil=>exact absurd h'.nil_inv (by simp)
  | cons y ys=>
   obtain⟨w,r',e,h3,h4⟩:=h'.cons_inv;cases e;rw[Rep.uniq n x y v (o x (by simp)) (o' y (by simp)) h1 h3,aR.uniq n xs ys r (fun z hz=>o z (by simp[hz])) (fun z hz=>o' z (by simp[hz])) h2 h4]
end
mutual
theorem vm:∀ (n:Nat) (d:D),aH n d=true->dJ d d=true
 | n,.lst xs,o=>by
  cases n with
  | zero=>simp[aH]at o
  | succ n=>simp only[dJ];exact eY n xs (by simpa[aH] using o)
 | n,.tup xs,o=>by
  cases n with
  | zero=>simp[aH]at o
  | succ n=>simp only[dJ];exact eY n xs (by simpa[aH] using o)
 | n,.dct _ _,o=>by cases n<;>simp[aH]at o
 | n,.ref _,o=>by cases n<;>simp[aH]at o
 | n,.non,_=>by simp[dJ]
 | n,.bl _,_=>by simp[dJ]
 | n,.int _,_=>by simp[dJ]
 | n,.str _,_=>by simp[dJ]
theorem eY:∀ (n:Nat) (xs:List D),(∀ x∈xs,aH n x=true)->dX xs xs=true
 | n,[],_=>by simp[dX]
 | n,x::xs,o=>by
  simp only[dX,vm n x (o x (by simp)),eY n xs fun z hz=>o z (by simp[hz]),Bool.and_self]
end
theorem dc:∀ (xs ys:List D),((List.range (min xs.length ys.length)).all (fun j=>dJ (xs.getD j .non) (ys.getD j .non)) && (xs.length == ys.length))=dX xs ys
 | [],[]=>by simp[dX]
 | [],_::_=>by simp[dX]
 | _::_,[]=>by simp[dX]
 | x::xs,y::ys=>by
  have ih:=dc xs ys;have e1:min (x::xs).length (y::ys).length=min xs.length ys.length + 1:=by simp only[List.length_cons];omega
  rw[e1,List.range_succ_eq_map,List.all_cons,List.all_map,dX,← ih];simp[Function.comp_def,Bool.and_assoc]
theorem jP{xs ys:List D}(h:xs.length=ys.length):(List.range xs.length).all (fun j=>dJ (xs.getD j .non) (ys.getD j .non))=dX xs ys:=by
 have e:=dc xs ys;rw[← h,Nat.min_self]at e;simpa using e
theorem mB{xs ys:List D}(h:xs.length≠ys.length):dX xs ys=false:=by
 rw[← dc xs ys];simp[h]
end
inductive Vw (s:Shared) (Z:Addr->Prop) (H:Hp):D->Value->Prop where
 | non:Vw s Z H .non .none
 | bl (b:Bool):Vw s Z H (.bl b) (.bool b)
 | int (i:Int) (t:Tok):Vw s Z H (.int i) (.int i t)
 | str (x:Str) (t:Tok):Vw s Z H (.str x) (.str x t)
 | lst {l:Addr} {its:List Value} {vs:List V} {ds:List D}:s.heap.IsList l its.toArray->Vals vs its->Rd H l (.lst vs)/\aR Z H ds vs->Vw s Z H (.lst ds) (.ref l)
 | tup {l:Addr} {its:List Value} {vs:List V} {ds:List D}:s.heap.IsTuple l its.toArray->Vals vs its->Rd H l (.tup vs)/\aR Z H ds vs->Vw s Z H (.tup ds) (.ref l)
section
variable{X:Cx}{pins:List (Addr×Obj)}{σ:L2.St}{Z:Addr->Prop}{H:Hp}{s:Shared}{A:Around}
theorem fE{n:Nat}{d:D}{v:V}{u:Value}(I:Inv X pins σ H s)(nw:Now Z H d v)(r:RelV v u)(o:aH n d=true):Vw s Z H d u:=by
 cases d with
 | non=>cases ft nw;cases r;exact .non
 | bl b=>cases fT nw;cases r;exact .bl b
 | int b=>cases aZ nw;obtain⟨t,rfl⟩:=r;exact .int b t
 | str b=>cases cD nw;obtain⟨t,rfl⟩:=r;exact .str b t
 | lst ds=>
  obtain⟨a,vs,rfl,h1,h2⟩:=cz nw;cases r;obtain⟨its,rv,p,hz⟩:=I.list (jb (K:=X.K) h1);exact .lst p.isList rv ⟨h1,h2⟩
 | tup ds=>
  obtain⟨a,vs,rfl,_,h1,h2⟩:=fu nw;cases r;obtain⟨its,rv,p,hz⟩:=I.tuple (tD (K:=X.K) h1);exact .tup p rv ⟨h1,h2⟩
 | dct ks ds=>cases n<;>simp[aH]at o
 | ref k=>cases n<;>simp[aH]at o
theorem mD{vs:List V}{its:List Value}(r:Vals vs its){j:Nat}(hj:j < its.length):∃ v,vs[j]?=some v/\RelV v its[j]:=by
 have hl:=r.length;have h1:vs[j]?=some vs[j]:=by simp[show j < vs.length by omega]
 obtain⟨u,h2,h3⟩:=r.get h1;rw[List.getElem?_eq_getElem hj]at h2;cases h2;exact⟨_,h1,h3⟩
theorem eZ{n:Nat}(I:Inv X pins σ H s)(ih:∀ (A:Around) (dx dy:D) (u w:Value),A.units + n < cLine->aH n dx=true->aH n dy=true->Vw s Z H dx u->Vw s Z H dy w->SeqAt.EqAt A s u w (dJ dx dy))
  {ds es:List D} (ox:∀ x∈ds,aH n x=true) (oy:∀ x∈es,aH n x=true) (hu:A.units + (n + 1) < cLine) {vs ws:List V} {its its2:List Value} (rl:Vals vs its) (rm:Vals ws its2) (pl:aR Z H ds vs) (pm:aR Z H es ws) :
  ∀ j (h1:j < its.toArray.size) (h2:j < its2.toArray.size),SeqAt.EqAt A.in1 s its.toArray[j] its2.toArray[j] (dJ (ds.getD j .non) (es.getD j .non)):=by
 intro j h1 h2;have n1:=rl.length;have n2:=rm.length;have k1:=pl.length;have k2:=pm.length;simp only[List.size_toArray]at h1 h2;simp only[List.getElem_toArray];obtain⟨v,hv,rv⟩:=mD rl h1;obtain⟨w,hw,xO⟩:=mD rm h2;have e1:ds[j]?=some (ds.getD j .non):=by simp[List.getD,show j < ds.length by omega]
 have e2:es[j]?=some (es.getD j .non):=by simp[List.getD,show j < es.length by omega]
 obtain⟨v',hv',p1⟩:=pl.get e1;obtain⟨w',hw',p2⟩:=pm.get e2;rw[hv]at hv';cases hv'
 rw[hw]at hw';cases hw'
 have o1:=ox _ (List.mem_of_getElem? e1);have o2:=oy _ (List.mem_of_getElem? e2);exact ih A.in1 _ _ _ _ (by show A.units + 1 + n < cLine;omega) o1 o2 (fE I p1.now rv o1) (fE I p2.now xO o2)
theorem e_(I:Inv X pins σ H s):∀ (n:Nat) (A:Around) (dx dy:D) (u w:Value),A.units + n < cLine->aH n dx=true->aH n dy=true->Vw s Z H dx u->Vw s Z H dy w->SeqAt.EqAt A s u w (dJ dx dy):=by
 intro n
 induction n with
 | zero=>
  intro A dx dy u w hn ox oy hx hy;have hu:A.units < cLine:=by omega
  cases hx with
  | non=>
   cases hy with
   | non=>exact SeqAt.EqAt.same _
   | bl b2=>exact SeqAt.EqAt.none_bool _
   | int i2 t2=>exact SeqAt.EqAt.none_int _ _
   | str x2 t2=>exact SeqAt.EqAt.none_str _ _
   | @lst m its2 vs2 cO hm rm pm=>exact SeqAt.EqAt.none_list hm hu
   | @tup m its2 vs2 cO hm rm pm=>exact SeqAt.EqAt.none_tuple hm hu
  | bl b=>
   cases hy with
   | non=>exact SeqAt.EqAt.bool_none _
   | bl b2=>exact SeqAt.EqAt.bool_bool _ _
   | int i2 t2=>exact SeqAt.EqAt.bool_int _ _ _
   | str x2 t2=>exact SeqAt.EqAt.bool_str _ _ _
   | @lst m its2 vs2 cO hm rm pm=>exact SeqAt.EqAt.bool_list _ hm hu
   | @tup m its2 vs2 cO hm rm pm=>exact SeqAt.EqAt.bool_tuple _ hm hu
  | int i t=>
   cases hy with
   | non=>exact SeqAt.EqAt.int_none _ _
   | bl b2=>exact SeqAt.EqAt.int_bool _ _ _
   | int i2 t2=>exact SeqAt.EqAt.int_int _ _ _ _
   | str x2 t2=>exact SeqAt.EqAt.int_str _ _ _ _
   | @lst m its2 vs2 cO hm rm pm=>exact SeqAt.EqAt.int_list _ _ hm hu
   | @tup m its2 vs2 cO hm rm pm=>exact SeqAt.EqAt.int_tuple _ _ hm hu
  | str x t=>
   cases hy with
   | non=>exact SeqAt.EqAt.str_none _ _
   | bl b2=>exact SeqAt.EqAt.str_bool _ _ _
   | int i2 t2=>exact SeqAt.EqAt.str_int _ _ _ _
   | str x2 t2=>exact SeqAt.EqAt.str_str _ _ _ _
   | @lst m its2 vs2 cO hm rm pm=>exact SeqAt.EqAt.str_list _ _ hm hu
   | @tup m its2 vs2 cO hm rm pm=>exact SeqAt.EqAt.str_tuple _ _ hm hu
  | @lst l its vs ds hl rl pl=>
   cases hy with
   | non=>exact SeqAt.EqAt.list_none hl hu
   | bl b2=>exact SeqAt.EqAt.list_bool _ hl hu
   | int i2 t2=>exact SeqAt.EqAt.list_int _ _ hl hu
   | str x2 t2=>exact SeqAt.EqAt.list_str _ _ hl hu
   | @lst m its2 vs2 cO hm rm pm=>
    simp[aH]at ox
   | @tup m its2 vs2 cO hm rm pm=>exact SeqAt.EqAt.list_tuple hl hm hu
  | @tup l its vs ds hl rl pl=>
   cases hy with
   | non=>exact SeqAt.EqAt.tuple_none hl hu
   | bl b2=>exact SeqAt.EqAt.tuple_bool _ hl hu
   | int i2 t2=>exact SeqAt.EqAt.tuple_int _ _ hl hu
   | str x2 t2=>exact SeqAt.EqAt.tuple_str _ _ hl hu
   | @lst m its2 vs2 cO hm rm pm=>exact SeqAt.EqAt.tuple_list hl hm hu
   | @tup m its2 vs2 cO hm rm pm=>
    simp[aH]at ox
 | succ n ih=>
  intro A dx dy u w hn ox oy hx hy;have hu:A.units < cLine:=by omega
  cases hx with
  | non=>
   cases hy with
   | non=>exact SeqAt.EqAt.same _
   | bl b2=>exact SeqAt.EqAt.none_bool _
   | int i2 t2=>exact SeqAt.EqAt.none_int _ _
   | str x2 t2=>exact SeqAt.EqAt.none_str _ _
   | @lst m its2 vs2 cO hm rm pm=>exact SeqAt.EqAt.none_list hm hu
   | @tup m its2 vs2 cO hm rm pm=>exact SeqAt.EqAt.none_tuple hm hu
  | bl b=>
   cases hy with
   | non=>exact SeqAt.EqAt.bool_none _
   | bl b2=>exact SeqAt.EqAt.bool_bool _ _
   | int i2 t2=>exact SeqAt.EqAt.bool_int _ _ _
   | str x2 t2=>exact SeqAt.EqAt.bool_str _ _ _
   | @lst m its2 vs2 cO hm rm pm=>exact SeqAt.EqAt.bool_list _ hm hu
   | @tup m its2 vs2 cO hm rm pm=>exact SeqAt.EqAt.bool_tuple _ hm hu
  | int i t=>
   cases hy with
   | non=>exact SeqAt.EqAt.int_none _ _
   | bl b2=>exact SeqAt.EqAt.int_bool _ _ _
   | int i2 t2=>exact SeqAt.EqAt.int_int _ _ _ _
   | str x2 t2=>exact SeqAt.EqAt.int_str _ _ _ _
   | @lst m its2 vs2 cO hm rm pm=>exact SeqAt.EqAt.int_list _ _ hm hu
   | @tup m its2 vs2 cO hm rm pm=>exact SeqAt.EqAt.int_tuple _ _ hm hu
  | str x t=>
   cases hy with
   | non=>exact SeqAt.EqAt.str_none _ _
   | bl b2=>exact SeqAt.EqAt.str_bool _ _ _
   | int i2 t2=>exact SeqAt.EqAt.str_int _ _ _ _
   | str x2 t2=>exact SeqAt.EqAt.str_str _ _ _ _
   | @lst m its2 vs2 cO hm rm pm=>exact SeqAt.EqAt.str_list _ _ hm hu
   | @tup m its2 vs2 cO hm rm pm=>exact SeqAt.EqAt.str_tuple _ _ hm hu
  | @lst l its vs ds hl rl pl=>
   cases hy with
   | non=>exact SeqAt.EqAt.list_none hl hu
   | bl b2=>exact SeqAt.EqAt.list_bool _ hl hu
   | int i2 t2=>exact SeqAt.EqAt.list_int _ _ hl hu
   | str x2 t2=>exact SeqAt.EqAt.list_str _ _ hl hu
   | @lst m its2 vs2 cO hm rm pm=>
    have n1:=rl.length;have n2:=rm.length;have k1:=pl.2.length;have k2:=pm.2.length;simp only[dJ]
    by_cases hll:l=m
    ·subst hll
     have e0:=pV pl.1 pm.1;subst e0;have e1:=aR.uniq n ds cO vs (by simpa[aH] using ox) (by simpa[aH] using oy) pl.2 pm.2
     subst e1;rw[eY n ds (by simpa[aH] using ox)]
     exact SeqAt.EqAt.same _
    ·refine SeqAt.EqAt.of_refs hll ?_
     by_cases hsz:ds.length=cO.length
     ·rw[← jP hsz]
      have:=SeqAt.RcAt.lists hl hm (by simp only[List.size_toArray];omega) hu (eZ I ih (by simpa[aH] using ox) (by simpa[aH] using oy) hn rl rm pl.2 pm.2)
      rw[show its.toArray.size=ds.length by simp only[List.size_toArray];omega]at this
      exact this
     ·rw[mB hsz]
      exact SeqAt.RcAt.lists_lengths hl hm (by simp only[List.size_toArray,bne_iff_ne];omega) hu
   | @tup m its2 vs2 cO hm rm pm=>exact SeqAt.EqAt.list_tuple hl hm hu
  | @tup l its vs ds hl rl pl=>
   cases hy with
   | non=>exact SeqAt.EqAt.tuple_none hl hu
   | bl b2=>exact SeqAt.EqAt.tuple_bool _ hl hu
   | int i2 t2=>exact SeqAt.EqAt.tuple_int _ _ hl hu
   | str x2 t2=>exact SeqAt.EqAt.tuple_str _ _ hl hu
   | @lst m its2 vs2 cO hm rm pm=>exact SeqAt.EqAt.tuple_list hl hm hu
   | @tup m its2 vs2 cO hm rm pm=>
    have n1:=rl.length;have n2:=rm.length;have k1:=pl.2.length;have k2:=pm.2.length;simp only[dJ]
    by_cases hll:l=m
    ·subst hll
     have e0:=pW pl.1 pm.1;subst e0;have e1:=aR.uniq n ds cO vs (by simpa[aH] using ox) (by simpa[aH] using oy) pl.2 pm.2
     subst e1;rw[eY n ds (by simpa[aH] using ox)]
     exact SeqAt.EqAt.same _
    ·refine SeqAt.EqAt.of_refs hll ?_
     rw[← dc ds cO];have:=SeqAt.RcAt.tuples hl hm hu (eZ I ih (by simpa[aH] using ox) (by simpa[aH] using oy) hn rl rm pl.2 pm.2)
     rw[show its.toArray.size=ds.length by simp only[List.size_toArray];omega,show its2.toArray.size=cO.length by simp only[List.size_toArray];omega]at this
     exact this
theorem vn(I:Inv X pins σ H s){n:Nat}{dx dy:D}{u w:Value}(hn:A.units + (n + 1) < cLine)(ox:aH (n + 1) dx=true)(oy:aH (n + 1) dy=true)(hx:Vw s Z H dx u)(hy:Vw s Z H dy w):SeqAt.RcAt A s u w (dJ dx dy):=by
 have hu:A.units < cLine:=by omega
 cases hx with
 | non=>
  cases hy with
  | non=>exact SeqAt.RcAt.none_none
  | bl b2=>exact SeqAt.RcAt.none_bool _
  | int i2 t2=>exact SeqAt.RcAt.none_int _ _
  | str x2 t2=>exact SeqAt.RcAt.none_str _ _
  | @lst m its2 vs2 cO hm rm pm=>exact SeqAt.RcAt.none_list hm hu
  | @tup m its2 vs2 cO hm rm pm=>exact SeqAt.RcAt.none_tuple hm hu
 | bl b=>
  cases hy with
  | non=>exact SeqAt.RcAt.bool_none _
  | bl b2=>exact SeqAt.RcAt.bool_bool _ _
  | int i2 t2=>exact SeqAt.RcAt.bool_int _ _ _
  | str x2 t2=>exact SeqAt.RcAt.bool_str _ _ _
  | @lst m its2 vs2 cO hm rm pm=>exact SeqAt.RcAt.bool_list _ hm hu
  | @tup m its2 vs2 cO hm rm pm=>exact SeqAt.RcAt.bool_tuple _ hm hu
 | int i t=>
  cases hy with
  | non=>exact SeqAt.RcAt.int_none _ _
  | bl b2=>exact SeqAt.RcAt.int_bool _ _ _
  | int i2 t2=>exact SeqAt.RcAt.int_int _ _ _ _
  | str x2 t2=>exact SeqAt.RcAt.int_str _ _ _ _
  | @lst m its2 vs2 cO hm rm pm=>exact SeqAt.RcAt.int_list _ _ hm hu
  | @tup m its2 vs2 cO hm rm pm=>exact SeqAt.RcAt.int_tuple _ _ hm hu
 | str x t=>
  cases hy with
  | non=>exact SeqAt.RcAt.str_none _ _
  | bl b2=>exact SeqAt.RcAt.str_bool _ _ _
  | int i2 t2=>exact SeqAt.RcAt.str_int _ _ _ _
  | str x2 t2=>exact SeqAt.RcAt.str_str _ _ _ _
  | @lst m its2 vs2 cO hm rm pm=>exact SeqAt.RcAt.str_list _ _ hm hu
  | @tup m its2 vs2 cO hm rm pm=>exact SeqAt.RcAt.str_tuple _ _ hm hu
 | @lst l its vs ds hl rl pl=>
  cases hy with
  | non=>exact SeqAt.RcAt.list_none hl hu
  | bl b2=>exact SeqAt.RcAt.list_bool _ hl hu
  | int i2 t2=>exact SeqAt.RcAt.list_int _ _ hl hu
  | str x2 t2=>exact SeqAt.RcAt.list_str _ _ hl hu
  | @lst m its2 vs2 cO hm rm pm=>
   have n1:=rl.length;have n2:=rm.length;have k1:=pl.2.length;have k2:=pm.2.length;simp only[dJ]
   by_cases hsz:ds.length=cO.length
   ·rw[← jP hsz]
    have:=SeqAt.RcAt.lists hl hm (by simp only[List.size_toArray];omega) hu (eZ I (e_ I n) (by simpa[aH] using ox) (by simpa[aH] using oy) hn rl rm pl.2 pm.2)
    rw[show its.toArray.size=ds.length by simp only[List.size_toArray];omega]at this
    exact this
   ·rw[mB hsz]
    exact SeqAt.RcAt.lists_lengths hl hm (by simp only[List.size_toArray,bne_iff_ne];omega) hu
  | @tup m its2 vs2 cO hm rm pm=>exact SeqAt.RcAt.list_tuple hl hm hu
 | @tup l its vs ds hl rl pl=>
  cases hy with
  | non=>exact SeqAt.RcAt.tuple_none hl hu
  | bl b2=>exact SeqAt.RcAt.tuple_bool _ hl hu
  | int i2 t2=>exact SeqAt.RcAt.tuple_int _ _ hl hu
  | str x2 t2=>exact SeqAt.RcAt.tuple_str _ _ hl hu
  | @lst m its2 vs2 cO hm rm pm=>exact SeqAt.RcAt.tuple_list hl hm hu
  | @tup m its2 vs2 cO hm rm pm=>
   have n1:=rl.length;have n2:=rm.length;have k1:=pl.2.length;have k2:=pm.2.length;simp only[dJ];rw[← dc ds cO];have:=SeqAt.RcAt.tuples hl hm hu (eZ I (e_ I n) (by simpa[aH] using ox) (by simpa[aH] using oy) hn rl rm pl.2 pm.2)
   rw[show its.toArray.size=ds.length by simp only[List.size_toArray];omega,show its2.toArray.size=cO.length by simp only[List.size_toArray];omega]at this
   exact this
theorem pX(I:Inv X pins σ H s){n:Nat}{dx dy:D}{u w:Value}(hn:A.units + (n + 1) < cLine)(ox:aH (n + 1) dx=true)(oy:aH (n + 1) dy=true)(hx:Vw s Z H dx u)(hy:Vw s Z H dy w):SeqAt.RcNeAt A s u w (!dJ dx dy):=by
 have hu:A.units < cLine:=by omega
 cases hx with
 | non=>
  cases hy with
  | non=>exact SeqAt.RcNeAt.none_none
  | bl b2=>exact SeqAt.RcNeAt.none_bool _
  | int i2 t2=>exact SeqAt.RcNeAt.none_int _ _
  | str x2 t2=>exact SeqAt.RcNeAt.none_str _ _
  | @lst m its2 vs2 cO hm rm pm=>exact SeqAt.RcNeAt.none_list hm hu
  | @tup m its2 vs2 cO hm rm pm=>exact SeqAt.RcNeAt.none_tuple hm hu
 | bl b=>
  cases hy with
  | non=>exact SeqAt.RcNeAt.bool_none _
  | bl b2=>exact SeqAt.RcNeAt.bool_bool _ _
  | int i2 t2=>exact SeqAt.RcNeAt.bool_int _ _ _
  | str x2 t2=>exact SeqAt.RcNeAt.bool_str _ _ _
  | @lst m its2 vs2 cO hm rm pm=>exact SeqAt.RcNeAt.bool_list _ hm hu
  | @tup m its2 vs2 cO hm rm pm=>exact SeqAt.RcNeAt.bool_tuple _ hm hu
 | int i t=>
  cases hy with
  | non=>exact SeqAt.RcNeAt.int_none _ _
  | bl b2=>exact SeqAt.RcNeAt.int_bool _ _ _
  | int i2 t2=>exact SeqAt.RcNeAt.int_int _ _ _ _
  | str x2 t2=>exact SeqAt.RcNeAt.int_str _ _ _ _
  | @lst m its2 vs2 cO hm rm pm=>exact SeqAt.RcNeAt.int_list _ _ hm hu
  | @tup m its2 vs2 cO hm rm pm=>exact SeqAt.RcNeAt.int_tuple _ _ hm hu
 | str x t=>
  cases hy with
  | non=>exact SeqAt.RcNeAt.str_none _ _
  | bl b2=>exact SeqAt.RcNeAt.str_bool _ _ _
  | int i2 t2=>exact SeqAt.RcNeAt.str_int _ _ _ _
  | str x2 t2=>exact SeqAt.RcNeAt.str_str _ _ _ _
  | @lst m its2 vs2 cO hm rm pm=>exact SeqAt.RcNeAt.str_list _ _ hm hu
  | @tup m its2 vs2 cO hm rm pm=>exact SeqAt.RcNeAt.str_tuple _ _ hm hu
 | @lst l its vs ds hl rl pl=>
  cases hy with
  | non=>exact SeqAt.RcNeAt.list_none hl hu
  | bl b2=>exact SeqAt.RcNeAt.list_bool _ hl hu
  | int i2 t2=>exact SeqAt.RcNeAt.list_int _ _ hl hu
  | str x2 t2=>exact SeqAt.RcNeAt.list_str _ _ hl hu
  | @lst m its2 vs2 cO hm rm pm=>
   have n1:=rl.length;have n2:=rm.length;have k1:=pl.2.length;have k2:=pm.2.length;simp only[dJ]
   by_cases hsz:ds.length=cO.length
   ·rw[← jP hsz]
    have:=SeqAt.RcNeAt.lists hl hm (by simp only[List.size_toArray];omega) hu (eZ I (e_ I n) (by simpa[aH] using ox) (by simpa[aH] using oy) hn rl rm pl.2 pm.2)
    rw[show its.toArray.size=ds.length by simp only[List.size_toArray];omega]at this
    exact this
   ·rw[mB hsz]
    exact SeqAt.RcNeAt.lists_lengths hl hm (by simp only[List.size_toArray,bne_iff_ne];omega) hu
  | @tup m its2 vs2 cO hm rm pm=>exact SeqAt.RcNeAt.list_tuple hl hm hu
 | @tup l its vs ds hl rl pl=>
  cases hy with
  | non=>exact SeqAt.RcNeAt.tuple_none hl hu
  | bl b2=>exact SeqAt.RcNeAt.tuple_bool _ hl hu
  | int i2 t2=>exact SeqAt.RcNeAt.tuple_int _ _ hl hu
  | str x2 t2=>exact SeqAt.RcNeAt.tuple_str _ _ hl hu
  | @lst m its2 vs2 cO hm rm pm=>exact SeqAt.RcNeAt.tuple_list hl hm hu
  | @tup m its2 vs2 cO hm rm pm=>
   have n1:=rl.length;have n2:=rm.length;have k1:=pl.2.length;have k2:=pm.2.length;simp only[dJ];rw[← dc ds cO];have:=SeqAt.RcNeAt.tuples hl hm hu (eZ I (e_ I n) (by simpa[aH] using ox) (by simpa[aH] using oy) hn rl rm pl.2 pm.2)
   rw[show its.toArray.size=ds.length by simp only[List.size_toArray];omega,show its2.toArray.size=cO.length by simp only[List.size_toArray];omega]at this
   exact this
end
end Mir
namespace Mir
open PySem PySem.Spec PyProof.Rows L2
theorem Vw.uniq{s:Shared}{Z:Addr->Prop}{H:Hp}{n:Nat}{d d':D}{u:Value}(h:Vw s Z H d u)(h':Vw s Z H d' u)(o:aH n d=true)(o':aH n d'=true):d=d':=by
 cases h with
 | non=>cases h';rfl
 | bl b=>cases h';rfl
 | int i t=>cases h';rfl
 | str x t=>cases h';rfl
 | @lst l its vs ds hl rl pl=>
  cases h' with
  | @lst _ its2 vs2 cO hm rm pm=>
   cases pV pl.1 pm.1;cases n with
   | zero=>simp[aH]at o
   | succ n=>rw[aR.uniq n ds cO vs (by simpa[aH] using o) (by simpa[aH] using o') pl.2 pm.2]
  | @tup _ its2 vs2 cO hm rm pm=>exact(rj pl.1 pm.1).elim
 | @tup l its vs ds hl rl pl=>
  cases h' with
  | @tup _ its2 vs2 cO hm rm pm=>
   cases pW pl.1 pm.1;cases n with
   | zero=>simp[aH]at o
   | succ n=>rw[aR.uniq n ds cO vs (by simpa[aH] using o) (by simpa[aH] using o') pl.2 pm.2]
  | @lst _ its2 vs2 cO hm rm pm=>exact(rj pm.1 pl.1).elim
section
variable{X:Cx}{pins:List (Addr×Obj)}{σ:L2.St}{Z:Addr->Prop}{H:Hp}{s:Shared}
def jc(s:Shared)(Z:Addr->Prop)(H:Hp)(dx:D)(u:Value):Bool:=@decide (∃ d,aH 8 d=true/\Vw s Z H d u/\dJ d dx=true) (Classical.propDecidable _)
theorem rk{dx d:D}{u:Value}(o:aH 8 d=true)(h:Vw s Z H d u):jc s Z H dx u=dJ d dx:=by
 unfold jc;cases e:dJ d dx with
 | true=>exact @decide_eq_true _ (Classical.propDecidable _) ⟨d,o,h,e⟩
 | false=>
  refine @decide_eq_false _ (Classical.propDecidable _) ?_;rintro⟨d',o',h',e'⟩;rw[Vw.uniq h' h o' o,e]at e';cases e'
theorem jQ(I:Inv X pins σ H s){dx:D}:∀ {ds:List D} {vs:List V} {its:List Value},aR Z H ds vs->Vals vs its->(∀ d∈ds,aH 8 d=true)->its.any (jc s Z H dx)=ds.any fun d=>dJ d dx
 | [],_,_,h,r,_=>by rw[h.nil_inv]at r;cases r;rfl
 | d::ds,_,_,h,r,o=>by
  obtain⟨v,vr,rfl,h1,h2⟩:=h.cons_inv;cases r with
  | cons r1 r2=>
   rw[List.any_cons,List.any_cons,jQ I h2 r2 fun z hz=>o z (by simp[hz]),rk (o d (by simp)) (fE I h1.now r1 (o d (by simp)))]
theorem jR(I:Inv X pins σ H s){A:Around}{dx:D}{w:Value}(hu:A.units + 8 < cLine)(ox:aH 8 dx=true)(hx:Vw s Z H dx w) :
  ∀ {ds:List D} {vs:List V} {its:List Value},aR Z H ds vs->Vals vs its->(∀ d∈ds,aH 8 d=true)->∀ u∈its,SeqAt.EqAt A s u w (jc s Z H dx u)
 | [],_,_,h,r,_,u,hm=>by rw[h.nil_inv]at r;cases r;simp at hm
 | d::ds,_,_,h,r,o,u,hm=>by
  obtain⟨v,vr,rfl,h1,h2⟩:=h.cons_inv;cases r with
  | cons r1 r2=>
   rcases List.mem_cons.mp hm with e | hm
   ·subst e
    have vw:=fE I h1.now r1 (o d (by simp))
    rw[rk (o d (by simp)) vw]
    exact e_ I 8 A d dx _ w hu (o d (by simp)) ox vw hx
   ·exact jR I hu ox hx h2 r2 (fun z hz=>o z (by simp[hz])) u hm
end
section
variable{X:Cx}{Γ:kX}{bw:Bool}{a b e:Expr}{ca cb cc c:Ex}{pos:Pos}
def vo(op:CmpOp):R2:=fun x y H Q=>∃ Z dx dy k,Now Z H dx x/\Now Z H dy y/\dY op dx dy=.ok k/\Q (.bl k) H
theorem oj{Z:Addr->Prop}{H:Hp}{ks:List L2.Key}{ds:List D}{x:V}(h:Now Z H (.dct ks ds) x):∃ a,x=.ref a:=by
 have h:Rep Z H (.dct ks ds) x:=h;simp only[Rep]at h;obtain⟨a,_,e,_⟩:=h;exact⟨a,e⟩
theorem AK{Z:Addr->Prop}{H:Hp}{dx dy:D}{x y:V}{k:Bool}{u v:Value}(nx:Now Z H dx x)(ny:Now Z H dy y)(rx:RelV x u)(ry:RelV y v)(h:isD dx dy=.ok k):plainIs u v=true/\(u == v)=k:=by
 have yD:∀ {ds:List D} {x:V} {u:Value},Now Z H (.lst ds) x->RelV x u->∃ a,u=.ref a:=fun n r=>by
  obtain⟨a,_,rfl,_⟩:=cz n;exact⟨a,r⟩
 have EZ:∀ {ds:List D} {x:V} {u:Value},Now Z H (.tup ds) x->RelV x u->∃ a,u=.ref a:=fun n r=>by
  obtain⟨a,_,rfl,_⟩:=fu n;exact⟨a,r⟩
 cases dy with
 | non=>
  cases ft ny;cases ry;cases dx with
  | non=>cases ft nx;cases rx;cases h;exact⟨rfl,rfl⟩
  | bl b=>cases fT nx;cases rx;cases h;exact⟨rfl,rfl⟩
  | int i=>cases aZ nx;obtain⟨t,rfl⟩:=rx;cases h;exact⟨rfl,rfl⟩
  | str i=>cases cD nx;obtain⟨t,rfl⟩:=rx;cases h;exact⟨rfl,rfl⟩
  | lst ds=>obtain⟨a,rfl⟩:=yD nx rx;cases h;exact⟨rfl,rfl⟩
  | tup ds=>obtain⟨a,rfl⟩:=EZ nx rx;cases h;exact⟨rfl,rfl⟩
  | dct ks ds=>obtain⟨a,rfl⟩:=oj nx;cases rx;cases h;exact⟨rfl,rfl⟩
  | ref n=>exact(show False by simpa only [Now,Rep] using nx).elim
 | bl c=>
  cases fT ny;cases ry;cases dx with
  | non=>cases ft nx;cases rx;cases h;exact⟨rfl,rfl⟩
  | bl b=>cases fT nx;cases rx;cases h;exact⟨rfl,by cases b<;>cases c<;>rfl⟩
  | int i=>cases aZ nx;obtain⟨t,rfl⟩:=rx;cases h;exact⟨rfl,rfl⟩
  | str i=>cases cD nx;obtain⟨t,rfl⟩:=rx;cases h;exact⟨rfl,rfl⟩
  | lst ds=>obtain⟨a,rfl⟩:=yD nx rx;cases h;exact⟨rfl,rfl⟩
  | tup ds=>obtain⟨a,rfl⟩:=EZ nx rx;cases h;exact⟨rfl,rfl⟩
  | dct ks ds=>cases h
  | ref n=>cases h
 | int _=>cases dx<;>cases h
 | str _=>cases dx<;>cases h
 | lst _=>cases dx<;>cases h
 | tup _=>cases dx<;>cases h
 | dct _ _=>cases dx<;>cases h
 | ref _=>cases dx<;>cases h
theorem AL{pins:List (Addr×Obj)}{s:Shared}{σ:L2.St}{H:Hp}{x y:V}{u v:Value}{Q:VK}(hu:X.A.units + 64 < cLine)(I:Inv X pins σ H s)(rx:RelV x u)(ry:RelV y v)
  {Z:Addr->Prop} {dx dy:D} {k:Bool} (nx:Now Z H dx x) (ny:Now Z H dy y) (e:inD dx dy=.ok k) :
  (Q (.bl k) H->wpAny (model X.prog X.w) X.A (compareOp .In u v) (EP X pins σ Q) X.xe s)/\(Q (.bl !k) H->wpAny (model X.prog X.w) X.A (compareOp .NotIn u v) (EP X pins σ Q) X.xe s):=by
 unfold inD at e;split at e
 ·rename_i ys
  split at e
  ·rename_i hc
   cases e;simp only[Bool.and_eq_true]at hc;obtain⟨ox,os⟩:=hc;have os:=List.all_eq_true.mp os;obtain⟨l,vs,rfl,h1,h2⟩:=cz ny;cases ry;obtain⟨its,rv,p,hz⟩:=I.list (jb (K:=X.K) h1);have vw:=fE I nx rx ox;have hm:∀ w,w∈its.toArray->SeqAt.EqAt X.A.in1 s w u (jc s Z H dx w):=fun w hw=>jR I (A:=X.A.in1) (by show X.A.units + 1 + 8 < cLine;omega) ox vw h2 rv os w (by simpa using hw)
   have ea:its.toArray.any (jc s Z H dx)=ys.any fun y=>dJ y dx:=by
    rw[← jQ I h2 rv os];simp
   exact⟨fun q=>SeqAt.in_listAt (jc s Z H dx) p.isList hm ⟨.bl _,H,I,rfl,by rw[ea];exact q⟩,fun q=>SeqAt.notIn_listAt (jc s Z H dx) p.isList hm ⟨.bl _,H,I,rfl,by rw[ea];exact q⟩⟩
  ·cases e
 ·rename_i ys
  split at e
  ·rename_i hc
   cases e;simp only[Bool.and_eq_true]at hc;obtain⟨ox,os⟩:=hc;have os:=List.all_eq_true.mp os;obtain⟨l,vs,rfl,_,h1,h2⟩:=fu ny;cases ry;obtain⟨its,rv,p,hz⟩:=I.tuple (tD (K:=X.K) h1);have vw:=fE I nx rx ox;have hm:∀ w,w∈its.toArray->SeqAt.EqAt X.A.in1 s w u (jc s Z H dx w):=fun w hw=>jR I (A:=X.A.in1) (by show X.A.units + 1 + 8 < cLine;omega) ox vw h2 rv os w (by simpa using hw)
   have ea:its.toArray.any (jc s Z H dx)=ys.any fun y=>dJ y dx:=by
    rw[← jQ I h2 rv os];simp
   exact⟨fun q=>SeqAt.in_tupleAt (jc s Z H dx) p hm ⟨.bl _,H,I,rfl,by rw[ea];exact q⟩,fun q=>SeqAt.notIn_tupleAt (jc s Z H dx) p hm ⟨.bl _,H,I,rfl,by rw[ea];exact q⟩⟩
  ·cases e
 ·cases e
  cases cD nx;cases cD ny;exact⟨fun q=>sW pins s σ H _ _ u v Q I rx ry ⟨_,_,rfl,rfl,q⟩,fun q=>l6 pins s σ H _ _ u v Q I rx ry ⟨_,_,rfl,rfl,q⟩⟩
 ·cases e
theorem iG(hu:X.A.units + 64 < cLine)(op:CmpOp):fJ X (compareOp op) (vo op):=by
 intro pins s σ H x y u v Q I rx ry h;obtain⟨Z,dx,dy,k,nx,ny,e,q⟩:=h;have fin:EP X pins σ Q (.bool k) s:=⟨.bl k,H,I,rfl,q⟩
 have intc:∀ {i j:Int} {o:CmpOp} {g:Int->Int->Bool},fJ X (compareOp o) (ya fun i j=>.bl (g i j))->dx=.int i->dy=.int j->k=g i j->wpAny (model X.prog X.w) X.A (compareOp o u v) (EP X pins σ Q) X.xe s:=by
  intro i j o g h1 e1 e2 e3;subst e1 e2 e3;cases aZ nx;cases aZ ny;exact h1 pins s σ H _ _ u v Q I rx ry ⟨_,_,rfl,rfl,q⟩
 cases op with
 | Eq=>
  unfold dY at e;dsimp only at e;split at e
  ·rename_i hc
   cases e;simp only[Bool.and_eq_true]at hc;exact vn I (n:=7) (by omega) hc.1 hc.2 (fE I nx rx hc.1) (fE I ny ry hc.2) X.prog X.w X.xe _ fin
  ·cases e
 | NotEq=>
  unfold dY at e;dsimp only at e;split at e
  ·rename_i hc
   cases e;simp only[Bool.and_eq_true]at hc;exact pX I (n:=7) (by omega) hc.1 hc.2 (fE I nx rx hc.1) (fE I ny ry hc.2) X.prog X.w X.xe _ fin
  ·cases e
 | Lt=>cases dx<;>cases dy<;>first | (cases e;exact intc Et rfl rfl rfl) | cases e
 | LtE=>cases dx<;>cases dy<;>first | (cases e;exact intc Eu rfl rfl rfl) | cases e
 | Gt=>cases dx<;>cases dy<;>first | (cases e;exact intc Ew rfl rfl rfl) | cases e
 | GtE=>cases dx<;>cases dy<;>first | (cases e;exact intc Ey rfl rfl rfl) | cases e
 | In=>
  have e:inD dx dy=.ok k:=by cases dx<;>cases dy<;>exact e
  exact(AL hu I rx ry nx ny e).1 q
 | NotIn=>
  have e:(do let b ← inD dx dy;Out.ok (!b))=.ok k:=by cases dx<;>cases dy<;>exact e
  obtain⟨b,e1,e2⟩:=jO e;cases e2;exact(AL hu I rx ry nx ny e1).2 q
 | Is=>
  have e:isD dx dy=.ok k:=by cases dx<;>cases dy<;>exact e
  obtain⟨h1,h2⟩:=AK nx ny rx ry e;exact wpAny_is_plain h1 (by rw[h2];exact fin)
 | IsNot=>
  have e:(do let b ← isD dx dy;Out.ok (!b))=.ok k:=by cases dx<;>cases dy<;>exact e
  obtain⟨b,e1,e2⟩:=jO e;cases e2;obtain⟨h1,h2⟩:=AK nx ny rx ry e1;exact wpAny_isNot_plain h1 (by rw[h2];exact fin)
theorem BP{op:CmpOp}{dx dy:D}{x y:V}{Z:Addr->Prop}{H:Hp}{own:Bool}{d:D}{Q:VK}(nx:Now Z H dx x)(ny:Now Z H dy y)(dom:∀ a,Z a->H a≠none)
  (ee:(do let r ← dY op dx dy;Out.ok (false,D.bl r))=.ok (own,d)) (k:∀ v H' Z',dO Z H Z' H'->du bw own Z' H H' d v->Q v H'):vo op x y H Q:=by
 obtain⟨r,e1,e2⟩:=jO ee;cases e2;exact⟨Z,dx,dy,r,nx,ny,e1,k _ H Z (dO.refl dom) (.rep (dZ rfl))⟩
end
theorem PT.imp{X:Cx}{e:Expr}{t t':TT}(h:PT X e t)(i:∀ σ H Q,t' σ H Q->t σ H Q):PT X e t':=fun pins s σ H Q I q=>h pins s σ H Q I (i σ H Q q)
theorem PW.imp{X:Cx}{e:Expr}{t t':TT}(h:PW X e t)(i:∀ σ H Q,t' σ H Q->t σ H Q):PW X e t':=fun wh pins s σ H Q I q=>h wh pins s σ H Q I (i σ H Q q)
section
variable{X:Cx}{Γ:kX}{bw:Bool}{a b e:Expr}{ca cb cc c:Ex}{pos:Pos}
theorem BQ{Z:Addr->Prop}{H:Hp}{d:D}{x:V}{t:Bool}{K:PySem.W.Frag}(n:Now Z H d x)(h:ja d=some t):nU K x H t:=by
 cases d with
 | non=>cases ft n;cases h;rfl
 | bl b=>cases fT n;cases h;rfl
 | int b=>cases aZ n;cases h;rfl
 | str b=>
  cases cD n;simp only[ja]at h;split at h
  ·rename_i hs
   cases h;refine⟨bC hs,?_⟩
   have e:((b.length:Int) != 0)=(b.length != 0):=by
    rw[Bool.eq_iff_iff];simp only[bne_iff_ne,ne_eq];omega
   rw[e]
  ·cases h
 | lst ds=>
  obtain⟨a,vs,rfl,h1,h2⟩:=cz n;cases h;refine .inl ⟨vs,jb h1,?_⟩;have:=h2.length;cases ds<;>cases vs<;>simp at this ⊢
 | tup ds=>
  obtain⟨a,vs,rfl,_,h1,h2⟩:=fu n;cases h;refine .inr (.inl ⟨vs,tD h1,?_⟩);have:=h2.length;cases ds<;>cases vs<;>simp at this ⊢
 | dct ks ds=>cases h
 | ref k=>cases h
end
def pY(Z:Addr->Prop)(H:Hp):List D->List V->Prop
 | [],vs=>vs=[]
 | d::ds,vs=>∃ v r,vs=v::r/\Now Z H d v/\pY Z H ds r
section
variable{Z Z':Addr->Prop}{H H':Hp}
theorem pY.one{d:D}{xs:List V}(h:pY Z H [d] xs):∃ x,xs=[x]/\Now Z H d x:=by
 obtain⟨v,r,e,h1,h2⟩:=h;exact⟨v,by rw[e,show r=[] from h2],h1⟩
theorem pY.two{d d':D}{xs:List V}(h:pY Z H [d,d'] xs):∃ x y,xs=[x,y]/\Now Z H d x/\Now Z H d' y:=by
 obtain⟨v,r,e,h1,v',r',e',h2,h3⟩:=h;exact⟨v,v',by rw[e,e',show r'=[] from h3],h1,h2⟩
end
def Args(bw:Bool)(Z:Addr->Prop)(H:Hp)(ds:List D)(vs:List V):Prop:=if bw=true then pY Z H ds vs else aR Z H ds vs
theorem PA.imp{X:Cx}{e:List Expr}{t t':TA}(h:PA X e t)(i:∀ σ H Q,t' σ H Q->t σ H Q):PA X e t':=fun pos pins s σ H Q I q=>h pos pins s σ H Q I (i σ H Q q)
section
variable{X:Cx}{Γ:kX}{bw:Bool}{a b e:Expr}{es:List Expr}{ca cb cc c cs:Ex}{pos p:Pos}
theorem vp{Z:Addr->Prop}{H:Hp}{ds:List D}{vs:List V}{i:Int}{d:D}(h:aR Z H ds vs)(e:iD ds i=some d):∃ v,iD vs i=some v/\Rep Z H d v:=by
 unfold iD at e ⊢;rw[h.length];cases q:pN ds.length i with
 | none=>rw[q]at e;cases e
 | some j=>
  rw[q]at e;exact h.get e
theorem BR{dx dy:D}{x y:V}{Z:Addr->Prop}{H:Hp}{own:Bool}{d:D}{Q:VK}{K:PySem.W.Frag}(nx:Now Z H dx x)(ny:Now Z H dy y)(dom:∀ a,Z a->H a≠none)(ee:pU dx dy=.ok (own,d))
  (k:∀ v H' Z',dO Z H Z' H'->du bw own Z' H H' d v->Q v H'):EH K x y H Q:=by
 unfold pU at ee;split at ee
 ·obtain⟨l,xs,rfl,h1,h2⟩:=cz nx
  cases aZ ny;split at ee
  ·rename_i d' hd
   cases ee;obtain⟨v,hv,rv⟩:=vp h2 hd;exact .inl ⟨l,xs,_,v,rfl,rfl,jb h1,hv,k v H Z (dO.refl dom) (.rep rv)⟩
  ·cases ee
 ·obtain⟨l,xs,rfl,_,h1,h2⟩:=fu nx
  cases aZ ny;split at ee
  ·rename_i d' hd
   cases ee;obtain⟨v,hv,rv⟩:=vp h2 hd;exact .inr (.inl ⟨l,xs,_,v,rfl,rfl,tD h1,hv,k v H Z (dO.refl dom) (.rep rv)⟩)
  ·cases ee
 ·cases cD nx
  cases aZ ny;split at ee
  ·rename_i hs
   split at ee
   ·rename_i c' hd
    cases ee;exact .inr (.inr ⟨_,_,c',rfl,rfl,bC hs,hd,k _ H Z (dO.refl dom) (.rep (dZ rfl))⟩)
   ·cases ee
  ·cases ee
 ·cases ee
theorem vq{α:Type}(xs:List α)(lo hi:Option Int):(cQ xs lo hi).length<=xs.length:=by
 unfold cQ;rw[List.length_take,List.length_drop];omega
theorem rn(n d:Nat)(v:Int):max 0 (min (if v < 0 then v + (n:Int) else v) (n:Int))=((HT.ck n d (some v):Nat):Int):=by
 show max 0 (min (if v < 0 then v + (n:Int) else v) (n:Int))=(((if v < 0 then (v + (n:Int)).toNat else min v.toNat n):Nat):Int)
 by_cases hv:v < 0
 ·simp only[if_pos hv];omega
 ·simp only[if_neg hv];omega
theorem vt{a b:Int}{p q:Nat}(ha:a=p)(hb:b=q):sliceRange a b 1=(List.range (q - p)).map fun k=>p + k:=by
 subst ha hb;unfold sliceRange;simp only[show((1:Int) > 0)=True from by simp,if_true]
 by_cases hlt:(p:Int) < q
 ·rw[if_pos hlt]
  have e3:(((q:Int) - p + 1 - 1) / 1).toNat=q - p:=by first | omega | (simp;done) | (simp;omega)
  rw[e3];refine List.map_congr_left fun k _ => ?_
  omega
 ·rw[if_neg hlt]
  have:q - p=0:=by omega
  rw[this];rfl
theorem jS(lo hi:Option Int)(n:Nat):Builtin.Str.strSliceIndices lo hi 1 n=(List.range (HT.ck n n hi - HT.ck n 0 lo)).map fun k=>HT.ck n 0 lo + k:=by
 unfold Builtin.Str.strSliceIndices;simp only[show((1:Int) > 0)=True from by simp,if_true]
 refine vt ?_ ?_
 ·cases lo with
  | none=>rfl
  | some v=>exact rn n 0 v
 ·cases hi with
  | none=>rfl
  | some v=>exact rn n n v
theorem tE:∀ (n a:Nat) (l:List Nat),a + n<=l.length->((List.range n).map fun k=>a + k).filterMap (fun i=>l[i]?)=(l.drop a).take n:=by
 intro n
 induction n with
 | zero=>intro a l _;simp
 | succ n ih=>
  intro a l h;have hlt:a + n < l.length:=by omega
  rw[List.range_succ,List.map_append,List.filterMap_append,ih a l (by omega),List.take_add_one,List.getElem?_drop]
  simp[List.getElem?_eq_getElem hlt]
theorem vv(x:Str)(lo hi:Option Int):(Builtin.Str.strSliceIndices lo hi 1 x.length).filterMap (x.cps[·]?)=cQ x.cps.toList lo hi:=by
 have hn:x.cps.toList.length=x.length:=by simp[Str.length]
 have l1:=HT.l9 x.length 0 (Nat.zero_le _) lo;have l2:=HT.l9 x.length x.length (Nat.le_refl _) hi;rw[jS];unfold cQ;rw[hn];generalize HT.ck x.length 0 lo=p at *;generalize HT.ck x.length x.length hi=q at *
 by_cases SW:p<=q
 ·have:=tE (q - p) p x.cps.toList (by rw[hn];omega)
  simpa using this
 ·have:q - p=0:=by omega
  rw[this];simp
def E4:V->Option Int->Option Int->Hp->VK->Prop:=fun x lo hi H Q=>∃ z,x=.str z/\z.length<=sizeLine/\Q (.str ⟨(cQ z.cps.toList lo hi).toArray⟩) H
theorem jT:yi X E4:=by
 intro pins s σ H x v vl vu lo hi sl Q I rx hs pl pu h;obtain⟨z,rfl,hz,q⟩:=h;obtain⟨t,rfl⟩:=rx;refine⟨"str",_,F.slot_str_getitem.lookup,typeIs_str _ _ _,?_⟩
 have part:∀ {w:Value} {o:Option Int},IsPart w o->∃ p:Option (Int×Tok),w=partValue p/\p.map (·.1)=o:=fun h=>by
  cases h with
  | none=>exact⟨none,rfl,rfl⟩
  | int i t=>exact⟨some (i,t),rfl,rfl⟩
 obtain⟨p1,e1,m1⟩:=part pl;obtain⟨p2,e2,m2⟩:=part pu;subst e1 e2;refine wpAny_getItem_str_slice (l:=p1) (u:=p2) (st:=none) hs rfl ?_
 have ep:(slicePicked z p1 p2 none).filterMap (z.cps[·]?)=cQ z.cps.toList lo hi:=by
  unfold slicePicked;rw[m1,m2];exact vv z lo hi
 have hl:(cQ z.cps.toList lo hi).length<=z.length:=by
  have:=vq z.cps.toList lo hi;simpa[Str.length] using this
 unfold sliceMade;split
 ·rename_i hc
  have hw:(slicePicked z p1 p2 none).length=z.length:=by
   simp only[Bool.and_eq_true,beq_iff_eq]at hc;exact hc.2
  have ez:(⟨(cQ z.cps.toList lo hi).toArray⟩:Str)=z:=by
   unfold slicePicked at hw;rw[m1,m2]at hw;have hw:(Builtin.Str.strSliceIndices lo hi 1 z.length).length=z.length:=hw;rw[jS,List.length_map,List.length_range]at hw;have l2:=HT.l9 z.length z.length (Nat.le_refl _) hi;have hn:z.cps.toList.length=z.length:=by simp[Str.length]
   have ec:cQ z.cps.toList lo hi=z.cps.toList:=by
    unfold cQ;rw[hn]
    by_cases h0:z.length=0
    ·have:z.cps.toList=[]:=List.eq_nil_of_length_eq_zero (by rw[hn];exact h0)
     rw[this];simp
    ·have p0:HT.ck z.length 0 lo=0:=by omega
     rw[p0,List.drop_zero,List.take_of_length_le (by rw[hn];omega)]
   rw[ec]
  refine⟨.str z,H,I,⟨t,rfl⟩,?_⟩;rw[ez]at q;exact q
 ·rw[ep]
  refine⟨?_,.str _,H,I.tok _,⟨_,rfl⟩,q⟩
  show(cQ z.cps.toList lo hi).toArray.size<=sizeLine
  rw[List.size_toArray];omega
def Qd(K:PySem.W.Frag):V->Option Int->Option Int->Hp->VK->Prop:=fun x lo hi H Q=>EJ K x lo hi H Q\/E4 x lo hi H Q
end
noncomputable def jU(F:List D->Out Rs):Sp:=fun vs H Q _=>
 ∃ Z ds own d,(∀ a,Z a->H a≠none)/\aR Z H ds vs/\F ds=.ok (own,d)/\∀ v H' Z',dO Z H Z' H'->du false own Z' H H' d v->Q v H'
theorem du.weak{bw own:Bool}{Z:Addr->Prop}{Hb H:Hp}{d:D}{v:V}(h:du false own Z Hb H d v):du bw own Z Hb H d v:=by
 unfold du at h ⊢;split
 ·rename_i ho;rw[if_pos ho]at h;exact h
 ·rename_i ho;rw[if_neg ho,if_neg Bool.false_ne_true]at h
  split
  ·exact h.now
  ·exact h
section
variable{X:Cx}{Γ:kX}{bw:Bool}{a b e:Expr}{es:List Expr}{ca cb cc c cs:Ex}{pos p:Pos}
structure E5(X:Cx)(k:Nat)(x:Str)(F:List D->Out Rs):Prop where
 ex:∃ (f:Addr) (fd:FuncData) (ps:List Str),X.mg x=some (.ref f)/\PySem.W.keepIn X.K (.ref f)=true/\Binds X.K fd ps []/\bO X.prog X.w X.K X.mg X.base dW k f fd ps (jU F)
inductive d0 (h:Heap):Value->Bool->Prop where
 | non:d0 h .none false
 | bl (b:Bool):d0 h (.bool b) b
 | int (i:Int) (t:Tok):d0 h (.int i t) (i != 0)
 | str (x:Str) (t:Tok):x.length<=sizeLine->d0 h (.str x t) ((x.length:Int) != 0)
 | lst {l:Addr} {its:Array Value}:h.IsList l its->its.size<=sizeLine->d0 h (.ref l) (!its.isEmpty)
 | tup {l:Addr} {its:Array Value}:IsTup h l its->its.size<=sizeLine->d0 h (.ref l) (!its.isEmpty)
theorem d0.keep{h h':Heap}{u:Value}{t:Bool}(k:∀ b o,(u=.ref b)->h.get? b=some o->h'.get? b=some o)(x:d0 h u t):d0 h' u t:=by
 cases x with
 | non=>exact .non
 | bl=>exact .bl _
 | int i t=>exact .int i t
 | str x t z=>exact .str x t z
 | lst q z=>obtain⟨o,h1,h2⟩:=q;exact .lst ⟨o,k _ o rfl h1,h2⟩ z
 | tup q z=>obtain⟨o,h1,h2⟩:=q;exact .tup ⟨o,k _ o rfl h1,h2⟩ z
theorem d0.run{prog:Program}{w:World}{A:Around}{E:Value->Shared->Prop}{s:Shared}{u:Value}{t:Bool}{Q:Bool->Shared->Prop}(x:d0 s.heap u t)(q:∀ tk,Q t { s with toks:=tk }):wpAny (model prog w) A (truthy u) Q E s:=by
 have hl:=gQ;cases x with
 | non=>exact truthy_none (q s.toks)
 | bl=>exact wpAny_truthy_bool (q s.toks)
 | int i t=>exact PySem.P.truthy_int (q s.toks)
 | str x t z=>exact PySem.P.truthy_str (by omega) (q _)
 | lst h z=>exact wpAny_truthy_list h (by omega) (q _)
 | tup h z=>exact truthy_tuple h (by omega) (q _)
theorem vx{pins:List (Addr×Obj)}{σ:L2.St}{H:Hp}{s:Shared}{Z:Addr->Prop}{d:D}{v:V}{u:Value}{t:Bool}(I:Inv X pins σ H s)(n:Now Z H d v)(r:RelV v u)(h:ja d=some t):d0 s.heap u t:=by
 cases d with
 | non=>cases ft n;cases r;cases h;exact .non
 | bl b=>cases fT n;cases r;cases h;exact .bl _
 | int b=>cases aZ n;obtain⟨k,rfl⟩:=r;cases h;exact .int _ _
 | str b=>
  cases cD n;obtain⟨k,rfl⟩:=r;simp only[ja]at h;split at h
  ·rename_i hs
   cases h
   have e:((b.length:Int) != 0)=(b.length != 0):=by
    rw[Bool.eq_iff_iff];simp only[bne_iff_ne,ne_eq];omega
   rw[← e];exact .str b k (bC hs)
  ·cases h
 | lst ds=>
  obtain⟨a,vs,rfl,h1,h2⟩:=cz n;cases r;cases h;obtain⟨its,rv,p,hz⟩:=I.list (jb (K:=X.K) h1)
  have e:(!ds.isEmpty) = !its.toArray.isEmpty:=by
   have k1:=h2.length;have k2:=rv.length;cases ds<;>cases vs<;>cases its<;>simp at k1 k2 ⊢
  rw[e];exact .lst p.isList (by rw[List.size_toArray,← rv.length];exact hz)
 | tup ds=>
  obtain⟨a,vs,rfl,_,h1,h2⟩:=fu n;cases r;cases h;obtain⟨its,rv,p,hz⟩:=I.tuple (tD (K:=X.K) h1)
  have e:(!ds.isEmpty) = !its.toArray.isEmpty:=by
   have k1:=h2.length;have k2:=rv.length;cases ds<;>cases vs<;>cases its<;>simp at k1 k2 ⊢
  rw[e];exact .tup p (by rw[List.size_toArray,← rv.length];exact hz)
 | dct ks ds=>cases h
 | ref k=>cases h
section
variable{prog:Program}{w:World}{A:Around}{R:Result->Shared->Prop}{J:Addr}{fp wr:List Addr}{n:Nat}{P:Nat->Value->Prop}{T:Nat->Heap->Prop}
theorem vy(W:Walks prog w A.in1 J fp wr n P T)(tr:Nat->Bool)(G:Heap->Prop)(gk:∀ h h':Heap,G h->(∀ b o,b∉wr->h.get? b=some o->h'.get? b=some o)->G h')
  (ht:∀ i v (h:Heap),P i v->G h->d0 h v (tr i)):∀ (m i:Nat) (s:Shared),n - i=m->i<=n->T i s.heap->G s.heap ->
  (∀ h' tk,(∀ b o,b∉wr->s.heap.get? b=some o->h'.get? b=some o)->R (.ok (.ret (.bool (((List.range n).drop i).all tr)))) { s with heap:=h',toks:=tk }) ->
  codeAny (model prog w) A (.builtin "all.loop" ⟨[.ref J],[]⟩) R s:=by
 intro m
 induction m with
 | zero=>
  intro i s hm hi st g fin;obtain rfl:i=n:=by omega
  refine codeAny_builtin PySem.F.entry_all_loop ?_;rw[Around.under_plainId PySem.F.plain_all_loop _];refine wpAny_bind (m:=pyNext (.ref J)) (W.done s _ _ st fun h' tk kp=>wpAny_bind (wpAny_rule (wpAny_pure ?_)))
  have q:=fin h' tk kp;rw[List.drop_of_length_le (by simp)]at q
  exact q
 | succ m ih=>
  intro i s hm hi st g fin;have lt:i < n:=by omega
  have dr:(List.range n).drop i=i::(List.range n).drop (i + 1):=by
   rw[List.drop_eq_getElem_cons (by simpa using lt)];simp
  refine codeAny_builtin PySem.F.entry_all_loop ?_;rw[Around.under_plainId PySem.F.plain_all_loop _];refine wpAny_bind (m:=pyNext (.ref J)) (W.item i s _ _ lt st fun v h' tk pv st' kp => ?_)
  have g':G h':=gk _ _ g kp;refine wpAny_bind (wpAny_holding ((ht i v h' pv g').run (s:={ s with heap:=h',toks:=tk }) fun tk2 => ?_))
  refine wpAny_bind (wpAny_letGo ?_);cases e:tr i with
  | true=>
   simp only[if_true];refine wpAny_pure ⟨plainId_quiet PySem.F.plain_all_loop _,ih (i + 1) _ (by omega) lt st' g' fun h2 tk3 BS => ?_⟩
   have q:=fin h2 tk3 fun b o nb z=>BS b o nb (kp b o nb z)
   rw[dr,List.all_cons,e,Bool.true_and]at q;exact q
  | false=>
   simp only[Bool.false_eq_true,if_false];refine wpAny_bind (wpAny_rule (wpAny_pure ?_));have q:=fin h' tk2 kp;rw[dr,List.all_cons,e,Bool.false_and]at q;exact q
theorem vz(W:Walks prog w A.in1 J fp wr n P T)(tr:Nat->Bool)(G:Heap->Prop)(gk:∀ h h':Heap,G h->(∀ b o,b∉wr->h.get? b=some o->h'.get? b=some o)->G h')
  (ht:∀ i v (h:Heap),P i v->G h->d0 h v (tr i)):∀ (m i:Nat) (s:Shared),n - i=m->i<=n->T i s.heap->G s.heap ->
  (∀ h' tk,(∀ b o,b∉wr->s.heap.get? b=some o->h'.get? b=some o)->R (.ok (.ret (.bool (((List.range n).drop i).any tr)))) { s with heap:=h',toks:=tk }) ->
  codeAny (model prog w) A (.builtin "any.loop" ⟨[.ref J],[]⟩) R s:=by
 intro m
 induction m with
 | zero=>
  intro i s hm hi st g fin;obtain rfl:i=n:=by omega
  refine codeAny_builtin PySem.F.entry_any_loop ?_;rw[Around.under_plainId PySem.F.plain_any_loop _];refine wpAny_bind (m:=pyNext (.ref J)) (W.done s _ _ st fun h' tk kp=>wpAny_bind (wpAny_rule (wpAny_pure ?_)))
  have q:=fin h' tk kp;rw[List.drop_of_length_le (by simp)]at q
  exact q
 | succ m ih=>
  intro i s hm hi st g fin;have lt:i < n:=by omega
  have dr:(List.range n).drop i=i::(List.range n).drop (i + 1):=by
   rw[List.drop_eq_getElem_cons (by simpa using lt)];simp
  refine codeAny_builtin PySem.F.entry_any_loop ?_;rw[Around.under_plainId PySem.F.plain_any_loop _];refine wpAny_bind (m:=pyNext (.ref J)) (W.item i s _ _ lt st fun v h' tk pv st' kp => ?_)
  have g':G h':=gk _ _ g kp;refine wpAny_bind (wpAny_holding ((ht i v h' pv g').run (s:={ s with heap:=h',toks:=tk }) fun tk2 => ?_))
  refine wpAny_bind (wpAny_letGo ?_);cases e:tr i with
  | false=>
   simp only[Bool.false_eq_true,if_false];refine wpAny_pure ⟨plainId_quiet PySem.F.plain_any_loop _,ih (i + 1) _ (by omega) lt st' g' fun h2 tk3 BS => ?_⟩
   have q:=fin h2 tk3 fun b o nb z=>BS b o nb (kp b o nb z)
   rw[dr,List.any_cons,e,Bool.false_or]at q;exact q
  | true=>
   simp only[if_true];refine wpAny_bind (wpAny_rule (wpAny_pure ?_));have q:=fin h' tk2 kp;rw[dr,List.any_cons,e,Bool.true_or]at q;exact q
end
theorem mE:∀ {ds:List D} {bs:List Bool},gy ds=some bs->bs.length=ds.length
 | [],_,h=>by cases h;rfl
 | d::ds,bs,h=>by
  simp only[gy]at h;split at h
  ·rename_i b bs' h1 h2
   cases h;rw[List.length_cons,List.length_cons,mE h2]
  ·cases h
theorem ro:∀ {ds:List D} {bs:List Bool} {i:Nat} {d:D},gy ds=some bs->ds[i]?=some d->∃ b,bs[i]?=some b/\ja d=some b
 | [],_,_,_,_,h=>by simp at h
 | d::ds,bs,i,d',h,hd=>by
  simp only[gy]at h;split at h
  ·rename_i b bs' h1 h2
   cases h;cases i with
   | zero=>simp at hd;subst hd;exact⟨b,rfl,h1⟩
   | succ i=>
    obtain⟨c,q1,q2⟩:=ro (i:=i) h2 (by simpa using hd)
    exact⟨c,by simpa using q1,q2⟩
  ·cases h
theorem all_range:∀ (bs:List Bool),((List.range bs.length).all fun i=>(bs[i]?).getD true)=bs.all id
 | []=>rfl
 | b::bs=>by
  rw[List.length_cons,List.range_succ_eq_map,List.all_cons,List.all_map,List.all_cons,← all_range bs];rfl
theorem any_range:∀ (bs:List Bool),((List.range bs.length).any fun i=>(bs[i]?).getD false)=bs.any id
 | []=>rfl
 | b::bs=>by
  rw[List.length_cons,List.range_succ_eq_map,List.any_cons,List.any_map,List.any_cons,← any_range bs];rfl
def Ks(K:PySem.W.Frag):List V->Hp->VK->Prop:=fun xs H Q=>∃ Z ds bs x,xs=[x]/\Now Z H (.lst ds) x/\gy ds=some bs/\Q (.bl (bs.all id)) H
def Kt(K:PySem.W.Frag):List V->Hp->VK->Prop:=fun xs H Q=>∃ Z ds bs x,xs=[x]/\Now Z H (.lst ds) x/\gy ds=some bs/\Q (.bl (bs.any id)) H
theorem vA{pins:List (Addr×Obj)}{σ:L2.St}{H:Hp}{s:Shared}{Z:Addr->Prop}{ds:List D}{vs:List V}{its:List Value}{bs:List Bool}(I:Inv X pins σ H s)(h2:aR Z H ds vs)(rv:Vals vs its)(hb:gy ds=some bs)(dflt:Bool) :
  ∀ (i:Nat) (v:Value),its.toArray[i]?=some v->d0 s.heap v ((bs[i]?).getD dflt):=by
 intro i v hv;have hv:its[i]?=some v:=by simpa using hv
 obtain⟨hi,ev⟩:=List.getElem?_eq_some_iff.mp hv;obtain⟨x,hx,rx⟩:=mD rv hi;have k1:=h2.length;have k2:=rv.length;have ed:ds[i]?=some ds[i]:=by simp[show i < ds.length by omega]
 obtain⟨y,hy,ry⟩:=h2.get ed;rw[hx]at hy;cases hy
 obtain⟨b,q1,q2⟩:=ro hb ed;rw[q1];rw[ev]at rx;exact vx I ry.now rx q2
theorem vB(hc:X.calm=true):eE X (.builtin "all") (Ks X.K):=by
 intro pins s σ H xs us Q I r h;obtain⟨Z,ds,bs,x,rfl,nw,hb,q⟩:=h;obtain⟨u,rfl,rx⟩:=vals1 r;obtain⟨l,vs,rfl,h1,h2⟩:=cz nw;cases rx;obtain⟨its,rv,p,hz⟩:=I.list (jb (K:=X.K) h1);have hlt:l < s.heap.objs.size:=by obtain⟨_,e,_⟩:=p.isList;exact Heap.lt_size e
 have tr:=vA I h2 rv hb true;refine call_function_tree PySem.F.kind_all PySem.F.plain_all PySem.F.entry_all (PySem.F.args_all1 _) ?_;unfold Builtin.«all»;refine wpAny_bind (m:=oneArg "all" _) (wpAny_pure (wpAny_bind (wpAny_pyIter_list p.isList ?_)))
 refine wpAny_pure ⟨plainId_quiet PySem.F.plain_all_loop _,vy (Walks.list (A:=X.A.in1) (I.ok.hd hc) s.heap.objs.size l (Nat.ne_of_lt hlt) its.toArray) (fun i=>(bs[i]?).getD true)
  (fun h=>∀ b o,b≠s.heap.objs.size->s.heap.get? b=some o->h.get? b=some o) (fun h h' g kp b o nb e=>kp b o (by simpa using nb) (g b o nb e))
  (fun i v h pv g=>(tr i v pv).keep fun b o e z=>g b o (Nat.ne_of_lt (Heap.lt_size z)) z) _ 0 _ rfl (Nat.zero_le _) ⟨⟨_,Heap.get?_push_size _ rfl,rfl,rfl⟩,p.isList.push _⟩ (fun b o nb e=>Heap.get?_push_of_some _ e) fun h' tk kp => ?_⟩
 have e:((List.range its.toArray.size).drop 0).all (fun i=>(bs[i]?).getD true)=bs.all id:=by
  rw[List.drop_zero,List.size_toArray,← rv.length,h2.length,← mE hb];exact all_range bs
 rw[e]
 exact⟨.bl _,H,I.kept (h':=h') (t':=tk) fun b o z=>kp b o (by
  have:=Nat.ne_of_lt (Heap.lt_size z);simpa using this) (Heap.get?_push_of_some _ z),rfl,q⟩
theorem vC(hc:X.calm=true):eE X (.builtin "any") (Kt X.K):=by
 intro pins s σ H xs us Q I r h;obtain⟨Z,ds,bs,x,rfl,nw,hb,q⟩:=h;obtain⟨u,rfl,rx⟩:=vals1 r;obtain⟨l,vs,rfl,h1,h2⟩:=cz nw;cases rx;obtain⟨its,rv,p,hz⟩:=I.list (jb (K:=X.K) h1);have hlt:l < s.heap.objs.size:=by obtain⟨_,e,_⟩:=p.isList;exact Heap.lt_size e
 have tr:=vA I h2 rv hb false;refine call_function_tree PySem.F.kind_any PySem.F.plain_any PySem.F.entry_any (PySem.F.args_any1 _) ?_;unfold Builtin.«any»;refine wpAny_bind (m:=oneArg "any" _) (wpAny_pure (wpAny_bind (wpAny_pyIter_list p.isList ?_)))
 refine wpAny_pure ⟨plainId_quiet PySem.F.plain_any_loop _,vz (Walks.list (A:=X.A.in1) (I.ok.hd hc) s.heap.objs.size l (Nat.ne_of_lt hlt) its.toArray) (fun i=>(bs[i]?).getD false)
  (fun h=>∀ b o,b≠s.heap.objs.size->s.heap.get? b=some o->h.get? b=some o) (fun h h' g kp b o nb e=>kp b o (by simpa using nb) (g b o nb e))
  (fun i v h pv g=>(tr i v pv).keep fun b o e z=>g b o (Nat.ne_of_lt (Heap.lt_size z)) z) _ 0 _ rfl (Nat.zero_le _) ⟨⟨_,Heap.get?_push_size _ rfl,rfl,rfl⟩,p.isList.push _⟩ (fun b o nb e=>Heap.get?_push_of_some _ e) fun h' tk kp => ?_⟩
 have e:((List.range its.toArray.size).drop 0).any (fun i=>(bs[i]?).getD false)=bs.any id:=by
  rw[List.drop_zero,List.size_toArray,← rv.length,h2.length,← mE hb];exact any_range bs
 rw[e]
 exact⟨.bl _,H,I.kept (h':=h') (t':=tk) fun b o z=>kp b o (by
  have:=Nat.ne_of_lt (Heap.lt_size z);simpa using this) (Heap.get?_push_of_some _ z),rfl,q⟩
end
section
variable{X:Cx}{Γ:kX}{bw:Bool}{a b e:Expr}{es:List Expr}{ca cb cc c cs:Ex}{pos p:Pos}
noncomputable def h8.nm:h8->Str
 | .len=>"len" | .all=>"all" | .any=>"any" | .sorted=>"sorted" | .list=>"list" | .tuple=>"tuple" | .int=>"int" | .min=>"min" | .max=>"max" | .bool=>"bool"
theorem fv{Z:Addr->Prop}{H:Hp}{d:D}{v:V}{Q:VK}(dom:∀ a,Z a->H a≠none)(k:∀ v H' Z',dO Z H Z' H'->du bw false Z' H H' d v->Q v H')(h:eX d=some v):Q v H:=
 k _ H Z (dO.refl dom) (.rep (dZ h))
noncomputable def Ty.nm:Ty->Str
 | .int=>"int" | .str=>"str" | .bool=>"bool" | .list=>"list" | .tuple=>"tuple" | .dict=>"dict"
noncomputable def Ty.id:Ty->String
 | .int=>"int" | .str=>"str" | .bool=>"bool" | .list=>"list" | .tuple=>"tuple" | .dict=>"dict"
theorem yE(t:Ty):bootBuiltins t.nm=some (.type t.id):=by cases t<;>decide +kernel
theorem rp(K:PySem.W.Frag)(t:Ty):PySem.W.kitOne K (.type "NoneType") (.type t.id)=some false/\PySem.W.kitOne K (.type "bool") (.type t.id)=some (t == .bool || t == .int)/\PySem.W.kitOne K (.type "int") (.type t.id)=some (t == .int) /\
  PySem.W.kitOne K (.type "str") (.type t.id)=some (t == .str)/\PySem.W.kitOne K (.type "list") (.type t.id)=some (t == .list)/\PySem.W.kitOne K (.type "tuple") (.type t.id)=some (t == .tuple)/\PySem.W.kitOne K (.type "dict") (.type t.id)=some (t == .dict):=by
 cases t<;>refine⟨?_,?_,?_,?_,?_,?_,?_⟩<;>with_unfolding_all rfl
def E6(K:PySem.W.Frag):List V->Hp->VK->Prop:=fun xs H Q=>∃ Z d x t b,xs=[x,.ty (Ty.id t)]/\Now Z H d x/\vj d t=some b/\Q (.bl b) H
theorem iW{K:PySem.W.Frag}{H:Hp}{a:Addr}{vs:List V}{X:Cx}{pins:List (Addr×Obj)}{σ:L2.St}{s:Shared}(I:Inv X pins σ H s)(h:Rd H a (.tup vs)):∃ o,s.heap.get? a=some o/\o.cls=.type "tuple":=by
 obtain⟨_,its,_,o,h1,h2,_⟩:vs.length<=sizeLine/\∃ its:List Value,Vals vs its/\IsTup s.heap a its.toArray:=Rd.ok h I.hok;exact⟨o,h1,h2⟩
theorem vD:eE X (.builtin "isinstance") (E6 X.K):=by
 intro pins s σ H xs us Q I r h;obtain⟨Z,d,x,t,b,rfl,nw,ht,q⟩:=h;obtain⟨u,w',rfl,rx,rt⟩:=vals2 r;cases (show w'=Value.type (Ty.id t) from rt)
 obtain⟨t1,t2,t3,t4,t5,t6,t7⟩:=rp X.K t;have fin:∀ tk,EP X pins σ Q (.bool b) { s with toks:=tk }:=fun tk=>⟨.bl b,H,I.tok tk,rfl,q⟩
 cases d with
 | non=>cases ft nw;cases ht;exact cw I rx .non t1 fin
 | bl c=>cases fT nw;cases ht;exact cw I rx (.bl c) t2 fin
 | int c=>cases aZ nw;cases ht;exact cw I rx (.int c) t3 fin
 | str c=>cases cD nw;cases ht;exact cw I rx (.str c) t4 fin
 | lst ds=>
  obtain⟨a,vs,rfl,h1,h2⟩:=cz nw;cases ht;rcases h1 with h1 | ⟨o,h1⟩
  ·exact cw I rx (.lst h1) t5 fin
  ·exact cw I rx (.i7 h1) t5 fin
 | tup ds=>
  obtain⟨a,vs,rfl,_,h1,h2⟩:=fu nw;cases ht;cases rx;exact PySem.W.kia_one PySem.W.kitx_tuple I.fG (iW (K:=X.K) I h1) t6 (fun z=>nomatch z) fin
 | dct ks ds=>
  have nw:Rep Z H (.dct ks ds) x:=nw;simp only[Rep]at nw;obtain⟨a,vs,rfl,_,h1,h2⟩:=nw;cases ht;exact cw I rx (.dK h1) t7 fin
 | ref k=>cases ht
end
abbrev rq(ifs:List Expr)(env:Env):Sem Bool:=forIn ifs true fun c r=>if r=true then do let ok ← isTrue c env (eval c env);pure (ForInStep.yield ok) else pure (ForInStep.yield r)
section
variable{prog:Program}{w:World}{A:Around}{R:Result->Shared->Prop}{s:Shared}
theorem tF{elt tg iter:Expr}{ifs:List Expr}{scope:Scope}{pos:Pos}{it acc:Value}{env:Env}(J:Nat->Shared->Prop)
  (turn:∀ n s,J n s->wpAny (model prog w) A (pyNext it) (fun r s1=>match r with
   | none=>R (.ok .next) s1
   | some v=>wpAny (model prog w) A (letOwnedTupleGo tg it v) (fun _ s2=>wpAny (model prog w) A (assign tg env v) (fun _ s3=>wpAny (model prog w) A (rq ifs env) (fun ok s4=>
      if ok=true then wpAny (model prog w) A (eval elt env) (fun x s5=>wpAny (model prog w) A (call (.builtin "list.append") [acc,x]) (fun _ s6=>∃ m,m < n/\J m s6) (fun _ _=>False) s5) (fun _ _=>False) s4
      else ∃ m,m < n/\J m s4) (fun _ _=>False) s3) (fun _ _=>False) s2) (fun _ _=>False) s1) (fun _ _=>False) s)
  (n:Nat) (h:J n s):codeAny (model prog w) A (.compLoop (.ListComp elt [⟨tg,iter,ifs,0⟩] scope pos) 0 it acc env) R s:=by
 refine codeAny_loop rfl J (fun n s hJ => ?_) n h
 refine wpAny_noted (env:=env) (m:=compTurn (.ListComp elt [⟨tg,iter,ifs,0⟩] scope pos) 0 it acc env) ?_;rw[compTurn_list];refine wpAny_bind (wpAny_standAt (wpAny_bind (wpAny_mono (turn n s hJ) (fun r s1 h1 => ?_) fun _ _ z=>z.elim)))
 cases r with
 | none=>exact wpAny_pure h1
 | some v=>
  refine wpAny_bind (wpAny_mono h1 (fun _ s2 h2=>wpAny_bind (wpAny_mono h2 (fun _ s3 h3=>wpAny_bind (wpAny_mono h3 (fun ok s4 h4 => ?_) fun _ _ z=>z.elim)) fun _ _ z=>z.elim)) fun _ _ z=>z.elim)
  cases ok with
  | false=>exact wpAny_pure ⟨rfl,by simpa using h4⟩
  | true=>
   rw[if_pos rfl]at h4;refine wpAny_bind (wpAny_bind (wpAny_mono h4 (fun x s5 h5=>wpAny_bind (wpAny_mono h5 (fun _ s6 h6 => ?_) fun _ _ z=>z.elim)) fun _ _ z=>z.elim))
   exact wpAny_pure (wpAny_pure ⟨rfl,h6⟩)
end
theorem pZ{scope:Scope}{env:Env}(h:∀ y∈scope.names,y.2=.free->∃ c,env.cells.lookup y.1=some c) :
  ∃ cl,closureFor scope env=pure cl/\(∀ n c,(n,c)∈cl->env.cells.lookup n=some c)/\∀ y∈scope.names,y.2=.free->∃ c,(y.1,c)∈cl:=by
 have gen:∀ (l:List (Str×NameKind)) (acc:List (Str×Addr)),(∀ y∈l,y.2=.free->∃ c,env.cells.lookup y.1=some c)->(∀ n c,(n,c)∈acc->env.cells.lookup n=some c) ->
   ∃ cl,(forIn l acc fun x r=>match x with | (name,kind)=>if (kind == NameKind.free)=true then do let a ← cellOf env name;pure (ForInStep.yield ((name,a)::r)) else pure (ForInStep.yield r):Sem (List (Str×Addr)))=pure cl /\
    (∀ n c,(n,c)∈cl->env.cells.lookup n=some c)/\(∀ p∈acc,p∈cl)/\∀ y∈l,y.2=.free->∃ c,(y.1,c)∈cl:=by
  intro l
  induction l with
  | nil=>intro acc _ ha;exact⟨acc,rfl,ha,fun _ hp=>hp,fun _ hy=>absurd hy (by simp)⟩
  | cons y l ih=>
   intro acc hl ha;obtain⟨n,k⟩:=y;cases hk:(k == NameKind.free) with
   | false=>
    obtain⟨cl,e,h1,h2,h3⟩:=ih acc (fun z hz=>hl z (by simp[hz])) ha
    refine⟨cl,?_,h1,h2,fun z hz Ik => ?_⟩
    ·rw[List.forIn_cons]
     simp only[hk,Bool.false_eq_true,if_false];exact e
    ·rcases List.mem_cons.mp hz with rfl | hz
     ·have:k=.free:=Ik
      rw[this]at hk;exact absurd hk (by decide)
     ·exact h3 z hz Ik
   | true=>
    have hk':k=.free:=by simpa using hk
    obtain⟨c,hc⟩:=hl (n,k) (by simp) hk'
    obtain⟨cl,e,h1,h2,h3⟩:=ih ((n,c)::acc) (fun z hz=>hl z (by simp[hz])) (fun n' c' hm=>by
     rcases List.mem_cons.mp hm with q | q
     ·cases q;exact hc
     ·exact ha n' c' q)
    refine⟨cl,?_,h1,fun p hp=>h2 p (by simp[hp]),fun z hz Ik => ?_⟩
    ·rw[List.forIn_cons]
     simp only[hk,if_true]
     have:cellOf env n=pure c:=by
      have hc:env.cells.lookup n=some c:=hc;unfold cellOf;rw[hc]
     rw[this];exact e
    ·rcases List.mem_cons.mp hz with rfl | hz
     ·exact⟨c,h2 _ (by simp)⟩
     ·exact h3 z hz Ik
 obtain⟨cl,e,h1,_,h3⟩:=gen scope.names [] h (fun _ _ z=>absurd z (by simp))
 refine⟨cl,?_,h1,h3⟩;unfold closureFor;have e':=congrArg (fun m:Sem (List (Str×Addr))=>m >>= fun r=>pure r) e
 exact e'
noncomputable def blk(X:Cx)(scope:Scope)(cl:List (Str×Addr))(C:Addr)(N:List Str)(s₀:Shared)(H₀:Hp)(fp:List Addr):Cx:=
 { X with N:=N,s₀:=s₀,H₀:=H₀,env:=compEnvC scope cl C X.env,outer:=X.stack,stack:=X.stack,ex:=fp,fn:=fun _=>false,pn:=[],xe:=fun _ _=>False }
theorem lookup_mem{α β:Type}[BEq α][LawfulBEq α]:∀ {l:List (α×β)} {x:α} {v:β},l.lookup x=some v->(x,v)∈l
 | [],_,_,h=>by simp at h
 | (n,k)::r,x,v,h=>by
  rw[List.lookup_cons]at h;cases e:x == n with
  | true=>rw[e]at h;cases h;rw[eq_of_beq e];simp
  | false=>rw[e]at h;exact List.mem_cons_of_mem _ (lookup_mem h)
theorem mem_lookup{α β:Type}[BEq α][LawfulBEq α]:∀ {l:List (α×β)} {x:α} {v:β},(x,v)∈l->∃ u,l.lookup x=some u
 | [],_,_,h=>by simp at h
 | (n,k)::r,x,v,h=>by
  rw[List.lookup_cons];cases e:x == n with
  | true=>exact⟨k,rfl⟩
  | false=>
   rcases List.mem_cons.mp h with q | q
   ·cases q;simp at e
   ·exact mem_lookup q
theorem d7{env:Env}:∀ (names:List (Str×NameKind)) (x:Str),(names.map fun (n,k)=>if (k == NameKind.free && env.scope.kind == .function && env.kindOf n == some .cell) then (n,NameKind.cell) else (n,k)).lookup x =
  (names.lookup x).map fun k=>if (k == NameKind.free && env.scope.kind == .function && env.kindOf x == some .cell) then NameKind.cell else k
 | [],_=>rfl
 | (n,k)::r,x=>by
  have ih:=d7 (env:=env) r x
  show List.lookup x ((if (k == NameKind.free && env.scope.kind == .function && env.kindOf n == some .cell)=true then (n,NameKind.cell) else (n,k))::_)=_
  cases hx:x == n with
  | true=>
   obtain rfl:x=n:=eq_of_beq hx
   by_cases hc:(k == NameKind.free && env.scope.kind == .function && env.kindOf x == some .cell)=true
   ·rw[if_pos hc,List.lookup_cons,List.lookup_cons]
    simp only[hx,Option.map_some,if_pos hc]
   ·rw[if_neg hc,List.lookup_cons,List.lookup_cons]
    simp only[hx,Option.map_some,if_neg hc]
  | false=>
   by_cases hc:(k == NameKind.free && env.scope.kind == .function && env.kindOf n == some .cell)=true
   ·rw[if_pos hc,List.lookup_cons,List.lookup_cons]
    simp only[hx];exact ih
   ·rw[if_neg hc,List.lookup_cons,List.lookup_cons]
    simp only[hx];exact ih
structure iX(X:Cx)(scope:Scope)(tn cn:List Str)(cap:List Nat):Prop where
 kind:scope.kind=.function
 cell:∀ y∈scope.names,y.2≠.cell
 names:∀ y∈scope.names,y.2=.local->scope.names.lookup y.1=some .local
 free:∀ y∈scope.names,y.2=.free->X.env.kindOf y.1=some .cell\/X.env.kindOf y.1=some .free
 len:cn.length=cap.length
 at':∀ (j i:Nat) (x:Str),cn[j]?=some x->cap[j]?=some i->X.N[i]?=some x/\scope.names.lookup x=some .free
noncomputable def om(cap:List Nat)(σ:L2.St):L2.St:=cap.map fun i=>(σ[i]?).join
def fF(nt:Nat)(cap:List Nat)(σ:L2.St):L2.St:=List.replicate nt none++om cap σ
section
variable{X:Cx}{scope:Scope}{tn cn:List Str}{cap:List Nat}
theorem tG{pins:List (Addr×Obj)}{σ:L2.St}{H:Hp}{s:Shared}{fp:List Addr}{cl:List (Str×Addr)}{h1:Heap}{tk:Nat}{m:Str->Option Value}(B:iX X scope tn cn cap)
  (I:Inv X pins σ H s) (hf:∀ b∈fp,kP X pins H b) (hfo:∀ b∈fp,∃ o,s.heap.get? b=some o) (c1:∀ n c,(n,c)∈cl->X.env.cells.lookup n=some c) (c2:∀ y∈scope.names,y.2=.free->∃ c,(y.1,c)∈cl)
  (kp:∀ b o,s.heap.get? b=some o->h1.get? b=some o) (hd:∃ n,h1.get? s.heap.objs.size=some { cls:=.type "list",data:=.seq ([]:List Value).toArray n }) (ns:h1.Ns (s.heap.objs.size + 1) m) :
  Inv (blk X scope cl (s.heap.objs.size + 1) (tn++cn) s H fp) [] (fF tn.length cap σ) (upd H s.heap.objs.size (.lst [])) { s with heap:=h1,toks:=tk }:=by
 have Qe:∀ b o,s.heap.get? b=some o->b≠s.heap.objs.size + 1:=fun b o e=>Nat.ne_of_lt (Nat.lt_succ_of_lt (Heap.lt_size e))
 have Qf:∀ b o,s.heap.get? b=some o->b≠s.heap.objs.size:=fun b o e=>Nat.ne_of_lt (Heap.lt_size e)
 have cell:∀ x c,cl.lookup x=some c->∃ v,s.heap.IsCell c v:=fun x c e=>I.cell x c (c1 x c (lookup_mem e))
 have xM:∀ x c,cl.lookup x=some c->c≠s.heap.objs.size + 1/\c≠s.heap.objs.size:=fun x c e=>by
  obtain⟨v,o,ho,_⟩:=cell x c e;exact⟨Qe c o ho,Qf c o ho⟩
 have Qg:∀ b∈fp,b < s.heap.objs.size:=fun b hb=>let ⟨o,e⟩:=hfo b hb;Heap.lt_size e
 have fr:=I.hok.fresh (Nat.le_refl s.heap.objs.size);obtain⟨nd,hd⟩:=hd
 refine⟨⟨I.ok.mod,B.kind,I.ok.glob,I.ok.blt,Nat.le_succ _,fun x y c e1 e2 => ?_,fun x hx => ?_,fun x c e _=>absurd (show false=true from e) Bool.false_ne_true,I.ok.hd,I.ok.frames,.inl rfl,fun b hb=>⟨?_,fun x c e z => ?_⟩,fun b o e=>I.bs b o e,Nat.le_trans I.ok.sS I.sz,fun b o e hb => ?_,fun b hb hbs => ?_,I.stack,I.jf⟩,
  rfl,I.bare,?_,⟨m,ns,fun i x v e1 e2 e3 => ?_⟩,fun x c e => ?_,?_,fun x c e => ?_,fun p hp=>absurd (show p∈([]:List (Addr×Obj)) from hp) (by simp),?_,?_⟩
 ·exact I.ok.inj x y c (c1 x c (lookup_mem e1)) (c1 y c (lookup_mem e2))
 ·have hx:(relabel scope X.env).names.lookup x=some .cell\/(relabel scope X.env).names.lookup x=some .free:=hx
  unfold relabel at hx;simp only[d7]at hx;cases q:scope.names.lookup x with
  | none=>rw[q]at hx;simp at hx
  | some k=>
   rw[q]at hx;have hm:=lookup_mem q
   have hk:k=.free:=by
    by_cases hk:k=.free
    ·exact hk
    ·have hkf:(k == NameKind.free)=false:=by simpa using hk
     rw[Option.map_some]at hx;simp only[hkf,Bool.false_and,Bool.false_eq_true,if_false,Option.some.injEq]at hx;rcases hx with z | z
     ·exact absurd z (B.cell _ hm)
     ·exact z
   obtain⟨c,hc⟩:=c2 _ hm hk;exact mem_lookup hc
 ·exact Nat.ne_of_lt (Nat.lt_succ_of_lt (Qg b hb))
 ·exact(hf b hb).2.2.2.2.1 x c (c1 x c (lookup_mem e)) z
 ·rcases(hf b hb).2.2.2.1 with z | z
  ·exact I.ok.nP b o e z
  ·exact absurd (Nat.lt_of_lt_of_le (Heap.lt_size (I.ok.bs b o e).1) z) (Nat.lt_irrefl _)
 ·rcases List.mem_cons.mp (I.lZ b hbs) with z | z
  ·exact(hf b hb).2.1 z
  ·exact(hf b hb).2.2.1 z
 ·exact Un.laid kp (Nat.le_refl _) fr
 ·have Ku:i < tn.length->False:=fun hi=>by
   have:(fF tn.length cap σ)[i]?=some none:=by
    unfold fF;rw[List.getElem?_append_left (by simpa using hi),List.getElem?_replicate,if_pos hi]
   rw[this]at e2;cases e2
  have hi:tn.length<=i:=Nat.le_of_not_lt Ku;have e1:(tn++cn)[i]?=some x:=e1;rw[List.getElem?_append_right hi]at e1
  have e2':(om cap σ)[i - tn.length]?=some (some v):=by
   unfold fF at e2;rw[List.getElem?_append_right (by simpa using hi)]at e2
   simpa using e2
  unfold om at e2';rw[List.getElem?_map]at e2';cases q:cap[i - tn.length]? with
  | none=>rw[q]at e2';cases e2'
  | some i'=>
   rw[q]at e2';have e2:(σ[i']?).join=some v:=by simpa using e2'
   have e4:σ[i']?=some (some v):=by
    cases q2:σ[i']? with
    | none=>rw[q2]at e2;cases e2
    | some z=>rw[q2]at e2;cases z with
     | none=>cases e2
     | some z=>cases e2;rfl
   obtain⟨hN,hfr⟩:=B.at' _ _ _ e1 q;have hk:=B.free _ (lookup_mem hfr) rfl;have hk:X.env.kindOf x=some .cell\/X.env.kindOf x=some .free:=hk
   have Kv:uu X.env.scope x:=by
    rcases hk with z | z
    ·exact .inr (.inl z)
    ·exact .inr (.inr z)
   obtain⟨m0,hn0,hl0⟩:=I.loc;obtain⟨u,ru,lk⟩:=hl0 i' x v hN e4 Kv;refine⟨u,ru,.inr ⟨?_,?_⟩⟩
   ·show(relabel scope X.env).names.lookup x=some .cell\/(relabel scope X.env).names.lookup x=some .free
    unfold relabel;simp only[d7,hfr,Option.map_some];split
    ·exact .inl rfl
    ·exact .inr rfl
   ·have lk:∃ c,X.env.cells.lookup x=some c/\s.heap.IsCell c (some u):=by
     rcases lk with ⟨z,_⟩ | ⟨_,z⟩
     ·rcases hk with y | y<;>rw[y]at z<;>cases z
     ·exact z
    obtain⟨c,hc,hcc⟩:=lk;obtain⟨c',hc'⟩:=c2 _ (lookup_mem hfr) rfl;obtain⟨c'',hc''⟩:=mem_lookup hc';have:=c1 _ _ (lookup_mem hc'');rw[hc]at this;cases this
    obtain⟨o,ho,hd⟩:=hcc;exact⟨c,hc'',o,kp _ _ ho,hd⟩
 ·obtain⟨v,o,ho,hd⟩:=cell x c e
  exact⟨v,o,kp _ _ ho,hd⟩
 ·show upd H s.heap.objs.size (.lst []) (s.heap.objs.size + 1)=none
  rw[aG (Nat.succ_ne_self _)];exact I.hok.fresh (Nat.le_succ _)
 ·refine⟨?_,fun hz=>absurd (show false=true from hz) Bool.false_ne_true⟩
  rw[aG (xM x c e).2];exact(I.cX x c (c1 x c (lookup_mem e))).1
 ·refine I.hok.laid kp (Nat.le_refl _) ⟨Nat.zero_le _,[],nd,.nil,hd⟩
 ·show(fF tn.length cap σ).length=(tn++cn).length
  unfold fF om;rw[List.length_append,List.length_append,List.length_replicate,List.length_map,B.len]
def yF(X:Cx)(ifs:List Expr)(t:TT):Prop:=∀ (pins:List (Addr×Obj)) (s:Shared) (σ:L2.St) (H:Hp) (Q:Bool->Hp->Prop),Inv X pins σ H s->t σ H Q->wpAny (model X.prog X.w) X.A (rq ifs X.env) (TP X pins σ Q) X.xe s
theorem yG:yF X [] (fun _ H Q=>Q true H):=fun pins s σ H Q I h=>wpAny_pure ⟨H,I,h⟩
theorem yH{c:Expr}{t:TT}(h:PT X c t):yF X [c] t:=fun pins s σ H Q I q=>wpAny_tests_one (h pins s σ H Q I q)
def lz(wi:TI)(nt:Nat)(cap:List Nat)(g:TG)(tc:TT)(te:TE):TE:=fun σ H Q=>wi σ H fun J H1=>∀ D,H1 D=none->∃ W:Nat->Nat->List V->Hp->Prop,(∃ m,W 0 m [] (upd H1 D (.lst []))) /\
 ∀ i m ys H2,W i m ys H2->H2 D=some (.lst ys)/\((J.stop i H2/\Q (.ref D) H2)\/(J.go i H2/\ys.length < sizeLine/\∀ x H3,J.H_ i H2 x H3->g x (fF nt cap σ) H3 fun σ' H4=>tc σ' H4 fun b H5=>
  if b=true then te σ' H5 fun y H6=>H6 D=some (.lst ys)/\∃ m',m' < m/\W (i + 1) m' (ys++[y]) (upd H6 D (.lst (ys++[y]))) else ∃ m',m' < m/\W (i + 1) m' ys H5))
theorem lA{tg iter elt:Expr}{ifs:List Expr}{pos Kw:Pos}{wi:TI}{g:TG}{tc:TT}{te:TE}{use:Option (Value->Sem Unit)}{Q':Value->Shared->Prop}{Q:VK}{pins:List (Addr×Obj)}{σ:L2.St}{H:Hp}{s:Shared}
  (hc:X.calm=true) (B:iX X scope tn cn cap) (hi:PI X tg iter wi) (hs:∀ x,foldedSetIterable iter X.env x=pure x)
  (BU:∀ v σ H Q,g v σ H Q->g v σ H fun σ' H'=>Q σ' H'/\σ'.length=σ.length/\∀ j,tn.length<=j->σ'[j]?=σ[j]?)
  (hb:∀ cl C s₀ H₀ fp,PG (blk X scope cl C (tn++cn) s₀ H₀ fp) tg g/\yF (blk X scope cl C (tn++cn) s₀ H₀ fp) ifs tc/\PE (blk X scope cl C (tn++cn) s₀ H₀ fp) elt te)
  (fin:∀ (s':Shared) (H':Hp) (C D:Addr) (m:Str->Option Value),Inv X pins σ H' s'->s'.heap.Ns C m->H' C=none->C≠X.env.locals->X.s₀.heap.objs.size<=C->(∀ x c,X.env.cells.lookup x=some c->c≠C)->(∀ p∈X.pn++pins,p.1≠C)->Q (.ref D) H' ->
   compPost (model X.prog X.w) X.A X.xe use Q' (.ref D) C (.ok .next) s')
  (I:Inv X pins σ H s) (h:lz wi tn.length cap g tc te σ H Q) :
  wpAny (model X.prog X.w) X.A (comprehension (.ListComp elt [⟨tg,iter,ifs,0⟩] scope pos) scope X.env Kw (newList []) false (eval iter X.env) use) Q' X.xe s:=by
 have hfr:∀ y∈scope.names,y.2=.free->∃ c,X.env.cells.lookup y.1=some c:=fun y hy hk=>I.ok.has y.1 (B.free y hy hk)
 obtain⟨cl,hcl,c1,c2⟩:=pZ hfr;refine wpAny_comprehension_free (use:=use) rfl hs hcl B.kind B.names ?_;refine bU (hi pins s σ H _ I h) fun v s1 h1=>bU h1 fun itv s2 h2 => ?_
 obtain⟨it,fp,Kx,J,H2,e,I2,T,st2,f2,h⟩:=h2;subst e;have fr:=I2.hok.fresh (Nat.le_refl s2.heap.objs.size);obtain⟨W,⟨m0,w0⟩,turn⟩:=h s2.heap.objs.size fr;refine wpAny_newObj_type (wpAny_newFunctionEnv B.cell (fun y hy=>absurd hy (by simp)) (fun h1 ns sb => ?_) B.kind)
 have hsz:(s2.heap.push { cls:=.type "list",dict:=none,data:=.seq ([]:List Value).toArray }).objs.size=s2.heap.objs.size + 1:=Heap.size_push _ _;dsimp only at ns sb ⊢;rw[hsz]at ns sb ⊢;have kp:∀ b o,s2.heap.get? b=some o->h1.get? b=some o:=fun b o e=>sb.extBut b o (Nat.ne_of_lt (Nat.lt_succ_of_lt (Heap.lt_size e))) (Heap.get?_push_of_some _ (Heap.get?_push_of_some _ e))
 have hD:∃ n,h1.get? s2.heap.objs.size=some { cls:=.type "list",data:=.seq ([]:List Value).toArray n }:=⟨0,sb.extBut _ _ (Nat.ne_of_lt (Nat.lt_succ_self _)) (Heap.get?_push_of_some _ (Heap.get?_push_size _ rfl))⟩;have hfo:∀ b∈fp,∃ o,s2.heap.get? b=some o:=fun b hb=>let ⟨o,e,_⟩:=T.obj 0 _ st2 b hb;⟨o,e⟩
 have I4:Inv (blk X scope cl (s2.heap.objs.size + 1) (tn++cn) s2 H2 fp) [] (fF tn.length cap σ) (upd H2 s2.heap.objs.size (.lst [])) { s2 with heap:=h1,toks:=s2.toks + ([]:List (Str×Value)).length }:=
  tG B I2 f2 hfo c1 c2 kp hD ns
 obtain⟨hg,ht,he⟩:=hb cl (s2.heap.objs.size + 1) s2 H2 fp;have N1:Kx 0 h1:=T.keep 0 _ _ st2 fun b hb o e=>kp b o e
 have Qh:∀ b∈fp,upd H2 s2.heap.objs.size (.lst []) b=none:=fun b hb=>by
  obtain⟨o,e⟩:=hfo b hb;rw[aG (Nat.ne_of_lt (Heap.lt_size e))];exact(f2 b hb).1
 have stat:∀ {H':Hp} {pl:List (Addr×Obj)},(∀ b∈fp,H' b=none)->∀ b∈fp,kP (blk X scope cl (s2.heap.objs.size + 1) (tn++cn) s2 H2 fp) [] H' b:=fun hn b hb=>
  ⟨hn b hb,(I4.ok.Bg b hb).1,I4.ok.nQ b hb,.inl hb,(I4.ok.Bg b hb).2,fun p hp=>absurd (show p∈([]:List (Addr×Obj)) from hp) (by simp)⟩
 have loop:codeAny (model X.prog X.w) X.A (.compLoop (.ListComp elt [⟨tg,iter,ifs,0⟩] scope pos) 0 (.ref it) (.ref s2.heap.objs.size) (compEnvC scope cl (s2.heap.objs.size + 1) X.env))
   (compPost (model X.prog X.w) X.A X.xe use Q' (.ref s2.heap.objs.size) (s2.heap.objs.size + 1)) { s2 with heap:=h1,toks:=s2.toks + ([]:List (Str×Value)).length }:=by
  refine tF (fun n s'=>∃ i ys H',Inv (blk X scope cl (s2.heap.objs.size + 1) (tn++cn) s2 H2 fp) [] (fF tn.length cap σ) H' s'/\Kx i s'.heap/\(∀ b∈fp,H' b=none)/\W i n ys H') ?_ m0 ⟨0,[],_,I4,N1,Qh,w0⟩
  rintro n s5 ⟨i,ys,H5,I5,DR,N2,w5⟩;obtain⟨E7,alt⟩:=turn i n ys H5 w5;rcases alt with ⟨stop,qn⟩ | ⟨go,hlen,step⟩
  ·refine bU (T.done (blk X scope cl (s2.heap.objs.size + 1) (tn++cn) s2 H2 fp) rfl rfl rfl hc i [] s5 _ H5 _ I5 (stat (pl:=[]) N2) DR stop) fun r s6 ⟨hr,I6⟩ => ?_
   subst hr;obtain⟨mC,nC,_⟩:=I6.loc
   have I7:Inv X pins σ H5 s6:=by
    refine I2.call' I6.os I6.base I6.hok I6.bare fun b hb => ?_
    obtain⟨f0,f1,f3,f4,f5,f6⟩:=f2 b hb;exact⟨f4,f1,f5,f6⟩
   have hC:s2.heap.objs.size<=s2.heap.objs.size + 1:=Nat.le_succ _;refine fin s6 H5 (s2.heap.objs.size + 1) s2.heap.objs.size mC I7 nC I6.free (Nat.ne_of_gt (Nat.lt_of_lt_of_le I2.lt hC)) (Nat.le_trans I2.sz hC) (fun x c e z => ?_) (fun p hp z => ?_) qn
   ·obtain⟨v,q⟩:=I2.cell x c e
    exact absurd (Nat.lt_of_lt_of_le q.lt (by rw[z];exact hC)) (Nat.lt_irrefl _)
   ·exact absurd (Nat.lt_of_lt_of_le (Heap.lt_size (I2.pin p hp).1) (by rw[z];exact hC)) (Nat.lt_irrefl _)
  ·refine bU (T.item (blk X scope cl (s2.heap.objs.size + 1) (tn++cn) s2 H2 fp) rfl rfl rfl hc i [] s5 _ H5 _ I5 (stat (pl:=[]) N2) DR go) fun r s6 ⟨u,hr,h6⟩ => ?_
   subst hr;refine bU h6 fun _ s7 ⟨x,H7,I7,r7,y7,Ky,Qi⟩ => ?_
   have Qj:=I7.pinned (stat (pl:=[]) Qi) (T.obj _ _ Ky);refine bU (hg _ s7 _ H7 x u _ Qj r7 (BU _ _ _ _ (step x H7 y7))) fun _ s8 ⟨Il,H8,I8,q8,l8,k8⟩ => ?_
   refine bU (ht _ s8 Il H8 _ I8 q8) fun ok s9 ⟨H9,I9,q9⟩ => ?_
   have again:∀ {sA:Shared} {HA:Hp},Inv (blk X scope cl (s2.heap.objs.size + 1) (tn++cn) s2 H2 fp) ([]++jF fp s7.heap) Il HA sA->Inv (blk X scope cl (s2.heap.objs.size + 1) (tn++cn) s2 H2 fp) [] (fF tn.length cap σ) HA sA/\Kx (i + 1) sA.heap/\∀ b∈fp,HA b=none:=fun {sA HA} IA=>by
    refine⟨(IA.g0 (pins:=[])).weak l8.symm fun j v hj => ?_,T.keep _ _ _ Ky fun b hb o e=>(IA.pin (b,o) (List.mem_append_right _ (List.mem_append_right _ (fj hb e)))).1,fun b hb => ?_⟩
    ·have hjt:tn.length<=j:=by
      refine Nat.le_of_not_lt fun hlt => ?_
      have:(fF tn.length cap σ)[j]?=some none:=by
       unfold fF;rw[List.getElem?_append_left (by simpa using hlt),List.getElem?_replicate,if_pos hlt]
      rw[this]at hj;cases hj
     rw[k8 j hjt];exact hj
    ·obtain⟨o,e,_⟩:=T.obj _ _ Ky b hb
     exact(IA.pin (b,o) (List.mem_append_right _ (List.mem_append_right _ (fj hb e)))).2.1
   cases ok with
   | false=>
    rw[if_neg Bool.false_ne_true]at q9 ⊢;obtain⟨m',hm,w'⟩:=q9;obtain⟨a1,a2,a3⟩:=again I9;exact⟨m',hm,i + 1,ys,H9,a1,a2,a3,w'⟩
   | true=>
    rw[if_pos rfl]at q9 ⊢;refine bU (he _ s9 Il H9 _ I9 q9) fun y sB ⟨v,HB,IB,rB,Qk,m',hm,w'⟩ => ?_
    have hx:=lu (X:=blk X scope cl (s2.heap.objs.size + 1) (tn++cn) s2 H2 fp) _ sB Il HB (.ref s2.heap.objs.size) [v] (.ref s2.heap.objs.size) [y] (fun _ H'=>H'=upd HB s2.heap.objs.size (.lst (ys++[v]))) IB rfl (.cons rB .nil)
     ⟨s2.heap.objs.size,ys,v,rfl,rfl,Qk,hlen,rfl⟩
    refine bU hx fun _ sC ⟨_,HC,IC,_,eC⟩ => ?_
    subst eC;obtain⟨a1,a2,a3⟩:=again IC;exact⟨m',hm,i + 1,ys++[v],_,a1,a2,a3,w'⟩
 exact codeAny_compStart_list loop (T.self X.A 0 _ _ _ N1 loop)
theorem yJ{tg iter elt:Expr}{ifs:List Expr}{pos:Pos}{wi:TI}{g:TG}{tc:TT}{te:TE}(hc:X.calm=true)(B:iX X scope tn cn cap)(hi:PI X tg iter wi)(hs:∀ x,foldedSetIterable iter X.env x=pure x)
  (BU:∀ v σ H Q,g v σ H Q->g v σ H fun σ' H'=>Q σ' H'/\σ'.length=σ.length/\∀ j,tn.length<=j->σ'[j]?=σ[j]?)
  (hb:∀ cl C s₀ H₀ fp,PG (blk X scope cl C (tn++cn) s₀ H₀ fp) tg g/\yF (blk X scope cl C (tn++cn) s₀ H₀ fp) ifs tc/\PE (blk X scope cl C (tn++cn) s₀ H₀ fp) elt te) :
  PE X (.ListComp elt [⟨tg,iter,ifs,0⟩] scope pos) (lz wi tn.length cap g tc te):=by
 intro pins s σ H Q I h;rw[eval_ListComp];refine lA (use:=none) hc B hi hs BU hb (fun s' H' C D m I' ns h1 h2 h3 h4 h5 q=>⟨m,ns,fun h' sb => ?_⟩) I h
 exact⟨.ref D,H',I'.turned (it:=C) (t':=s'.toks) (fun b o nb e=>sb.extBut b o nb e) h1 h2 (.inr h3) h4 h5,rfl,q⟩
theorem p7{tg iter elt:Expr}{ifs:List Expr}{pos pos' spos:Pos}{wi:TI}{g:TG}{tc:TT}{te:TE}{i:Nat}{x:Str}(hN:X.N.Nodup)(hi':X.N[i]?=some x)(hx:X.env.scope.names.lookup x=some .local)
  (hsw:swapsWith (.ListComp elt [⟨tg,iter,ifs,0⟩] scope pos) (some (.Name x pos')) spos.line X.env=pure true) (hc:X.calm=true) (B:iX X scope tn cn cap) (hi:PI X tg iter wi) (hs:∀ x,foldedSetIterable iter X.env x=pure x)
  (BU:∀ v σ H Q,g v σ H Q->g v σ H fun σ' H'=>Q σ' H'/\σ'.length=σ.length/\∀ j,tn.length<=j->σ'[j]?=σ[j]?)
  (hb:∀ cl C s₀ H₀ fp,PG (blk X scope cl C (tn++cn) s₀ H₀ fp) tg g/\yF (blk X scope cl C (tn++cn) s₀ H₀ fp) ifs tc/\PE (blk X scope cl C (tn++cn) s₀ H₀ fp) elt te) :
  PS X (.Assign [.Name x pos'] (.ListComp elt [⟨tg,iter,ifs,0⟩] scope pos) spos) (Bn (lz wi tn.length cap g tc te) (gF i)):=by
 intro pins s σ H D I h;rw[exec_Assign_Name_used _ _ _ _ hsw];refine wpAny_bind (wpAny_standAt (wpAny_bind ?_));refine wpAny_bind (m:=comprehension (.ListComp elt [⟨tg,iter,ifs,0⟩] scope pos) scope X.env _ (newList []) false (eval iter X.env) (some (assign (.Name x pos') X.env))) ?_;refine lA (use:=some (assign (.Name x pos') X.env)) (Q':=fun _ s'=>wpAny (model X.prog X.w) X.A (pure ()) (fun _ s''=>wpAny (model X.prog X.w) X.A (pure Flow.next) (SP X pins D) X.xe s'') X.xe s') hc B hi hs BU hb (fun s' H' C Dl m I' ns h1 h2 h3 h4 h5 q => ?_) I h
 show wpAny (model X.prog X.w) X.A (assign (.Name x pos') X.env (.ref Dl)) _ _ s'
 refine wpAny_assign_Name (la I' hN hi' (.inl hx) (v:=.ref Dl) rfl (fun s2 I2 ch => ?_) (.inr hx))
 obtain⟨a,sb,ha⟩:=ch
 have DP:C≠a:=by
  rcases ha with rfl | ha
  ·exact h2
  ·exact fun z=>h4 _ _ ha z.symm
 refine⟨m,ns.sameBut sb DP,fun h' Ql=>wpAny_pure (wpAny_pure ?_)⟩
 exact⟨_,H',I2.turned (it:=C) (t':=s2.toks) (fun b o nb e=>Ql.extBut b o nb e) h1 h2 (.inr h3) h4 h5,q⟩
end
theorem PI.imp{X:Cx}{tg e:Expr}{t t':TI}(h:PI X tg e t)(i:∀ σ H R,t' σ H R->t σ H R):PI X tg e t':=fun pins s σ H R I q=>h pins s σ H R I (i σ H R q)
section
variable{Z:Addr->Prop}{H:Hp}
theorem jV:∀ (n:Nat) (lo:Int),(intsFrom lo n).length=n
 | 0,_=>rfl
 | n + 1,lo=>by rw[intsFrom,List.length_cons,jV n]
theorem ints_get:∀ (n:Nat) (lo:Int) (i:Nat) (d:D),(intsFrom lo n)[i]?=some d->d=.int (lo + i)
 | 0,_,_,_,h=>by simp[intsFrom]at h
 | n + 1,lo,0,d,h=>by simp[intsFrom]at h;subst h;simp
 | n + 1,lo,i + 1,d,h=>by
  simp only[intsFrom,List.getElem?_cons_succ]at h;rw[ints_get n (lo + 1) i d h]
  congr 1
  omega
noncomputable def N3(x:Str):It:=⟨fun i _=>i < x.cps.size,fun i H v H'=>H'=H/\∃ c,x.cps[i]?=some c/\v=.str ⟨#[c]⟩,fun i _=>x.cps.size<=i⟩
end
theorem vE{P:Program}{w:World}{K:PySem.W.Frag}{tg:Expr}(it:Addr)(x:Str)(t:Tok)(ty:String)(hty:ty="str_ascii_iterator"\/ty="str_iterator"):Turn P w K tg (N3 x) [it] it (fun i h=>h.IsStrIter it ty x t i) where
 mem:=by simp
 obj:=fun i h st b hb=>by
  obtain rfl:b=it:=by simpa using hb
  obtain⟨o,e,c,d⟩:=st;exact⟨o,e,fun v z=>by rw[d]at z;cases z⟩
 keep:=fun i h h' st k=>let ⟨o,e,r⟩:=st;⟨o,k it (by simp) o e,r⟩
 item:=by
  intro X hP hw hK hc i pins s σ H E I hf st hg;subst hP hw hK;obtain⟨f0,f1,f2,f3,f4,f5⟩:=hf it (by simp)
  have W:Walks X.prog X.w X.A it [it] [it] x.cps.size (SignAt x) (fun i h=>h.IsStrIter it ty x t i):=by
   rcases hty with rfl | rfl
   ·exact Walks.strAscii (I.ok.hd hc) it x t
   ·exact Walks.strWide (I.ok.hd hc) it x t
  refine W.item i s _ _ hg st fun v h' tk hv st' kk => ?_
  obtain⟨c,u,hx,rfl⟩:=hv;have I1:Inv X pins σ H { s with heap:=h',toks:=tk }:=I.turned (fun b o hb e=>kk b o (by simpa using hb) e) f0 f1 f3 f4 f5
  obtain⟨o,e,q,d⟩:=id st';refine⟨_,rfl,qP (s:={ s with heap:=h',toks:=tk }) (n:=ty) e q d (by rcases hty with rfl | rfl<;>decide) ⟨.str ⟨#[c]⟩,H,I1,⟨u,rfl⟩,⟨rfl,c,hx,rfl⟩,st',fun b hb=>(hf b hb).1⟩⟩
 done:=by
  intro X hP hw hK hc i pins s σ H E I hf st hg;subst hP hw hK;obtain⟨f0,f1,f2,f3,f4,f5⟩:=hf it (by simp)
  have hi:x.cps.size<=i:=hg;rcases hty with rfl | rfl
  ·exact wpAny_pyNext_ascii_end (I.ok.hd hc) st (by simp[hi]) fun h' eb=>⟨rfl,I.turned (t':=s.toks) (fun b o hb e=>eb b o hb e) f0 f1 f3 f4 f5⟩
  ·exact wpAny_pyNext_wide_end (I.ok.hd hc) st (by simp[hi]) fun h' eb=>⟨rfl,I.turned (t':=s.toks) (fun b o hb e=>eb b o hb e) f0 f1 f3 f4 f5⟩
 self:=fun A i s Q E st h=>by
  rcases hty with rfl | rfl
  ·exact wpAny_pyIter_striter_ascii st h
  ·exact wpAny_pyIter_striter_wide st h
section
variable{X:Cx}{Γ:kX}{bw:Bool}{tg e:Expr}{c cs:Ex}{pos p:Pos}
def Kz(K:PySem.W.Frag)(tl:TE):TI:=fun σ H R=>tl σ H fun x H1=>(∃ a xs,x=.ref a/\Rd H1 a (.lst xs)/\R (Kd K a) H1)\/(∃ a xs,x=.ref a/\Rd H1 a (.tup xs)/\R (Ke K a) H1)\/∃ y,x=.str y/\R (N3 y) H1
theorem BV{tl:TE}(hl:PE X e tl):PI X tg e (Kz X.K tl):=by
 intro pins s σ H R I h;refine bU (hl pins s σ H _ I h) fun v s1 ⟨x,H1,I1,r1,q1⟩ => ?_
 have fp:∀ b∈[s1.heap.objs.size],kP X pins H1 b:=fun b hb=>by
  obtain rfl:b=s1.heap.objs.size:=by simpa using hb
  exact I1.uG (Nat.le_refl _) (I1.hok.fresh (Nat.le_refl _))
 rcases q1 with ⟨a,xs,rfl,hq,q⟩ | ⟨a,xs,rfl,hq,q⟩ | ⟨y,rfl,q⟩
 ·cases r1
  obtain⟨its,rv,pl,hz⟩:=I1.list (jb (K:=X.K) hq);refine wpAny_pyIter_list pl.isList ?_;exact⟨s1.heap.objs.size,[s1.heap.objs.size],_,_,H1,rfl,I1.kept (t':=s1.toks) fun b o e=>Heap.get?_push_of_some _ e,sT a _,⟨_,Heap.get?_push_size _ rfl,rfl,rfl⟩,fp,q⟩
 ·cases r1
  obtain⟨its,rv,pl,hz⟩:=I1.tuple (tD (K:=X.K) hq);refine wpAny_pyIter_tuple (show s1.heap.IsTuple a its.toArray from pl) ?_
  exact⟨s1.heap.objs.size,[s1.heap.objs.size],_,_,H1,rfl,I1.kept (t':=s1.toks) fun b o e=>Heap.get?_push_of_some _ e,pE a _,⟨_,Heap.get?_push_size _ rfl,rfl,rfl⟩,fp,q⟩
 ·obtain⟨t,rfl⟩:=r1
  refine wpAny_pyIter_strU ?_;exact⟨s1.heap.objs.size,[s1.heap.objs.size],_,_,H1,rfl,I1.kept (t':=s1.toks) fun b o e=>Heap.get?_push_of_some _ e,vE _ y t (strIterType y) (by unfold strIterType;split<;>simp),⟨_,Heap.get?_push_size _ rfl,rfl,rfl⟩,fp,q⟩
end
section
variable{X:Cx}{Γ:kX}{bw:Bool}{tg iter elt:Expr}{ifs:List Expr}{scope:Scope}{tn cn:List Str}{cap:List Nat}{Qm cc SX:Ex}{pos:Pos}{n:Nat}
theorem iY(n:Nat)(hn:0 < n):∀ v σ H Q,gF 0 v σ H Q->gF 0 v σ H fun σ' H'=>Q σ' H'/\σ'.length=σ.length/\∀ j,n<=j->σ'[j]?=σ[j]?:=fun v σ H Q h=>⟨h,by simp,fun j hj=>by
 rw[List.getElem?_set_ne];omega⟩
end
theorem PS.imp{X:Cx}{st:Stmt}{t t':TS}(h:PS X st t)(i:∀ D σ H,t' D σ H->t D σ H):PS X st t':=fun pins s σ H D I q=>h pins s σ H D I (i D σ H q)
theorem gZ.imp{X:Cx}{st:List Stmt}{t t':TS}(h:gZ X st t)(i:∀ D σ H,t' D σ H->t D σ H):gZ X st t':=fun pins s σ H D I q=>h pins s σ H D I (i D σ H q)
section
variable{X:Cx}{Γ:kX}{e:Expr}{c:Ex}{st:Stmt}{rest:List Stmt}{a b:N4}{pos pos':Pos}
end
section
variable{Z0 Z1 Z:Addr->Prop}{H0 H1 H:Hp}{ρ:yz}{σ:L2.St}
end
section
variable{X:Cx}{Γ:kX}{tg e:Expr}{c:Ex}{b:N4}{tb:List Stmt}{pos pos':Pos}
def iH:List Nat->Az
 | []=>El
 | i::is=>AA (gF i) (iH is)
theorem lB{nms:List (Str×Pos)}(hN:X.N.Nodup):∀ (is:List Nat) (nms:List (Str×Pos)),is.length=nms.length->(∀ (j i:Nat) (x:Str×Pos),is[j]?=some i->nms[j]?=some x->X.N[i]?=some x.1/\Loc X.env.scope x.1/\(X.fn x.1=true\/X.env.scope.names.lookup x.1=some .local)) ->
  Ek X (nms.map fun x=>Expr.Name x.1 x.2) (iH is)
 | [],[],_,_=>xZ
 | [],_::_,h,_=>by cases h
 | _::_,[],h,_=>by cases h
 | i::is,(x,px)::nms,hl,h=>by
  obtain⟨h1,h2,h3⟩:=h 0 i (x,px) rfl rfl;exact uE (ji hN h1 h2 h3) (lB (nms:=nms) hN is nms (by simpa using hl) fun j i x e1 e2=>h (j + 1) i x (by simpa using e1) (by simpa using e2))
end
section
variable{X:Cx}{Γ:kX}{e o:Expr}{c:Ex}{i j:Nat}{x y:Str}{p0 p1 p2 p3 p4 p5 pos:Pos}
end
theorem fU{X:Cx}{pins:List (Addr×Obj)}{σ:L2.St}{H:Hp}{s:Shared}{h':Heap}{t':Nat}{fp:List Addr}{a:Addr}{o:HO}(I:Inv X pins σ H s)(hf:∀ b∈fp,kP X pins H b)
  (k:∀ b o,b∉fp->s.heap.get? b=some o->h'.get? b=some o) (ha:s.heap.objs.size<=a) (new:cy X.prog X.w (upd H a o) h' a o):Inv X pins σ (upd H a o) { s with heap:=h',toks:=t' }:=by
 have hn:=I.hok.fresh ha;have N5:∀ b u,H b=some u->b∉fp:=fun b u e z=>by rw[(hf b z).1]at e;cases e
 have up:∀ b u,H b=some u->upd H a o b=some u:=fun b u e=>by rw[aG (ba e hn)];exact e
 refine I.step (g':=s.gens) (d':=s.drawn) (ch:=fp) (fun b hb => ?_) (fun b o _ _ hc e _=>k b o hc e) (fun b o _ _ hc e _=>⟨o.slots,k b o hc e⟩) (fun b u _ e n => ?_)
  (fun b o hc e=>⟨o,k b o hc e⟩) (fun b xs e=>up b _ e) (fun b u v e=>up b _ e) (fun b ps e=>⟨#[],by rw[up b _ e];simp⟩) (fun m hm => ?_) (fun b u e => ?_) I.bare
 ·obtain⟨f0,f1,f2,f3,f4,f5⟩:=hf b hb
  exact⟨f3,f1,f4,f5⟩
 ·have:b≠a:=fun z=>absurd (Heap.lt_size e) (by rw[z];exact Nat.not_lt.mpr ha)
  rw[aG this];exact n
 ·obtain⟨o,es,ep,ho,r⟩:=hm
  exact⟨o,es,ep,k _ o (fun z=>(hf _ z).2.1 rfl) ho,r⟩
 ·by_cases hb:b=a
  ·subst hb
   rw[bo]at e;cases e
   exact new
  ·rw[aG hb]at e
   refine(I.hok b u e).stay (fun c v hc q=>k c v ?_ q) (fun c q=>up c _ q) fun c _ q=>up c _ q
   rcases hc with z | z
   ·rw[z];exact N5 b u e
   ·exact N5 c _ z
def N6(K:PySem.W.Frag)(a:Addr):It:=
 ⟨fun i H=>∃ xs x,jg K H a xs/\xs[i]?=some x,fun i H x H'=>∃ p,x=.ref p/\H p=none/\∀ xs,jg K H a xs->∃ v,xs[i]?=some v/\H'=upd H p (.tup [.int i,v]),fun i H=>∃ xs,jg K H a xs/\xs.length<=i⟩
theorem tH{P:Program}{w:World}{K:PySem.W.Frag}{elts:List Expr}{x1:Nat}{tpos:Pos}(a e it:Addr)(hne:e≠it) :
  Turn P w K (.Tuple elts x1 tpos) (N6 K a) [e,it] e (fun i h=>(∃ old,IsEnum h e it i old)/\h.IsListIter it a i) where
 mem:=by simp
 obj:=fun i h st b hb=>by
  obtain⟨⟨old,st1⟩,o,e2,c,d⟩:=st;rcases List.mem_cons.mp hb with z | z
  ·subst z
   exact⟨_,st1,fun v z=>by
    have z':Data.fields _=Data.cell v:=z;cases z'⟩
  ·have z:b=it:=by simpa using z
   subst z;exact⟨o,e2,fun v z=>by rw[d]at z;cases z⟩
 keep:=fun i h h' st k=>by
  obtain⟨⟨old,st1⟩,st2⟩:=st;exact⟨⟨old,k e (by simp) _ st1⟩,st2.at fun o q=>k it (by simp) o q⟩
 item:=by
  intro X hP hw hK hc i pins s σ H E I hf st hg;subst hP hw hK;obtain⟨xs,x,hq,hx⟩:=hg;obtain⟨⟨old,st1⟩,st2⟩:=st;obtain⟨its,rv,p,hz⟩:=I.list hq;obtain⟨u,hu,ru⟩:=rv.get hx;refine wpAny_pyNext_enum_item st1 st2 p.isList (x:=u) (by simpa using hu) hne fun h' so si tu sz kp => ?_
  refine⟨_,rfl,wpAny_letOwnedTupleGo_enum (s:={ s with heap:=h',toks:=s.toks + 1 }) so fun h2 se sb => ?_⟩
  have BS:∀ b o,b∉[e,it]->s.heap.get? b=some o->h2.get? b=some o:=fun b o hb q=>by
   have h1:b≠e:=fun z=>hb (by simp[z])
   have h3:b≠it:=fun z=>hb (by simp[z])
   exact sb.extBut b o h1 (kp b o h1 h3 q)
  have hel:e < s.heap.objs.size:=Heap.lt_size st1;have KA:h2.get? s.heap.objs.size=some { cls:=.type "tuple",data:=.seq #[.int i s.toks,u] }:=sb.extBut _ _ (Nat.ne_of_gt hel) tu;have se':∃ old,IsEnum h2 e it ((i + 1:Nat):Int) old:=⟨u,by rw[show((i + 1:Nat):Int)=(i:Int) + 1 by omega];exact se⟩
  refine⟨.ref s.heap.objs.size,upd H s.heap.objs.size (.tup [.int i,x]),?_,rfl,⟨_,rfl,I.hok.fresh (Nat.le_refl _),fun ys hy=>⟨x,by rw[I.nS hy hq];exact hx,rfl⟩⟩,⟨se',?_⟩,fun b hb => ?_⟩
  ·have tup:IsTup h2 s.heap.objs.size [Value.int i s.toks,u].toArray:=⟨_,KA,rfl,_,rfl⟩
   have new:cy X.prog X.w (upd H s.heap.objs.size (.tup [.int i,x])) h2 s.heap.objs.size (.tup [.int i,x]):=⟨by rw[sizeLine_eq];simp,[.int i s.toks,u],.cons ⟨_,rfl⟩ (.cons ru .nil),tup⟩
   have:=fU (s:=s) (h':=h2) (t':=s.toks + 1) I hf BS (Nat.le_refl _) new;exact this
  ·exact si.extBut sb.extBut (Ne.symm hne)
  ·have hlt:b < s.heap.objs.size:=by
    rcases List.mem_cons.mp hb with z | z
    ·subst z;exact hel
    ·have z:b=it:=by simpa using z
     subst z;obtain⟨o,q,_⟩:=st2;exact Heap.lt_size q
   rw[aG (Nat.ne_of_lt hlt)];exact(hf b hb).1
 done:=by
  intro X hP hw hK hc i pins s σ H E I hf st hg;subst hP hw hK;obtain⟨xs,hq,hx⟩:=hg;obtain⟨⟨old,st1⟩,st2⟩:=st;obtain⟨its,rv,p,hz⟩:=I.list hq;obtain⟨f0,f1,f2,f3,f4,f5⟩:=hf it (by simp)
  have hl:=rv.length;exact wpAny_pyNext_enum_end (I.ok.hd hc) st1 st2 p.isList (by simp;omega) fun h' eb=>⟨rfl,I.turned (t':=s.toks) (fun b o hb e=>eb b o hb e) f0 f1 f3 f4 f5⟩
 self:=fun _ _ _ _ _ st h=>by
  obtain⟨⟨old,st1⟩,_⟩:=st;exact wpAny_pyIter_enum st1 h
theorem h_:∀ (ds:List D) (k:Nat),(cY k ds).length=ds.length
 | [],_=>rfl
 | d::ds,k=>by rw[cY,List.length_cons,List.length_cons,h_ ds]
theorem jl:∀ (ds:List D) (k i:Nat) (d:D),(cY k ds)[i]?=some d->∃ x,ds[i]?=some x/\d=.tup [.int (k + i:Nat),x]
 | [],_,_,_,h=>by simp[cY]at h
 | d::ds,k,0,d',h=>by simp[cY]at h;exact⟨d,rfl,h.symm⟩
 | d::ds,k,i + 1,d',h=>by
  simp only[cY,List.getElem?_cons_succ]at h;obtain⟨x,h1,h2⟩:=jl ds (k + 1) i d' h;exact⟨x,by simpa using h1,by rw[h2,show k + 1 + i=k + (i + 1) by omega]⟩
theorem mF:∀ {ds:List D} {xs:List Str} {Z:Addr->Prop} {H:Hp} {vs:List V} {us:List Value},eF ds=some xs->aR Z H ds vs->Vals vs us->StrsAre us xs
 | [],xs,Z,H,vs,us,h,r,q=>by
  cases h;rw[r.nil_inv]at q;cases q;exact .nil
 | d::ds,xs,Z,H,vs,us,h,r,q=>by
  obtain⟨v,rs,rfl,r1,r2⟩:=r.cons_inv;cases d with
  | str x=>
   simp only[eF]at h;obtain⟨ys,h1,rfl⟩:=Option.map_eq_some_iff.mp h;simp only[Rep]at r1;subst r1;cases q with
   | cons qa qb=>
    obtain⟨t,rfl⟩:=qa;exact .cons x t (mF h1 r2 qb)
  | _=>cases h
def rJoin:V->List V->Hp->VK->Prop:=fun x vs H Q=>∃ z Z ds xs y,x=.str z/\vs=[y]/\Now Z H (.lst ds) y/\eF ds=some xs/\z.length<=16/\(xs.map (·.length)).sum + xs.length<=1048576/\Q (.str (Txt.join z xs)) H
theorem yK{X:Cx}:DU X "str.join" rJoin:=by
 intro pins s σ H x vs v us Q I rx rv h;obtain⟨z,Z,ds,xs,y,rfl,rfl,n,hs,h1,h2,q⟩:=h;obtain⟨t,rfl⟩:=rx;obtain⟨l,ws,rfl,q1,q2⟩:=cz n;obtain⟨u,rfl,ru⟩:=rv.one;cases ru;obtain⟨its,rv',pl,hz⟩:=I.list (jb (K:=X.K) q1);exact join_listW pl.isList (by simpa using mF hs q2 rv') h1 h2 fun t' k=>⟨.str _,H,I.tok _,⟨t',rfl⟩,q⟩
theorem yL{v v':V}{u:Value}(h:L2.RelV v u)(h':L2.RelV v' u):v=v':=by
 cases v<;>cases v'<;>simp only[L2.RelV]at h h'<;>first
  | (obtain⟨t,rfl⟩:=h;obtain⟨t',e⟩:=h';cases e;done)
  | (obtain⟨t,rfl⟩:=h;obtain⟨t',e⟩:=h';cases e;rfl)
  | (obtain⟨t,rfl⟩:=h;cases h';done)
  | (subst h;obtain⟨t',e⟩:=h';cases e;done)
  | (subst h;cases h';done)
  | (subst h;cases h';rfl)
  | rfl
theorem rz{H:Hp}{a:Addr}{u:HO}{vs:List V}(h:Rd H a (.lst vs))(h':Rd H a u)(hu:∀ o w,u≠.i7 o w):u=.lst vs:=by
 rcases h with h | ⟨o,h⟩<;>rcases h' with h' | ⟨o',h'⟩<;>rw[h]at h'<;>cases h'<;>first | rfl | exact absurd rfl (hu _ _)
theorem rC{H:Hp}{a:Addr}{u:HO}{vs:List V}(h:Rd H a (.tup vs))(h':Rd H a u)(hu:∀ o w,u≠.i7 o w):u=.tup vs:=by
 rcases h with h | ⟨o,h⟩<;>rcases h' with h' | ⟨o',h'⟩<;>rw[h]at h'<;>cases h'<;>first | rfl | exact absurd rfl (hu _ _)
mutual
theorem rD{Z:Addr->Prop}{H:Hp}:∀ {n:Nat} {d d':D} {v:V},aH n d=true->aH n d'=true->Rep Z H d v->Rep Z H d' v->d=d'
 | n,.non,d',v,_,o',h,h'=>by
  simp only[Rep]at h;subst h
  cases d'<;>simp only[Rep]at h'<;>first | rfl | (cases h';done) | (obtain⟨_,_,e,_⟩:=h';cases e)
 | n,.bl b,d',v,_,o',h,h'=>by
  simp only[Rep]at h;subst h
  cases d'<;>simp only[Rep]at h'<;>first | (cases h';rfl) | (cases h';done) | (obtain⟨_,_,e,_⟩:=h';cases e)
 | n,.int b,d',v,_,o',h,h'=>by
  simp only[Rep]at h;subst h
  cases d'<;>simp only[Rep]at h'<;>first | (cases h';rfl) | (cases h';done) | (obtain⟨_,_,e,_⟩:=h';cases e)
 | n,.str b,d',v,_,o',h,h'=>by
  simp only[Rep]at h;subst h
  cases d'<;>simp only[Rep]at h'<;>first | (cases h';rfl) | (cases h';done) | (obtain⟨_,_,e,_⟩:=h';cases e)
 | 0,.lst ds,_,_,o,_,_,_=>by simp[aH]at o
 | 0,.tup ds,_,_,o,_,_,_=>by simp[aH]at o
 | n + 1,.lst ds,d',v,o,o',h,h'=>by
  simp only[Rep]at h;obtain⟨a,vs,rfl,_,h1,h2⟩:=h;cases d' with
  | lst ds'=>
   simp only[Rep]at h';obtain⟨a',vs',e,_,h1',h2'⟩:=h';cases e;have:=rz h1 h1' (fun _ _ z=>by cases z)
   cases this;simp only[aH]at o o';rw[jW o o' h2 h2']
  | tup ds'=>
   simp only[Rep]at h';obtain⟨a',vs',e,_,h1',h2'⟩:=h';cases e;have:=rz h1 h1' (fun _ _ z=>by cases z)
   cases this
  | dct _ _=>simp[aH]at o'
  | ref _=>simp[aH]at o'
  | _=>simp only[Rep]at h';cases h'
 | n + 1,.tup ds,d',v,o,o',h,h'=>by
  simp only[Rep]at h;obtain⟨a,vs,rfl,_,h1,h2⟩:=h;cases d' with
  | lst ds'=>
   simp only[Rep]at h';obtain⟨a',vs',e,_,h1',h2'⟩:=h';cases e;have:=rC h1 h1' (fun _ _ z=>by cases z)
   cases this
  | tup ds'=>
   simp only[Rep]at h';obtain⟨a',vs',e,_,h1',h2'⟩:=h';cases e;have:=rC h1 h1' (fun _ _ z=>by cases z)
   cases this;simp only[aH]at o o';rw[jW o o' h2 h2']
  | dct _ _=>simp[aH]at o'
  | ref _=>simp[aH]at o'
  | _=>simp only[Rep]at h';cases h'
 | n,.dct _ _,_,_,o,_,_,_=>by cases n<;>simp[aH]at o
 | n,.ref _,_,_,o,_,_,_=>by cases n<;>simp[aH]at o
theorem jW{Z:Addr->Prop}{H:Hp}:∀ {n:Nat} {ds ds':List D} {vs:List V},ds.all (aH n)=true->ds'.all (aH n)=true->aR Z H ds vs->aR Z H ds' vs->ds=ds'
 | n,[],ds',vs,_,_,h,h'=>by
  rw[h.nil_inv]at h';cases ds' with
  | nil=>rfl
  | cons d r=>obtain⟨_,_,e,_⟩:=h'.cons_inv;cases e
 | n,d::ds,ds',vs,o,o',h,h'=>by
  obtain⟨v,r,rfl,h1,h2⟩:=h.cons_inv;cases ds' with
  | nil=>exact absurd h'.nil_inv (by simp)
  | cons d' ds'=>
   obtain⟨v',r',e,h1',h2'⟩:=h'.cons_inv;cases e;simp only[List.all_cons,Bool.and_eq_true]at o o';rw[rD o.1 o'.1 h1 h1',jW o.2 o'.2 h2 h2']
end
def vF:V->List V->Hp->VK->Prop:=fun x vs H Q=>∃ Z ds d y j,vs=[y]/\Now Z H (.lst ds) x/\Now Z H d y/\aH 8 d=true/\ds.all (aH 8)=true/\ds.findIdx? (fun e=>dJ e d)=some j/\Q (.int j) H
theorem iI{Z:Addr->Prop}{H:Hp}{ds:List D}{vs:List V}{its:List Value}{m:Nat}(r:aR Z H ds vs)(q:Vals vs its)(hm:m < its.length)(hd:m < ds.length):∃ v,Rep Z H ds[m] v/\L2.RelV v its[m]:=by
 obtain⟨v,h1,h2⟩:=r.get (i:=m) (d:=ds[m]) (by simp[hd])
 obtain⟨u,h3,h4⟩:=q.get h1;rw[List.getElem?_eq_getElem hm]at h3;cases h3;exact⟨v,h2,h4⟩
theorem vG{X:Cx}(hu:X.A.units + 64 < cLine):DU X "list.index" vF:=by
 intro pins s σ H x vs v us Q I rx rv h;obtain⟨Z,ds,d,y,j,rfl,nx,ny,o1,o2,hj,q⟩:=h;obtain⟨l,ws,rfl,q1,q2⟩:=cz nx;cases rx;obtain⟨u,rfl,ru⟩:=rv.one;obtain⟨its,rv',pl,hz⟩:=I.list (jb (K:=X.K) q1);obtain⟨hjl,he,hno⟩:=List.findIdx?_eq_some_iff_getElem.mp hj;have hl:=rv'.length;have hl2:=q2.length;obtain⟨o,n,ho,hc,hd,hdt⟩:=pl;have hdm:∀ m (hm:m < ds.length),aH 8 ds[m]=true:=fun m hm=>List.all_eq_true.mp o2 _ (List.getElem_mem hm)
 have hj2:j < its.length:=by omega
 classical
 let e:Value->Bool:=fun w=>decide (∃ m,∃ (hm:m < its.length) (hd:m < ds.length),its[m]=w/\dJ ds[m] d=true)
 have he':∀ m (hm:m < its.length) (hd:m < ds.length),e its[m]=dJ ds[m] d:=fun m hm hd=>by
  cases hq:dJ ds[m] d with
  | true=>exact decide_eq_true ⟨m,hm,hd,rfl,hq⟩
  | false=>
   refine decide_eq_false ?_;rintro⟨m',hm',hd',e1,e2⟩;obtain⟨v1,r1,p1⟩:=iI q2 rv' hm hd;obtain⟨v2,r2,p2⟩:=iI q2 rv' hm' hd';rw[e1]at p2;have:=yL p1 p2;subst this;rw[rD (hdm m hd) (hdm m' hd') r1 r2]at hq;rw[hq]at e2;cases e2
 refine call_meets F.slot_list_index ⟨_,ho,hc⟩ F.entry_list_index (F.args_list_index_2 _ _)
  (SeqAt.list_indexAt l its.toArray n none o.slots u e j (by rw[List.size_toArray];exact hj2) (by rw[sizeLine_eq]at hz;omega) ?_ ?_) ⟨?_,fun w hw => ?_,?_⟩
 ·show e its[j]=true
  rw[he' j hj2 hjl];exact he
 ·intro m hm Qn
  have hm':m < its.length:=by simpa using hm
  show e its[m]=false
  rw[he' m hm' (by omega)]
  simpa using hno m Qn
 ·rw[ho]
  obtain⟨c',d',dt,sl⟩:=o;cases hc;cases hd;cases hdt;rfl
 ·obtain⟨m,hm,rfl⟩:=List.mem_iff_getElem.mp (show w∈its by simpa using hw)
  have hd':m < ds.length:=by omega
  rw[he' m hm hd'];obtain⟨v1,r1,p1⟩:=iI q2 rv' hm hd';exact e_ I 8 _ _ _ _ _ (by simp[Around.in1];omega) (hdm m hd') o1 (fE I r1.now p1 (hdm m hd')) (fE I ny ru o1)
 ·exact⟨.int j,H,I.tok _,⟨_,rfl⟩,q⟩
end Mir
namespace Mir
open PySem PySem.Spec PyProof.Rows L2
theorem cG:PySem.Slot "list_reverseiterator" "__next__" "list_reverseiterator.__next__":=
 .of (owner:="list_reverseiterator") (n:="__next__") (by rw[typeLookup_type,builtinLookup_eq_fast];kernel_rfl) (by decide +kernel) (by decide +kernel) (by decide +kernel)
  (by first | exact .inl (by decide +kernel) | exact .inr (by decide +kernel)) (by rw[isSubtype_type];kernel_rfl)
theorem gI:PySem.Slot "list_reverseiterator" "__iter__" "list_reverseiterator.__iter__":=
 .of (owner:="list_reverseiterator") (n:="__iter__") (by rw[typeLookup_type,builtinLookup_eq_fast];kernel_rfl) (by decide +kernel) (by decide +kernel) (by decide +kernel)
  (by first | exact .inl (by decide +kernel) | exact .inr (by decide +kernel)) (by rw[isSubtype_type];kernel_rfl)
theorem fV:entryFor table "list_reverseiterator.__next__"=some Builtin.«list_reverseiterator.__next__» := entryFor_of_tree (by kernel_rfl)
theorem gJ(a:Value):argsOk "list_reverseiterator.__next__" ⟨[a],[]⟩:=by unfold argsOk;kernel_rfl
theorem jX:entryFor table "list_reverseiterator.__iter__"=some Builtin.«dict_keyiterator.__iter__» :=
 entryFor_alias (id':="dict_keyiterator.__iter__") (by kernel_rfl) rfl (by decide +kernel) (by kernel_rfl)
theorem kY(a:Value):argsOk "list_reverseiterator.__iter__" ⟨[a],[]⟩:=by unfold argsOk;kernel_rfl
theorem p8:typeLookup (.type "list_reverseiterator") "__len__"=pure none:=by rw[typeLookup_type,builtinLookup_eq_fast];kernel_rfl
theorem kZ:PySem.Slot "list_reverseiterator" "__length_hint__" "list_reverseiterator.__length_hint__":=
 .of (owner:="list_reverseiterator") (n:="__length_hint__") (by rw[typeLookup_type,builtinLookup_eq_fast];kernel_rfl) (by decide +kernel) (by decide +kernel) (by decide +kernel)
  (by first | exact .inl (by decide +kernel) | exact .inr (by decide +kernel)) (by rw[isSubtype_type];kernel_rfl)
abbrev gK(h:Heap)(it l:Addr)(i:Int):Prop:=h.get? it=some { cls:=.type "list_reverseiterator",data:=.fields #[.ref l,rawInt i] }
section
variable{prog:Program}{w:World}{A:Around}{E:Value->Shared->Prop}{s:Shared}
theorem jY{it l:Addr}{i:Int}{Q:Value->Shared->Prop}(hit:gK s.heap it l i)(h:Q (.ref it) s):wpAny (model prog w) A (pyIter (.ref it)) Q E s:=by
 have hT:s.TypeIs (.ref it) "list_reverseiterator":=⟨_,hit,rfl⟩;refine wpAny_pyIter_slot hT gI (wpAny_call_entry gI hT jX ?_ (kY _))
 show wpAny _ _ (ret (.ref it)) _ _ s
 exact wpAny_pure ⟨_,rfl,"list_reverseiterator",_,hT,cG.lookup,h⟩
theorem jd{it l:Addr}{i:Nat}{items:Array Value}{x:Value}{Q:Option Value->Shared->Prop}(hit:gK s.heap it l i)(hl:s.heap.IsList l items)(hx:items[i]?=some x)
  (hQ:∀ h',gK h' it l ((i:Int) - 1)->Heap.SameBut it s.heap h'->Q (some x) { s with heap:=h' }):wpAny (model prog w) A (pyNext (.ref it)) Q E s:=by
 have hT:s.TypeIs (.ref it) "list_reverseiterator":=⟨_,hit,rfl⟩;obtain⟨ol,hol,_,nl,hdl⟩:=hl;unfold pyNext;refine wpAny_bind (wpAny_attempt (wpAny_callSpecial?_slot (name:=Str.ofString "__next__") hT cG (wpAny_call_entry cG hT fV ?_ (gJ _))))
 show wpAny _ _ (field (.ref it) 1 >>= _) _ _ s
 refine wpAny_bind (wpAny_field hit rfl (x:=rawInt i) rfl ?_)
 show wpAny _ _ (if (i:Int) < 0 then _ else _) _ _ s
 rw[if_neg (by omega)]
 show wpAny _ _ (field (.ref it) 0 >>= _) _ _ s
 refine wpAny_bind (wpAny_field hit rfl (x:=.ref l) rfl ?_)
 show wpAny _ _ (seqItems? (.ref l) >>= _) _ _ s
 refine wpAny_bind (wpAny_seqItems hol hdl ?_);simp only[Int.toNat_natCast,hx];refine wpAny_bind (wpAny_setField_rec hit (by simp) fun h' h1 h2 => ?_)
 exact wpAny_pure ⟨x,rfl,wpAny_pure (hQ h' h1 h2)⟩
theorem jZ{it l:Addr}{Q:Option Value->Shared->Prop}(hh:A.handled=none)(hit:gK s.heap it l (-1))(hQ:∀ h',(∀ b o,s.heap.get? b=some o->h'.get? b=some o)->Q none { s with heap:=h' }):wpAny (model prog w) A (pyNext (.ref it)) Q E s:=by
 have hT:s.TypeIs (.ref it) "list_reverseiterator":=⟨_,hit,rfl⟩;unfold pyNext;refine wpAny_bind (wpAny_attempt (wpAny_callSpecial?_slot (name:=Str.ofString "__next__") hT cG (wpAny_call_entry cG hT fV ?_ (gJ _))))
 show wpAny _ _ (field (.ref it) 1 >>= _) _ _ s
 refine wpAny_bind (wpAny_field hit rfl (x:=rawInt (-1)) rfl ?_)
 show wpAny _ _ (if (-1:Int) < 0 then _ else _) _ _ s
 rw[if_pos (by omega)]
 refine wpAny_bind (wpAny_rule ?_);refine wpAny_bind ?_;unfold Builtin.SmallTypes.stopIteration;refine wpAny_bind ?_;simp only[newExc,newTuple];refine wpAny_bind (wpAny_newObj_type ?_ (by size_fits))
 refine wpAny_bind (m:=firstArgMember _ _) (wpAny_of_eq (a:=Value.none) (by first | rfl | (simp only[firstArgMember];rfl)) ?_)
 refine wpAny_newObj_type ?_ (by size_fits)
 simp only[raiseNew];refine wpAny_bind (wpAny_handled ?_);rw[show A.in1.handled=none from hh]
 refine wpAny_bind (wpAny_pure (wpAny_throw ?_));refine wpAny_bind (wpAny_isInstance (T:="StopIteration") (b:=true) ⟨_,Heap.get?_push_size _ rfl,rfl⟩ isSubtype_stop ?_);exact wpAny_pure (hQ _ fun b o e=>Heap.get?_push_of_some _ (Heap.get?_push_of_some _ e))
theorem tI(hh:A.handled=none)(it l:Addr)(hne:it≠l)(items:Array Value):Walks prog w A it [it,l] [it] items.size (fun i v=>items[items.size - 1 - i]?=some v) (fun i h=>gK h it l ((items.size:Int) - 1 - (i:Nat))/\h.IsList l items) where
 sub:=fun b hb=>by simp at hb ⊢;exact .inl hb
 frame:=fun i h h' st hk=>⟨hk it (by simp) _ st.1,let ⟨o,ho,r⟩:=st.2;⟨o,hk l (by simp) o ho,r⟩⟩
 item:=fun i s Q E hi st hQ=>by
  obtain⟨st1,st2⟩:=st;have hx:items[items.size - 1 - i]?=some items[items.size - 1 - i]:=by rw[Array.getElem?_eq_getElem]
  have yM:gK s.heap it l ((items.size - 1 - i:Nat):Int):=by rw[show((items.size - 1 - i:Nat):Int)=(items.size:Int) - 1 - (i:Nat) by omega];exact st1
  refine jd yM st2 hx fun h' h1 h2=>hQ _ h' s.toks hx ⟨?_,?_⟩ fun b o hb e=>h2.extBut b o (fun z=>hb (by simp[z])) e
  ·rw[show(items.size:Int) - 1 - ((i + 1:Nat):Int)=((items.size - 1 - i:Nat):Int) - 1 by omega];exact h1
  ·obtain⟨o,ho,r⟩:=st2
   exact⟨o,h2.extBut l o (Ne.symm hne) ho,r⟩
 done:=fun s Q E st hQ=>by
  obtain⟨st1,st2⟩:=st;rw[show(items.size:Int) - 1 - ((items.size:Nat):Int) = -1 by omega]at st1
  exact jZ hh st1 fun h' hk=>hQ h' s.toks fun b o _ e=>hk b o e
 self:=fun i s Q E st hQ=>jY st.1 hQ
theorem vH{it l:Addr}{i:Int}{Q:Bool->Shared->Prop}(hit:gK s.heap it l i)(h:Q false s):wpAny (model prog w) A (Builtin.List.listLengthHint (.ref it)) Q E s:=by
 have hT:s.TypeIs (.ref it) "list_reverseiterator":=⟨_,hit,rfl⟩;unfold Builtin.List.listLengthHint;refine wpAny_bind (wpAny_specialOf hT p8 ?_)
 show wpAny _ A (specialOf (Value.ref it) (Str.ofString "__length_hint__") >>= _) _ _ _
 refine wpAny_bind (wpAny_specialOf hT kZ.lookup ?_);generalize hid:("list_reverseiterator.__length_hint__":String)=id0
 wp_delta
 rw[show splitId id0=some ("list_reverseiterator","__length_hint__") from by subst hid;decide +kernel]
 subst hid;refine wpAny_bind (wpAny_isInstance (T:="list_reverseiterator") (b:=true) hT (by rw[isSubtype_type];kernel_rfl) ?_)
 refine wpAny_ite_split (fun hab=>absurd hab (by decide)) (fun _ => ?_)
 refine wpAny_ite_split (fun _ => ?_) (fun hab=>absurd (by decide +kernel) hab)
 refine wpAny_ite_split (fun hab=>absurd hab (by decide)) (fun _=>wpAny_pure h)
theorem p9{R:Result->Shared->Prop}{it l:Addr}{items:Array Value}(hh:A.handled=none)(hne:it≠l)(hit:gK s.heap it l ((items.size:Int) - 1))(hl:s.heap.IsList l items)(hn:items.size<=sizeLine)(S:Addr)(res:Value)(c₀:Nat)(hS:s.heap.get? S=some { cls:=.type "list",data:=.seq #[] c₀ })(hSl:S≠l)
  (hR:∀ h' tk acc' c',(∀ b o,b≠S->b≠it->s.heap.get? b=some o->h'.get? b=some o)->h'.get? S=some { cls:=.type "list",dict:=none,data:=.seq acc' c',slots := #[] }->ItemsOf (fun i v=>items[items.size - 1 - i]?=some v) acc' items.size->R (.ok (.ret res)) { s with heap:=h',toks:=tk }) :
  wpAny (model prog w) A.in1 (Builtin.List.listExtendWith (.ref S) (.ref it) res)
   (fun fin s'=>match fin with | .done f=>R (.ok f) s' | .again c'=>c'.quiet=true/\codeAny (model prog w) A c' R s') (fun e s'=>R (.error e) s') s:=by
 have hT:s.TypeIs (.ref it) "list_reverseiterator":=⟨_,hit,rfl⟩
 have hSI:S≠it:=fun e=>by
  rw[e]at hS;have:=hit.symm.trans hS;simp at this
 have W:=(tI (prog:=prog) (w:=w) (A:=A.in1) hh it l hne items).toS
 have hSf:S∉[it,l]:=fun hm=>by
  rcases List.mem_cons.mp hm with e | e
  ·exact hSI e
  ·exact hSl (by simpa using e)
 unfold Builtin.List.listExtendWith;refine wpAny_bind (wpAny_typeOf hT ?_);have h1:Builtin.List.listSameRef (.ref S) (.ref it)=false:=by simp[Builtin.List.listSameRef,hSI]
 have h2:(Value.type "list_reverseiterator" == Value.type "list")=false:=by decide
 have h3:(Value.type "list_reverseiterator" == Value.type "tuple")=false:=by decide
 simp only[h1,h2,h3,Bool.or_false,Bool.false_eq_true,if_false];refine wpAny_bind (jY hit ?_);refine wpAny_bind (wpAny_holding (vH hit ?_));refine wpAny_ite_split (fun hab=>absurd hab (by decide)) (fun _=>wpAny_pure ⟨plainId_quiet F.plain_extend_loop _,?_⟩)
 refine codeAny_extend_loopS W hn S hSf res items.size 0 _ #[] c₀ rfl (Nat.zero_le _) ⟨by simpa using hit,hl⟩ hS (ItemsOf.nil _) fun s' acc' c' hm hS' hacc => ?_
 rw[Moved.eq_with hm];refine hR s'.heap s'.toks acc' c' (fun b o hb hb' e=>hm.heap b o (fun hmem => ?_) e) hS' hacc
 rcases List.mem_cons.mp hmem with e' | hmem
 ·exact hb e'
 ·exact hb' (by simpa using hmem)
theorem vJ{R:Result->Shared->Prop}{it l:Addr}{items:Array Value}(hh:A.handled=none)(hne:it≠l)(hit:gK s.heap it l ((items.size:Int) - 1))(hl:s.heap.IsList l items)(hn:items.size<=sizeLine)(S:Addr)(hS:s.heap.get? S=some { cls:=.type "list",data:=.seq #[] })(hSl:S≠l)(hSI:S≠it)
  (hR:∀ h' tk acc' c',(∀ b o,b≠S->b≠it->s.heap.get? b=some o->h'.get? b=some o)->h'.get? S=some { cls:=.type "list",dict:=none,data:=.seq acc' c',slots := #[] }->ItemsOf (fun i v=>items[items.size - 1 - i]?=some v) acc' items.size->R (.ok (.ret .none)) { s with heap:=h',toks:=tk }) :
  wpAny (model prog w) A.in1 (Builtin.«list.__init__» ⟨[.ref S,.ref it],[]⟩)
   (fun fin s'=>match fin with | .done f=>R (.ok f) s' | .again c'=>c'.quiet=true/\codeAny (model prog w) A c' R s') (fun e s'=>R (.error e) s') s:=by
 show wpAny _ _ (do let old ← Builtin.List.listItems (.ref S);Builtin.List.listUpdate (.ref S) (fun _ => #[]);letGo old.toList.reverse;Builtin.List.listExtendWith (.ref S) (.ref it) .none) _ _ s
 refine wpAny_bind ?_;unfold Builtin.List.listItems;refine wpAny_bind (wpAny_seqItems hS rfl (wpAny_pure ?_))
 show wpAny _ _ (updateSeq S (fun _ => #[]) >>= fun _=>letGo (#[]:Array Value).toList.reverse >>= fun _=>Builtin.List.listExtendWith (.ref S) (.ref it) .none) _ _ s
 refine wpAny_bind (wpAny_updateSeq hS rfl ?_);have hS₂:=Heap.get?_update_self (Obj.mapSeq (fun _=>(#[]:Array Value))) hS rfl
 have oth:∀ b o,b≠S->s.heap.get? b=some o->(s.heap.update S (Obj.mapSeq (fun _=>(#[]:Array Value)))).get? b=some o:=
  fun b o hb e=>(Heap.get?_update_other _ _ (Ne.symm hb)).trans e
 refine wpAny_bind (wpAny_letGo ?_)
 have hl':(s.heap.update S (Obj.mapSeq (fun _=>(#[]:Array Value)))).IsList l items:=by
  obtain⟨o,ho,r⟩:=hl;exact⟨o,oth l o (Ne.symm hSl) ho,r⟩
 refine p9 hh hne (oth it _ (Ne.symm hSI) hit) hl' hn S .none _ hS₂ hSl fun h' tk acc' c' hk hS' hacc => ?_
 exact hR h' tk acc' c' (fun b o hb hb' e=>hk b o hb hb' (oth b o hb e)) hS' hacc
theorem k6{Q:Value->Shared->Prop}{it l:Addr}{items:Array Value}(hh:A.handled=none)(hne:it≠l)(hit:gK s.heap it l ((items.size:Int) - 1))(hl:s.heap.IsList l items)(hn:items.size<=sizeLine)
  (hQ:∀ h' tk acc' c',(∀ b o,b≠it->s.heap.get? b=some o->h'.get? b=some o)->h'.get? s.heap.objs.size=some { cls:=.type "list",dict:=none,data:=.seq acc' c',slots := #[] }->ItemsOf (fun i v=>items[items.size - 1 - i]?=some v) acc' items.size->Q (.ref s.heap.objs.size) { s with heap:=h',toks:=tk }) :
  wpAny (model prog w) A (call (.type "list") [.ref it]) Q E s:=by
 have Qo:s.heap.objs.size≠it:=fun e=>Nat.lt_irrefl _ (e▸Heap.lt_size hit)
 have hLt:s.heap.objs.size≠l:=fun e=>by obtain⟨o,ho,_⟩:=hl;exact Nat.lt_irrefl _ (e▸Heap.lt_size ho)
 refine callType_codes (Q₁:=fun obj s₁=>obj=.ref s.heap.objs.size/\s₁={ s with heap:=s.heap.push { cls:=.type "list",data:=.seq #[] } }) F.called_list (F.typeCall_list_1 _) F.entry_list_init
  (code_list_new _ ⟨rfl,rfl⟩) fun obj s₁ h₁ => ?_
 obtain⟨rfl,rfl⟩:=h₁;have hS:(s.heap.push { cls:=.type "list",data:=.seq #[] }).get? s.heap.objs.size=some { cls:=.type "list",data:=.seq #[] }:=Heap.get?_push_size _ rfl;refine⟨⟨_,hS,rfl⟩,F.args_list_init_2 _ _,vJ (A:=A.in1) (s:={ s with heap:=s.heap.push { cls:=.type "list",data:=.seq #[] } }) (show A.in1.handled=none from hh) hne (Heap.get?_push_of_some _ hit) (hl.push _) hn _ hS hLt Qo fun h' tk acc' c' hk hS' hacc => ?_⟩
 exact⟨rfl,hQ h' tk acc' c' (fun b o hb e=>hk b o (fun z=>absurd (Heap.lt_size e) (by rw[z];exact Nat.lt_irrefl _)) hb (Heap.get?_push_of_some _ e)) hS' hacc⟩
end
end Mir
namespace Mir
open PySem PySem.Spec PyProof.Rows L2
open AutoSeq1 (wpAny_loadPart')
theorem mG:isSubtype (.type "reversed") (.type "reversed")=pure true:=by rw[isSubtype_type];kernel_rfl
theorem oo:isSubtype (.type "list_reverseiterator") (.type "reversed")=pure false:=by rw[isSubtype_type];kernel_rfl
theorem mro_reversed:mroOf (.type "reversed")=pure [.type "reversed",.type "object"]:=by rw[mroOf_type];kernel_rfl
theorem lookup_reversed_new:typeLookup (.type "reversed") "__new__"=pure (some (.builtin "reversed.__new__")):=by rw[typeLookup_type,builtinLookup_eq_fast];kernel_rfl
theorem made_reversed:Bind.madeBy (.type "reversed")=pure (some "reversed.__new__"):=madeBy_type mro_reversed lookup_reversed_new (by decide +kernel)
theorem ia(a:Value):checkTypeCall "reversed" ⟨[a],[]⟩=pure ():=by kernel_rfl
theorem iJ(a:Value):checkBuiltinCall "reversed.__new__" ⟨[.type "reversed",a],[]⟩=pure ():=by kernel_rfl
theorem entry_reversed_new:entryFor table "reversed.__new__"=some Builtin.«reversed.__new__» := entryFor_of_tree (by kernel_rfl)
theorem plain_reversed_new:plainId "reversed.__new__"=true:=by decide +kernel
section
variable{prog:Program}{w:World}{A:Around}{E:Value->Shared->Prop}{s:Shared}
theorem code_reversed_new{l:Addr}{items:Array Value}{n:Nat}{Q₁:Value->Shared->Prop}(hl:s.heap.get? l=some { cls:=.type "list",dict:=none,data:=.seq items n,slots := #[] })
  (h:Q₁ (.ref s.heap.objs.size) { s with heap:=s.heap.push { cls:=.type "list_reverseiterator",data:=.fields #[.ref l,rawInt ((items.size:Int) - 1)] } }) :
  codeAny (model prog w) A (.call (.builtin "reversed.__new__") ⟨[.type "reversed",.ref l],[]⟩) (wants Q₁ E) s:=by
 refine codeAny_of_tree ?_
 show wpAny _ A.in1 (do checkBuiltinCall "reversed.__new__" ⟨[.type "reversed",.ref l],[]⟩;again (.builtin "reversed.__new__" ⟨[.type "reversed",.ref l],[]⟩)) _ _ s
 refine wpAny_bind (wpAny_of_eq (iJ _) (wpAny_pure ⟨plainId_quiet plain_reversed_new _,codeAny_builtin entry_reversed_new ?_⟩));rw[Around.under_plainId plain_reversed_new _];have hsub:=mG;have hT:s.TypeIs (.ref l) "list":=⟨_,hl,rfl⟩;have hlk:=PySem.F.slot_list_reversed.lookup;have hbd:=PySem.F.slot_list_reversed.bind (.ref l);obtain⟨hp,g,d,tk,os⟩:=s
 wp_walk
 refine codeAny_mono (codeAny_call_builtin (R:=wants (fun v s'=>Q₁ v s') E) PySem.F.slot_list_reversed.plain PySem.F.entry_list_reversed (PySem.F.slot_list_reversed.check _ _ _ _ _ _ _ _ hT (PySem.F.args_list_reversed_1 _) (AutoListH.list___reversed___list_0 l items n prog w _ (wants (fun v s'=>Q₁ v s') E) _ ⟨hl,h⟩))) fun r s' hr => ?_
 cases r with
 | error e=>exact hr
 | ok fl=>
  cases fl with
  | ret v=>exact wpAny_pure hr
  | _=>exact hr.elim
theorem k7{l:Addr}{items:Array Value}{n:Nat}{Q:Value->Shared->Prop}(hl:s.heap.get? l=some { cls:=.type "list",dict:=none,data:=.seq items n,slots := #[] })
  (h:Q (.ref s.heap.objs.size) { s with heap:=s.heap.push { cls:=.type "list_reverseiterator",data:=.fields #[.ref l,rawInt ((items.size:Int) - 1)] } }) :
  wpAny (model prog w) A (call (.type "reversed") [.ref l]) Q E s:=by
 have hmro:=mro_reversed;have hmade:=made_reversed;have hct:=ia (.ref l);refine wpAny_call (codeAny_of_tree ?_)
 show wpAny _ _ (callAny (.type "reversed") _) _ _ _
 refine wpAny_pure ⟨Code.quiet_builtin _ (by decide +kernel),codeAny_builtin F.entry_type_call ?_⟩
 rw[Around.under_plain (weight_type_call_type "reversed" [.ref l] []) rfl];have h1:(Value.type "reversed" == Value.type "type")=false:=by decide +kernel
 have h2:((Manifest.find? "reversed").bind (·.mro.findSome? fun t=>(Manifest.find? t).bind fun b=>if b.noNew then some true else if b.attrs.any (·.1 == "__new__") then some false else none)).getD false=false:=by decide +kernel
 repeat (any_goals (first | assumption | wp_step))
 refine codeAny_mono (code_reversed_new (E:=E) (Q₁:=fun v s'=>v=.ref s.heap.objs.size/\s'={ s with heap:=s.heap.push { cls:=.type "list_reverseiterator",data:=.fields #[.ref l,rawInt ((items.size:Int) - 1)] } }) hl ⟨rfl,rfl⟩) fun r s' hr => ?_
 cases r with
 | error e=>exact hr
 | ok fl=>
  cases fl with
  | ret v=>
   obtain⟨rfl,rfl⟩:=hr;refine wpAny_bind (wpAny_isInstance (T:="list_reverseiterator") (b:=false) ⟨_,Heap.get?_push_size _ rfl,rfl⟩ oo ?_);refine wpAny_ite_split (fun _=>wpAny_bind (wpAny_rule (wpAny_pure h))) (fun hab=>absurd rfl hab)
  | _=>exact hr.elim
end
end Mir
namespace Mir
open PySem PySem.Spec PyProof.Rows L2
def Qp(te:TE)(K:PySem.W.Frag):TE:=fun σ H Q=>te σ H fun x H1=>∃ l xs,x=.ref l/\Rd H1 l (.lst xs)/\∀ p,H1 p=none->Q (.ref p) (upd H1 p (.lst xs.reverse))
theorem p_{X:Cx}{e:Expr}{te:TE}{p p' pos pos':Pos}(hc:X.calm=true)(hg:Gl X "list")(hm:X.mg "list"=none)(hg':Gl X "reversed")(hm':X.mg "reversed"=none)(hs:starEach [e] X.env=[(false,eval e X.env)])(he:PE X e te) :
  PE X (.Call (.Name "list" p) [.Call (.Name "reversed" p') [e] [] pos'] [] pos) (Qp te X.K):=by
 intro pins s σ H Q I h;refine wpAny_Call_Name_kw (dF I hg hm boot_list ?_ (by decide) (by decide))
 refine PyProof.Rows.callWith_type1 ?_ rfl rfl
 show wpAny _ _ (spliced ((false,eval (.Call (.Name "reversed" p') [e] [] pos') X.env)::backTo pos (starEach [] X.env))) _ _ s
 refine Calls.spliced_cons ?_;refine wpAny_Call_Name_kw (dF I hg' hm' boot_reversed ?_ (by decide) (by decide))
 refine PyProof.Rows.callWith_type1 (bU (di he iE hs pos' pins s σ H (fun vs H1=>match vs with | [x]=>(∃ l xs,x=V.ref l/\Rd H1 l (.lst xs)/\∀ p,H1 p=none->Q (.ref p) (upd H1 p (.lst xs.reverse))) | _=>False) I h) fun us s1 ⟨vs,H1,I1,r1,q1⟩ => ?_) hs rfl
 match vs,q1,r1 with
 | [x],q1,r1=>
  obtain⟨l,xs,rfl,hR,q⟩:=q1;obtain⟨u,rfl,ru⟩:=r1.one;cases ru;obtain⟨its,rv,pl,hz⟩:=I1.list (jb (K:=X.K) hR);obtain⟨z,its',n,r',eo⟩:xs.length<=sizeLine/\∃ (its:List Value) (n:Nat),Vals xs its/\s1.heap.get? l=some { cls:=.type "list",data:=.seq its.toArray n }:=Rd.ok hR I1.hok;have hl':=r'.length;refine k7 eo ?_;refine Calls.spliced_nil ?_;have hll:l < s1.heap.objs.size:=Heap.lt_size eo;have Qq:=Heap.get?_push_of_some { cls:=.type "list_reverseiterator",data:=.fields #[.ref l,rawInt ((its'.toArray.size:Int) - 1)] } eo;refine k6 (I1.ok.hd hc) (Nat.ne_of_gt hll) (Heap.get?_push_size _ rfl) ⟨_,Qq,rfl,n,rfl⟩ (by rw[List.size_toArray];omega) fun h' tk acc' c' kp new io => ?_
  obtain⟨i1,i2⟩:=io;have SY:acc'.size=its'.length:=i1.trans List.size_toArray
  have hacc:acc'=its'.reverse.toArray:=by
   apply Array.ext';apply List.ext_getElem?;intro j
   by_cases hj:j < acc'.size
   ·have e1:=i2 j acc'[j] (by rw[Array.getElem?_eq_getElem hj])
    rw[List.size_toArray]at e1;rw[Array.getElem?_toList,Array.getElem?_eq_getElem hj,← e1,List.getElem?_toArray];simp;rw[List.getElem?_reverse (by omega)]
   ·rw[List.getElem?_eq_none (by simp;omega),List.getElem?_eq_none (by simp;omega)]
  have I2:L2.Inv X pins σ H1 { s1 with heap:=s1.heap.push { cls:=.type "list_reverseiterator",data:=.fields #[.ref l,rawInt ((its'.toArray.size:Int) - 1)] } }:=I1.kept (t':=s1.toks) fun b o e=>Heap.get?_push_of_some _ e
  subst hacc;have hfr:H1 (s1.heap.push { cls:=.type "list_reverseiterator",data:=.fields #[.ref l,rawInt ((its'.toArray.size:Int) - 1)] }).objs.size=none:=I2.hok.fresh (Nat.le_refl _);refine⟨.ref _,upd H1 _ (.lst xs.reverse),?_,rfl,q _ hfr⟩
  have E8:cy X.prog X.w (upd H1 (s1.heap.push { cls:=.type "list_reverseiterator",data:=.fields #[.ref l,rawInt ((its'.toArray.size:Int) - 1)] }).objs.size (.lst xs.reverse)) h' (s1.heap.push { cls:=.type "list_reverseiterator",data:=.fields #[.ref l,rawInt ((its'.toArray.size:Int) - 1)] }).objs.size (.lst xs.reverse):=
   ⟨by rw[List.length_reverse];exact z,its'.reverse,c',r'.reverse,new⟩
  exact fU (s:={ s1 with heap:=s1.heap.push { cls:=.type "list_reverseiterator",data:=.fields #[.ref l,rawInt ((its'.toArray.size:Int) - 1)] } }) (fp:=[s1.heap.objs.size]) (t':=tk) I2 (fun b hb=>by
   have e:b=s1.heap.objs.size:=by simpa using hb
   subst e;exact I1.uG (Nat.le_refl _) (I1.hok.fresh (Nat.le_refl _))) (fun b o hb e=>kp b o (fun z=>hb (by simp[z])) e) (Nat.le_refl _) E8
def dG(val:Nat->Str)(i:Nat):List Str:=((List.range i).map val).foldl gH []
theorem iK(val:Nat->Str)(i:Nat):dG val (i + 1)=gH (dG val i) (val i):=by
 unfold dG;rw[List.range_succ,List.map_append,List.foldl_append];rfl
theorem lD(σ:List Str)(x:Str):(gH σ x).length=if decide (x∈σ)=true then σ.length else σ.length + 1:=by
 unfold gH
 by_cases h:x∈σ<;>simp[h]
theorem tJ(σ:List Str)(x y:Str):y∈gH σ x↔y∈σ\/y=x:=by
 unfold gH;split
 ·rename_i h
  exact⟨.inl,fun q=>q.elim id fun e=>e▸h⟩
 ·simp
theorem rE(val:Nat->Str):∀ i,(dG val i).length<=i
 | 0=>by simp[dG]
 | i + 1=>by
  have:=rE val i;rw[iK,lD];split<;>omega
noncomputable def tK(σ:List Str):Key->Bool
 | .inr x=>decide (x∈σ)
 | .inl _=>false
section
variable{prog:Program}{w:World}{A:Around}{R:Result->Shared->Prop}{I:Addr}{fp wr:List Addr}{G:Array GenState->Array GenState->Prop}{n:Nat}{P:Nat->Value->Prop}{St:Nat->Shared->Prop}
theorem oq{h h':Heap}{a:Addr}{σ:Key->Bool}{m:Nat}(hS:h.SetOf (cx prog w) a σ m)(k:∀ o,h.get? a=some o->h'.get? a=some o):h'.SetOf (cx prog w) a σ m:=by
 obtain⟨o,es,ep,t,ho,rest⟩:=hS;exact⟨o,es,ep,t,k _ ho,rest⟩
theorem vK(W:WalksS prog w A.in1 I fp wr G n P St)(S:Addr)(hSf:S∉fp)(val:Nat->Str)(hval:∀ i v,P i v->∃ t,v=.str (val i) t)(hb:n + 1 < scanBound) :
  ∀ (k i:Nat) (s:Shared),n - i=k->i<=n->St i s->s.heap.SetOf (cx prog w) S (tK (dG val i)) (dG val i).length ->
   (∀ s',Moved (S::wr) G s s'->s'.heap.SetOf (cx prog w) S (tK (dG val n)) (dG val n).length->R (.ok (.ret .none)) s') ->
   codeAny (model prog w) A (.builtin "set.update.loop" ⟨[.ref S,.ref I],[]⟩) R s:=by
 have hSw:S∉wr:=fun h=>hSf (W.sub _ h)
 have hsub:∀ b∈wr,b∈S::wr:=fun b hb=>List.mem_cons_of_mem _ hb
 intro k
 induction k with
 | zero=>
  intro i s hk hi hst hS hR;obtain rfl:i=n:=by omega
  refine codeAny_builtin PyProof.Rows.F.entry_set_update_loop ?_;rw[Around.under_plainId PyProof.Rows.F.plain_set_update_loop _]
  show wpAny _ A.in1 (pyNext (.ref I) >>= _) _ _ s
  refine wpAny_bind (W.done s _ _ hst fun s' hm => ?_)
  exact wpAny_pure (hR s' (hm.mono hsub) (oq hS fun o ho=>hm.heap S _ hSw ho))
 | succ k ih=>
  intro i s hk hi hst hS hR;have hlt:i < n:=by omega
  refine codeAny_builtin PyProof.Rows.F.entry_set_update_loop ?_;rw[Around.under_plainId PyProof.Rows.F.plain_set_update_loop _]
  show wpAny _ A.in1 (pyNext (.ref I) >>= _) _ _ s
  refine wpAny_bind (W.item i s _ _ hlt hst fun v s' hP hst' hm => ?_)
  obtain⟨t,rfl⟩:=hval i v hP;have hS':=oq hS fun o ho=>hm.heap S _ hSw ho
  show wpAny _ A.in1 (holding [Value.str (val i) t] (setAdd S (.str (val i) t)) >>= _) _ _ s'
  refine wpAny_bind (wpAny_holding ?_);unfold setAdd;refine wpAny_holding ?_;refine wpAny_bind ((cx prog w).pyHash (k:=.inr (val i)) (iR _ _ _ _) ?_);have hroom:(dG val i).length + 1 < scanBound:=by have:=rE val i;omega
  refine wpAny_setAddHashed_of (knd:=cx prog w) (s:={ s' with toks:=s'.toks + 1 }) (iR _ _ _ _) rfl hS' hroom fun h' hsb hS2 => ?_
  have hSi:h'.SetOf (cx prog w) S (tK (dG val (i + 1))) (dG val (i + 1)).length:=by
   have e1:tK (dG val (i + 1))=fun k'=>tK (dG val i) k' || decide (k'=Sum.inr (val i)):=by
    funext k'
    rw[iK];cases k' with
    | inl z=>simp[tK]
    | inr y=>
     simp only[tK]
     by_cases h1:y∈dG val i<;>by_cases h2:y=val i<;>simp[tJ,h1,h2]
   have e2:(dG val (i + 1)).length=if tK (dG val i) (Sum.inr (val i))=true then (dG val i).length else (dG val i).length + 1:=by rw[iK,lD];rfl
   rw[e1,e2];exact hS2
  refine wpAny_pure ⟨plainId_quiet PyProof.Rows.F.plain_set_update_loop _,ih (i + 1) _ (by omega) hlt (W.frame _ s' _ _ hst' (Nat.le_succ _) fun b hb o e => ?_) hSi fun s'' hm'' hS'' => ?_⟩
  ·exact(hsb.2 b fun h=>hSf (h▸hb)).trans e
  ·refine hR s'' (Moved.trans W.gtrans ((hm.mono hsub).then_heap (Nat.le_succ _) fun b o hb e => ?_) hm'') hS''
   exact(hsb.2 b fun h=>hb (h▸List.mem_cons_self)).trans e
end
noncomputable def tL(led:Bool):Obj:={ cls:=.type "set",dict:=none,data:=.set #[] 0 (.fresh 0 0 led) }
section
variable{prog:Program}{w:World}{A:Around}{E:Value->Shared->Prop}{s:Shared}
theorem rF:∀ {vs:List Value} {xs:List Str},StrsAre vs xs->∀ (i:Nat) (v:Value),vs[i]?=some v->∃ t,v=.str (xs.getD i "") t
 | _,_,.nil,i,v,h=>by simp at h
 | _,_,.cons y t r,0,v,h=>by simp at h;exact⟨t,h.symm⟩
 | _,_,.cons y t r,i + 1,v,h=>by
  simp at h;obtain⟨t',e⟩:=rF r i v h;exact⟨t',by simpa using e⟩
theorem yN{h:Heap}{S:Addr}{led:Bool}(hS:h.get? S=some { cls:=.type "set",dict:=none,data:=.set #[] 0 (.fresh 0 0 led) }):h.SetOf (cx prog w) S (tK []) 0:=by
 have e:tK []=fun _=>false:=by funext k;cases k<;>simp[tK]
 rw[e];exact⟨_,#[],0,_,hS,⟨rfl,rfl,rfl⟩,rfl,fun e he=>by simp at he,fun k=>by simp,by simp[scanBound],by rfl,rfl⟩
theorem vL{l:Addr}{items:Array Value}{xs:List Str}{led:Bool}{S:Addr}{R:Result->Shared->Prop}(hh:A.handled=none)(hl:s.heap.IsList l items)(hi:StrsAre items.toList xs)(hb:items.size + 1 < scanBound)(hS:s.heap.get? S=some (tL led))(hSl:S≠l)
  (hR:∀ (h':Heap) (tk:Nat),h'.SetOf (cx prog w) S (tK (dG (fun i=>xs.getD i "") items.size)) (dG (fun i=>xs.getD i "") items.size).length->(∀ b o,b≠S->s.heap.get? b=some o->h'.get? b=some o)->R (.ok (.ret .none)) { s with heap:=h',toks:=tk }) :
  wpAny (model prog w) A.in1 (Builtin.«set.__init__» ⟨[.ref S,.ref l],[]⟩)
   (fun fin s'=>match fin with | .done f=>R (.ok f) s' | .again c'=>c'.quiet=true/\codeAny (model prog w) A c' R s') (fun e s'=>R (.error e) s') s:=by
 obtain⟨ol,hol,hcl,nl,hdl⟩:=id hl;obtain⟨ocls,odict,odata,oslots⟩:=ol;simp only at hcl hdl;subst hcl;subst hdl
 have hT:s.TypeIs (.ref S) "set":=⟨_,hS,rfl⟩;have hS':s.heap.get? S=some { cls:=.type "set",dict:=none,data:=.set #[] 0 (.fresh 0 0 led) }:=hS;have hsls:=PySem.F.sub_list_set;have hslf:=PySem.F.sub_list_frozenset;have hne:(Value.type "list" == Value.type "dict")=false:=by decide
 unfold Builtin.«set.__init__» noKeywords Builtin.Frozenset.updateFrom;generalize hPI:pyIter=PI
 wp_walk
 subst hPI;refine wpAny_pyIter_list hl ?_;refine wpAny_bind (wpAny_runValue ?_);have hlt:l < s.heap.objs.size:=Heap.lt_size hol;have hSlt:S < s.heap.objs.size:=Heap.lt_size hS
 have hSf:S∉[s.heap.objs.size,l]:=fun hm=>by
  rcases List.mem_cons.mp hm with e | e
  ·exact Nat.ne_of_lt hSlt e
  ·exact hSl (by simpa using e)
 have hval:∀ (i:Nat) (v:Value),items[i]?=some v->∃ t,v=.str ((fun i=>xs.getD i "") i) t:=fun i v hv=>rF hi i v (by rw[Array.getElem?_toList];exact hv)
 refine vK ((Walks.list (A:=A.in1.in1) hh _ l (Nat.ne_of_lt hlt) items).toS) S hSf (fun i=>xs.getD i "") hval hb (items.size - 0) 0 _ (by omega) (Nat.zero_le _)
  ⟨⟨_,Heap.get?_push_size _ rfl,rfl,rfl⟩,hl.push _⟩ ?hS0 ?hR
 case hS0=>exact yN (Heap.get?_push_of_some _ hS')
 case hR=>
  intro s' hm tN;rw[Moved.eq_with hm];refine wpAny_pure ?_
  show wpAny _ _ (ret Value.none) _ _ _
  refine wpAny_pure (hR s'.heap s'.toks tN fun b o hb e => ?_)
  refine hm.heap b o (fun hmem => ?_) (Heap.get?_push_of_some _ e)
  rcases List.mem_cons.mp hmem with e' | hmem
  ·exact hb e'
  ·exact absurd (Heap.lt_size e) (by rw[show b=s.heap.objs.size by simpa using hmem];exact Nat.lt_irrefl _)
theorem k9{l:Addr}{items:Array Value}{xs:List Str}{Q:Value->Shared->Prop}(hh:A.handled=none)(hl:s.heap.IsList l items)(hi:StrsAre items.toList xs)(hb:items.size + 1 < scanBound)
  (h:∀ (h':Heap) (tk:Nat),h'.SetOf (cx prog w) s.heap.objs.size (tK (dG (fun i=>xs.getD i "") items.size)) (dG (fun i=>xs.getD i "") items.size).length->(∀ b o,s.heap.get? b=some o->h'.get? b=some o)->Q (.ref s.heap.objs.size) { s with heap:=h',toks:=tk }) :
  wpAny (model prog w) A (call (.type "set") [.ref l]) Q E s:=by
 obtain⟨c,tl,hmro⟩:=PySem.F.called_set.mro;have hmade:=PySem.F.called_set.made;have hsub:=PySem.F.called_set.sub;refine wpAny_call (codeAny_of_tree ?_)
 show wpAny _ _ (callAny (.type "set") _) _ _ _
 refine wpAny_pure ⟨Code.quiet_builtin _ (by decide +kernel),codeAny_builtin PySem.F.entry_type_call ?_⟩
 rw[Around.under_plain (weight_type_call_type "set" [.ref l] []) rfl];have h1:=PySem.F.called_set.notType;have h2:=PySem.F.called_set.canCreate;have hct:=PySem.F.typeCall_set_1 (.ref l)
 repeat (any_goals (first | assumption | wp_step))
 refine codeAny_mono (code_set_new_1 (.ref l) (E:=E) (Q₁:=fun obj s₁=>∃ led:Bool,obj=.ref s.heap.objs.size/\s₁={ s with heap:=s.heap.push (tL led) }) fun led=>⟨led,rfl,rfl⟩) fun r s₁ hr => ?_
 cases r with
 | error e=>exact hr
 | ok fl=>
  cases fl with
  | ret obj=>
   obtain⟨led,rfl,rfl⟩:=hr;have hS:(s.heap.push (tL led)).get? s.heap.objs.size=some (tL led):=Heap.get?_push_size _ rfl;have hT:Shared.TypeIs { s with heap:=s.heap.push (tL led) } (.ref s.heap.objs.size) "set":=⟨_,hS,rfl⟩;have hli:=PySem.F.called_set.init.lookup;have hbi:=PySem.F.called_set.init.bind (.ref s.heap.objs.size)
   repeat (any_goals (first | assumption | wp_step))
   have hlS:s.heap.objs.size≠l:=fun e=>by obtain⟨o,ho,_⟩:=hl;exact Nat.lt_irrefl _ (e▸Heap.lt_size ho)
   refine codeAny_mono (codeAny_call_builtin (R:=wants (fun r s₂=>r=.none/\Q (.ref s.heap.objs.size) s₂) E) PySem.F.called_set.init.plain PySem.F.entry_set_init (check_set_init_1 hT ?_)) fun r₂ s₂ hr₂ => ?_
   ·refine vL (led:=led) (A:=A.in1) (s:={ s with heap:=s.heap.push (tL led) }) (show A.in1.handled=none from hh) (hl.push _) hi hb hS hlS fun h' tk tN kp=>⟨rfl,h h' tk tN fun b o e=>kp b o (fun z=>absurd (Heap.lt_size e) (by rw[z];exact Nat.lt_irrefl _)) (Heap.get?_push_of_some _ e)⟩
   ·cases r₂ with
    | error e=>exact hr₂
    | ok fl₂=>
     cases fl₂ with
     | ret r=>
      obtain⟨rfl,hq⟩:=hr₂
      repeat (any_goals (first | assumption | wp_step))
     | _=>exact hr₂.elim
  | _=>exact hr.elim
end
def Qr(te:TE):TE:=fun σ H Q=>te σ H fun x H1=>∃ Z ds xs,Now Z H1 (.lst ds) x/\eF ds=some xs/\xs.length<=1000/\Q (.int (unlike xs)) H1
theorem ou:∀ {vs:List Value} {xs:List Str},StrsAre vs xs->vs.length=xs.length
 | _,_,.nil=>rfl
 | _,_,.cons _ _ r=>by rw[List.length_cons,List.length_cons,ou r]
theorem yO(xs:List Str):dG (fun i=>xs.getD i "") xs.length=xs.foldl gH []:=by
 unfold dG
 congr 1
 apply List.ext_getElem?;intro i
 by_cases h:i < xs.length
 ·simp[h]
 ·rw[List.getElem?_eq_none (by simpa using h),List.getElem?_eq_none (by omega)]
theorem tP{X:Cx}{e:Expr}{te:TE}{p p' pos pos':Pos}(hc:X.calm=true)(hg:Gl X "len")(hm:X.mg "len"=none)(hg':Gl X "set")(hm':X.mg "set"=none)(hs:starEach [e] X.env=[(false,eval e X.env)])(he:PE X e te) :
  PE X (.Call (.Name "len" p) [.Call (.Name "set" p') [e] [] pos'] [] pos) (Qr te):=by
 intro pins s σ H Q I h;refine wpAny_Call_Name_kw (dF I hg hm boot_len ?_ (by decide) (by decide))
 refine Calls.callWith_builtin rfl (Calls.evalArgs_plain ?_)
 show wpAny _ _ (spliced ((false,eval (.Call (.Name "set" p') [e] [] pos') X.env)::backTo pos (starEach [] X.env))) _ _ s
 refine Calls.spliced_cons ?_;refine wpAny_Call_Name_kw (dF I hg' hm' boot_set ?_ (by decide) (by decide))
 refine PyProof.Rows.callWith_type1 (bU (di he iE hs pos' pins s σ H (fun vs H1=>match vs with | [x]=>(∃ Z ds xs,Now Z H1 (.lst ds) x/\eF ds=some xs/\xs.length<=1000/\Q (.int (unlike xs)) H1) | _=>False) I h) fun us s1 ⟨vs,H1,I1,r1,q1⟩ => ?_) hs rfl
 match vs,q1,r1 with
 | [x],q1,r1=>
  obtain⟨Z,ds,xs,n1,hst,hle,q⟩:=q1;obtain⟨l,ws,rfl,hR,hrep⟩:=cz n1;obtain⟨u,rfl,ru⟩:=r1.one;cases ru;obtain⟨its,rv,pl,hz⟩:=I1.list (jb (K:=X.K) hR);have N7:StrsAre its xs:=mF hst hrep rv;have hl:=ou N7;have hsz:its.toArray.size=xs.length:=by rw[List.size_toArray];exact hl
  refine k9 (I1.ok.hd hc) pl.isList (by simpa using N7) (by rw[hsz];unfold scanBound;omega) fun h' tk tN kp => ?_
  refine Calls.spliced_nil ?_;rw[hsz,yO]at tN;obtain⟨o,es,ep,t,ho,hex,hd,hel,hmem,hb,hf,hn⟩:=tN;have hu:es.size=unlike xs:=hn;have I2:L2.Inv X pins σ H1 { s1 with heap:=h',toks:=tk }:=I1.kept (t':=tk) kp;refine call_len_set (s:={ s1 with heap:=h',toks:=tk }) ho hex hd hf ?_ ⟨.int (unlike xs),H1,I2.tok _,⟨_,by rw[hu]⟩,q⟩
  have:es.size < 4096:=hb;omega
section
variable{prog:Program}{w:World}{A:Around}{E:Value->Shared->Prop}{s:Shared}
theorem qf{it t:Addr}{i:Nat}{items:Array Value}{x:Value}{Q:Value->Shared->Prop}(hit:s.heap.IsTupleIter it t i)(ht:s.heap.IsTuple t items)(hx:items[i]?=some x)
  (hQ:∀ h',h'.IsTupleIter it t (i + 1)->Heap.SameBut it s.heap h'->Q x { s with heap:=h' }):wpAny (model prog w) A (Builtin.SmallTypes.nextOf (.ref it)) Q E s:=by
 obtain⟨o,ho,hc,hd⟩:=id hit;obtain⟨ol,hol,_,nl,hdl⟩:=ht;unfold Builtin.SmallTypes.nextOf
 refine wpAny_bind (wpAny_callSpecial?_slot (name:=Str.ofString "__next__") hit.typeIs F.slot_tuple_iterator_next
  (wpAny_call_entry F.slot_tuple_iterator_next hit.typeIs F.entry_tuple_iterator_next ?_ (F.args_tuple_iterator_next_1 _)))
 show wpAny _ _ (field (.ref it) 0 >>= _) _ _ s
 refine wpAny_bind (wpAny_field ho hd (x:=.ref t) rfl ?_)
 show wpAny _ _ (if (Value.ref t == Value.none)=true then _ else _) _ _ s
 rw[if_neg (show ¬ ((Value.ref t == Value.none)=true) from Bool.false_ne_true)]
 show wpAny _ _ (field (.ref it) 1 >>= _) _ _ s
 refine wpAny_bind (wpAny_field ho hd (x:=.int i 0) rfl ?_)
 show wpAny _ _ (seqItems? (.ref t) >>= _) _ _ s
 refine wpAny_bind (wpAny_seqItems hol hdl ?_);simp only[Int.toNat_natCast,hx];refine wpAny_bind (wpAny_setField ho hd (by simp) (wpAny_pure ⟨x,rfl,wpAny_pure (hQ _ ?_ (Heap.SameBut.update ..))⟩))
 exact⟨_,Heap.get?_update_self _ ho (Obj.isFreed_of_fields (Obj.data_mapFields hd _)),(Obj.cls_mapFields ..).trans hc,by
  rw[Obj.data_mapFields hd];simp[rawInt]⟩
theorem lE{it t:Addr}{i:Nat}{items:Array Value}{Q:Value->Shared->Prop}(hh:A.handled=none)(hit:s.heap.IsTupleIter it t i)(ht:s.heap.IsTuple t items)(hx:items[i]?=none)
  (hE:∀ h' e,Heap.ExtBut it s.heap h'->(∃ o,h'.get? e=some o/\o.cls=.type "StopIteration")->E (.ref e) { s with heap:=h' }):wpAny (model prog w) A (Builtin.SmallTypes.nextOf (.ref it)) Q E s:=by
 obtain⟨o,ho,hc,hd⟩:=id hit;obtain⟨ol,hol,_,nl,hdl⟩:=ht;unfold Builtin.SmallTypes.nextOf
 refine wpAny_bind (wpAny_callSpecial?_slot (name:=Str.ofString "__next__") hit.typeIs F.slot_tuple_iterator_next
  (wpAny_call_entry F.slot_tuple_iterator_next hit.typeIs F.entry_tuple_iterator_next ?_ (F.args_tuple_iterator_next_1 _)))
 show wpAny _ _ (field (.ref it) 0 >>= _) _ _ s
 refine wpAny_bind (wpAny_field ho hd (x:=.ref t) rfl ?_)
 show wpAny _ _ (if (Value.ref t == Value.none)=true then _ else _) _ _ s
 rw[if_neg (show ¬ ((Value.ref t == Value.none)=true) from Bool.false_ne_true)]
 show wpAny _ _ (field (.ref it) 1 >>= _) _ _ s
 refine wpAny_bind (wpAny_field ho hd (x:=.int i 0) rfl ?_)
 show wpAny _ _ (seqItems? (.ref t) >>= _) _ _ s
 refine wpAny_bind (wpAny_seqItems hol hdl ?_);simp only[Int.toNat_natCast,hx];refine wpAny_bind (wpAny_rule (wpAny_bind (wpAny_setField ho hd (by simp) ?_)))
 show wpAny _ _ (newExc (.type "StopIteration") [] >>= _) _ _ _
 refine wpAny_bind ?_;simp only[newExc,newTuple];refine wpAny_bind (wpAny_newObj_type ?_ (by size_fits))
 refine wpAny_bind (m:=firstArgMember _ _) (wpAny_of_eq (a:=Value.none) (by first | rfl | (simp only[firstArgMember];rfl)) ?_)
 refine wpAny_newObj_type ?_ (by size_fits)
 simp only[raiseNew];refine wpAny_bind (wpAny_handled ?_)
 first | rw[show A.in1.handled=none from hh] | rw[hh]
 refine wpAny_bind (wpAny_pure (wpAny_throw ?_));exact hE _ _ (((Heap.SameBut.update ..).extBut.push _).push _) ⟨_,Heap.get?_push_size _ rfl,rfl⟩
end
theorem BW{prog:Program}{w:World}{A:Around}(hh:A.handled=none)(it l:Addr)(hne:l≠it)(items:Array Value) :
  Draws prog w A it [it,l] items.size (fun i v=>items[i]?=some v) (fun i h=>h.IsTupleIter it l i/\h.IsTuple l items) where
 live:=fun _ _ st=>let ⟨o,ho,_⟩:=st.1;⟨o,ho⟩
 frame:=fun _ _ _ st hk=>⟨let ⟨o,ho,r⟩:=st.1;⟨o,hk it (by simp) o ho,r⟩,let ⟨o,ho,r⟩:=st.2;⟨o,hk l (by simp) o ho,r⟩⟩
 item:=fun i s Q E hi st hQ=>by
  refine qf st.1 st.2 (x:=items[i]) (by simp[hi]) fun h' hit' hs' => ?_
  exact hQ _ h' s.toks (by simp[hi]) ⟨hit',st.2.extBut hs'.extBut hne⟩ hs'
 done:=fun s Q E st hE=>lE hh st.1 st.2 (by simp) hE
open AutoSeq1 (wpAny_loadPart') in
theorem ow(l:Addr)(items:Array Value)(n:Nat)(dct:Option Addr)(sl:Array (Option Value)) :
  Meets (Builtin.«enumerate.__new__» ⟨[.type "enumerate",.ref l],[]⟩) (fun _ R s=>s.heap.get? l=some { cls:=.type "tuple",dict:=dct,data:=.seq items n,slots:=sl } /\
   R (.ok (.ret (.ref (s.heap.push { cls:=.type "tuple_iterator",data:=.fields #[.ref l,.int 0 0] }).objs.size)))
    { s with heap:=(s.heap.push { cls:=.type "tuple_iterator",data:=.fields #[.ref l,.int 0 0] }).push { cls:=.type "enumerate",data:=.fields #[.none,.bool false,.ref s.heap.objs.size,rawInt 0,.none,.none] } }):=
 .of_wp fun prog w A R s h=>by
  obtain⟨hp,g,d,tk,os⟩:=s;obtain⟨hl,h⟩:=h
  have hsub:=sub_enumerate;have hL:Heap.IsTuple (Shared.heap ⟨hp,g,d,tk,os⟩) l items:=⟨_,hl,rfl,n,rfl⟩
  wp_walk using wpAny_loadPart' hl
  refine wpAny_stack_any fun st=>wpAny_pure ?_
  split
  ·rename_i c _ _ _ _ _
   cases (c == Value.type "enumerate")
   ·wp_walk using wpAny_loadPart' hl,wpAny_pyIter_tuple hL
    exact⟨_,rfl,h⟩
   ·wp_walk using wpAny_loadPart' hl,wpAny_pyIter_tuple hL
    exact⟨_,rfl,h⟩
  ·wp_walk using wpAny_loadPart' hl,wpAny_pyIter_tuple hL
   exact⟨_,rfl,h⟩
theorem qh{prog:Program}{w:World}{A:Around}{E:Value->Shared->Prop}{s:Shared}{l:Addr}{items:Array Value}{Q:Value->Shared->Prop}(hL:s.heap.IsTuple l items)
  (h:∀ h',IsEnum h' (s.heap.objs.size + 1) s.heap.objs.size 0 .none->h'.IsTupleIter s.heap.objs.size l 0->h'.objs.size=s.heap.objs.size + 2 ->
   (∀ b o,s.heap.get? b=some o->h'.get? b=some o)->Q (.ref (s.heap.objs.size + 1)) { s with heap:=h' }) :
  wpAny (model prog w) A (call (.type "enumerate") [.ref l]) Q E s:=by
 obtain⟨⟨c,dct,dt,sl⟩,hl,hc,n,hd⟩:=hL;replace hc:c=.type "tuple":=hc;replace hd:dt=.seq items n:=hd;subst hc hd
 refine callType_new F.called_enumerate (by decide) (F.typeCall_enumerate_1 _) (F.newCall_enumerate_1 _) (fun obj=>F.args_object_init_2 obj _) F.entry_enumerate_new
  (ow l items n dct sl) ⟨hl,?_⟩
 have hz:(s.heap.push { cls:=.type "tuple_iterator",data:=.fields #[.ref l,.int 0 0] }).objs.size=s.heap.objs.size + 1:=Heap.size_push ..
 show _/\_
 rw[hz]
 have he:IsEnum ((s.heap.push { cls:=.type "tuple_iterator",data:=.fields #[.ref l,.int 0 0] }).push
   { cls:=.type "enumerate",data:=.fields #[.none,.bool false,.ref s.heap.objs.size,rawInt 0,.none,.none] }) (s.heap.objs.size + 1) s.heap.objs.size 0 .none:=by
  have:=Heap.get?_push_size (s.heap.push { cls:=.type "tuple_iterator",data:=.fields #[.ref l,.int 0 0] })
   (o:={ cls:=.type "enumerate",data:=.fields #[.none,.bool false,.ref s.heap.objs.size,rawInt 0,.none,.none] }) rfl
  rw[hz]at this;exact this
 refine⟨⟨_,he,rfl⟩,h _ he ⟨_,Heap.get?_push_of_some _ (Heap.get?_push_size _ rfl),rfl,rfl⟩ (by rw[Heap.size_push,hz]) fun b o x=>Heap.get?_push_of_some _ (Heap.get?_push_of_some _ x)⟩
theorem tQ{prog:Program}{w:World}{A:Around}{E:Value->Shared->Prop}{s:Shared}{e it l:Addr}{i:Nat}{items:Array Value}{old:Value}{Q:Option Value->Shared->Prop}(hh:A.handled=none)
  (he:IsEnum s.heap e it i old) (hit:s.heap.IsTupleIter it l i) (hl:s.heap.IsTuple l items) (hx:items[i]?=none)
  (hQ:∀ h',Heap.ExtBut it s.heap h'->Q none { s with heap:=h' }):wpAny (model prog w) A (pyNext (.ref e)) Q E s:=by
 have hT:s.TypeIs (.ref e) "enumerate":=⟨_,he,rfl⟩;unfold pyNext
 refine wpAny_bind (wpAny_attempt (wpAny_callSpecial?_slot (name:=Str.ofString "__next__") hT F.slot_enumerate_next
  (wpAny_call_entry F.slot_enumerate_next hT F.entry_enumerate_next ?_ (F.args_enumerate_next_1 _))))
 show wpAny _ _ (field (.ref e) 2 >>= _) _ _ _
 refine wpAny_bind (wpAny_field he rfl (x:=.ref it) rfl ?_);refine wpAny_bind (lE hh hit hl hx fun h' x he' hx' => ?_)
 obtain⟨o,ho,hc⟩:=hx';refine wpAny_bind (wpAny_isInstance (T:="StopIteration") (b:=true) ⟨o,ho,hc⟩ isSubtype_stop ?_);exact wpAny_pure (hQ _ he')
def E9(K:PySem.W.Frag)(a:Addr):It:=
 ⟨fun i H=>∃ xs x,fH K H a xs/\xs[i]?=some x,fun i H x H'=>∃ p,x=.ref p/\H p=none/\∀ xs,fH K H a xs->∃ v,xs[i]?=some v/\H'=upd H p (.tup [.int i,v]),fun i H=>∃ xs,fH K H a xs/\xs.length<=i⟩
theorem qj{P:Program}{w:World}{K:PySem.W.Frag}{elts:List Expr}{x1:Nat}{tpos:Pos}(a e it:Addr)(hne:e≠it) :
  Turn P w K (.Tuple elts x1 tpos) (E9 K a) [e,it] e (fun i h=>(∃ old,IsEnum h e it i old)/\h.IsTupleIter it a i) where
 mem:=by simp
 obj:=fun i h st b hb=>by
  obtain⟨⟨old,st1⟩,o,e2,c,d⟩:=st;rcases List.mem_cons.mp hb with z | z
  ·subst z
   exact⟨_,st1,fun v z=>by
    have z':Data.fields _=Data.cell v:=z;cases z'⟩
  ·have z:b=it:=by simpa using z
   subst z;exact⟨o,e2,fun v z=>by rw[d]at z;cases z⟩
 keep:=fun i h h' st k=>by
  obtain⟨⟨old,st1⟩,o,e2,r⟩:=st;exact⟨⟨old,k e (by simp) _ st1⟩,o,k it (by simp) o e2,r⟩
 item:=by
  intro X hP hw hK hc i pins s σ H E I hf st hg;subst hP hw hK;obtain⟨xs,x,hq,hx⟩:=hg;obtain⟨⟨old,st1⟩,st2⟩:=st;obtain⟨its,rv,p,hz⟩:=I.tuple hq;obtain⟨u,hu,ru⟩:=rv.get hx
  have hit':a≠it:=fun z=>by
   obtain⟨o,h1,h2,_⟩:=p;obtain⟨o',h3,h4,_⟩:=st2;rw[z,h3]at h1;cases h1
   rw[h2]at h4;exact absurd h4 (by decide)
  have Qs:e≠a:=fun z=>by
   obtain⟨o,h1,h2,_⟩:=p;have yM:s.heap.get? e=some _:=st1;rw[z,h1]at yM;have h2':=congrArg (fun x:Option Obj=>x.map (·.cls)) yM
   simp only[Option.map_some,h2,Option.some.injEq]at h2';exact absurd h2' (by decide)
  have hlt:i < its.toArray.size:=by
   have:=(List.getElem?_eq_some_iff.mp hu).1;simpa using this
  refine wpAny_pyNext_enum_itemD (BW (A:=X.A.in1) (I.ok.hd hc) it a hit' its.toArray) st1 ⟨st2,p⟩ hlt hne (by simp[hne,Qs]) fun u' h' tk Qt so si tu sz kp => ?_
  have KD:u'=u:=by
   have e1:its.toArray[i]?=some u':=Qt;have e2:its[i]?=some u':=by simpa using e1
   rw[hu]at e2;cases e2;rfl
  subst KD;refine⟨_,rfl,wpAny_letOwnedTupleGo_enum (s:={ s with heap:=h',toks:=tk + 1 }) so fun h2 se sb => ?_⟩
  have BS:∀ b o,b∉[e,it]->s.heap.get? b=some o->h2.get? b=some o:=fun b o hb q=>by
   have h1:b≠e:=fun z=>hb (by simp[z])
   have h3:b≠it:=fun z=>hb (by simp[z])
   exact sb.extBut b o h1 (kp b o h1 h3 q)
  have hel:e < s.heap.objs.size:=Heap.lt_size st1;have KA:h2.get? s.heap.objs.size=some { cls:=.type "tuple",data:=.seq #[.int i tk,u'] }:=sb.extBut _ _ (Nat.ne_of_gt hel) tu;have se':∃ old,IsEnum h2 e it ((i + 1:Nat):Int) old:=⟨u',by rw[show((i + 1:Nat):Int)=(i:Int) + 1 by omega];exact se⟩
  refine⟨.ref s.heap.objs.size,upd H s.heap.objs.size (.tup [.int i,x]),?_,rfl,⟨_,rfl,I.hok.fresh (Nat.le_refl _),fun ys hy=>⟨x,by rw[I.lb hy hq];exact hx,rfl⟩⟩,⟨se',?_⟩,fun b hb => ?_⟩
  ·have tup:IsTup h2 s.heap.objs.size [Value.int i tk,u'].toArray:=⟨_,KA,rfl,_,rfl⟩
   have new:cy X.prog X.w (upd H s.heap.objs.size (.tup [.int i,x])) h2 s.heap.objs.size (.tup [.int i,x]):=⟨by rw[sizeLine_eq];simp,[.int i tk,u'],.cons ⟨_,rfl⟩ (.cons ru .nil),tup⟩
   have:=fU (s:=s) (h':=h2) (t':=tk + 1) I hf BS (Nat.le_refl _) new;exact this
  ·exact si.1.extBut sb.extBut (Ne.symm hne)
  ·have hlt:b < s.heap.objs.size:=by
    rcases List.mem_cons.mp hb with z | z
    ·subst z;exact hel
    ·have z:b=it:=by simpa using z
     subst z;obtain⟨o,q,_⟩:=st2;exact Heap.lt_size q
   rw[aG (Nat.ne_of_lt hlt)];exact(hf b hb).1
 done:=by
  intro X hP hw hK hc i pins s σ H E I hf st hg;subst hP hw hK;obtain⟨xs,hq,hx⟩:=hg;obtain⟨⟨old,st1⟩,st2⟩:=st;obtain⟨its,rv,p,hz⟩:=I.tuple hq;obtain⟨f0,f1,f2,f3,f4,f5⟩:=hf it (by simp)
  have hl:=rv.length;exact tQ (I.ok.hd hc) st1 st2 p (by simp;omega) fun h' eb=>⟨rfl,I.turned (t':=s.toks) (fun b o hb e=>eb b o hb e) f0 f1 f3 f4 f5⟩
 self:=fun _ _ _ _ _ st h=>by
  obtain⟨⟨old,st1⟩,_⟩:=st;exact wpAny_pyIter_enum st1 h
def E_(K:PySem.W.Frag)(ta:TA):TI:=fun σ H R=>ta σ H fun vs H1=>∃ a,vs=[.ref a]/\(((∃ xs,jg K H1 a xs)/\R (N6 K a) H1)\/((∃ xs,fH K H1 a xs)/\R (E9 K a) H1))
theorem vM{X:Cx}{es:List Expr}{x1:Nat}{tpos p pos:Pos}{a:Expr}{ta:TA}(hg:Gl X "enumerate")(hm:X.mg "enumerate"=none)(ha:PA X [a] ta)(hs:starEach [a] X.env=[(false,eval a X.env)]) :
  PI X (.Tuple es x1 tpos) (.Call (.Name "enumerate" p) [a] [] pos) (E_ X.K ta):=by
 intro pins s σ H R I h;refine Call_ (dF I hg hm boot_enumerate (PyProof.Rows.callWith_type1 (bU (ha pos pins s σ H _ I h) fun us s1 ⟨vs,H1,I1,r1,q1⟩ => ?_) hs rfl))
 obtain⟨l,rfl,hq⟩:=q1;cases r1 with
 | cons r rr=>
  cases rr;cases r
  have fp:∀ b∈[s1.heap.objs.size + 1,s1.heap.objs.size],s1.heap.objs.size<=b:=fun b hb=>by
   rcases List.mem_cons.mp hb with z | z
   ·rw[z];exact Nat.le_succ _
   ·have z:b=s1.heap.objs.size:=by simpa using z
    rw[z];exact Nat.le_refl _
  rcases hq with ⟨⟨xs,hq⟩,q⟩ | ⟨⟨xs,hq⟩,q⟩
  ·obtain⟨its,rv,pl,hz⟩:=I1.list hq
   refine call_enumerate_list pl.isList fun h' en li sz kp=>wpAny_pyIter_enum (s:={ s1 with heap:=h' }) en ?_
   have I2:L2.Inv X pins σ H1 { s1 with heap:=h' }:=I1.kept (t':=s1.toks) kp;exact⟨s1.heap.objs.size + 1,[s1.heap.objs.size + 1,s1.heap.objs.size],_,_,H1,rfl,I2,tH l _ _ (Nat.succ_ne_self _),⟨⟨_,en⟩,li⟩,fun b hb=>I1.uG (fp b hb) (I1.hok.fresh (fp b hb)),q⟩
  ·obtain⟨its,rv,pl,hz⟩:=I1.tuple hq
   refine qh (items:=its.toArray) pl fun h' en li sz kp=>wpAny_pyIter_enum (s:={ s1 with heap:=h' }) en ?_
   have I2:L2.Inv X pins σ H1 { s1 with heap:=h' }:=I1.kept (t':=s1.toks) kp;exact⟨s1.heap.objs.size + 1,[s1.heap.objs.size + 1,s1.heap.objs.size],_,_,H1,rfl,I2,qj l _ _ (Nat.succ_ne_self _),⟨⟨_,en⟩,li⟩,fun b hb=>I1.uG (fp b hb) (I1.hok.fresh (fp b hb)),q⟩
section
variable{X:Cx}{Γ:kX}{bw:Bool}{a b:Expr}{rest:List Expr}{ca cb:Ex}{pos:Pos}
theorem yP{ta tb:TE}(ha:PE X a ta)(hb:PE X (.BoolOp .And (b::rest) pos) tb):PE X (.BoolOp .And (a::b::rest) pos) (fun σ H Q=>ta σ H fun x H1=>∃ c,nU X.K x H1 c/\if c=true then tb σ H1 Q else Q x H1):=by
 intro pins s σ H Q I h;refine BoolOp_and (bU (ha pins s σ H _ I h) fun v s1 ⟨x,H1,I1,r1,c,t1,q1⟩ => ?_)
 refine bU (l7 pins s1 σ H1 x v (fun d H2=>d=c/\H2=H1) I1 r1 ⟨c,t1,rfl,rfl⟩) fun d s2 ⟨H2,I2,e1,e2⟩ => ?_
 subst e1 e2;cases d with
 | true=>exact hb pins s2 σ H2 Q I2 q1
 | false=>exact⟨x,H2,I2,r1,q1⟩
theorem BX{ta tb:TE}(ha:PE X a ta)(hb:PE X (.BoolOp .Or (b::rest) pos) tb):PE X (.BoolOp .Or (a::b::rest) pos) (fun σ H Q=>ta σ H fun x H1=>∃ c,nU X.K x H1 c/\if c=true then Q x H1 else tb σ H1 Q):=by
 intro pins s σ H Q I h;refine BoolOp_or (bU (ha pins s σ H _ I h) fun v s1 ⟨x,H1,I1,r1,c,t1,q1⟩ => ?_)
 refine bU (l7 pins s1 σ H1 x v (fun d H2=>d=c/\H2=H1) I1 r1 ⟨c,t1,rfl,rfl⟩) fun d s2 ⟨H2,I2,e1,e2⟩ => ?_
 subst e1 e2;cases d with
 | false=>exact hb pins s2 σ H2 Q I2 q1
 | true=>exact⟨x,H2,I2,r1,q1⟩
theorem yQ{ta:TE}(ha:PE X a ta):PE X (.UnaryOp .Not a pos) (fun σ H Q=>ta σ H fun x H1=>∃ c,nU X.K x H1 c/\Q (.bl (!c)) H1):=by
 intro pins s σ H Q I h;refine UnaryOp_ (bU (ha pins s σ H _ I h) fun v s1 ⟨x,H1,I1,r1,c,t1,q1⟩ => ?_)
 refine not_of (bU (l7 pins s1 σ H1 x v (fun d H2=>d=c/\H2=H1) I1 r1 ⟨c,t1,rfl,rfl⟩) fun d s2 ⟨H2,I2,e1,e2⟩ => ?_)
 subst e1 e2;exact⟨.bl (!d),H2,I2,rfl,q1⟩
theorem du.nw{own:Bool}{Z:Addr->Prop}{Hb H:Hp}{d:D}{v:V}(h:du bw own Z Hb H d v):Now Z H d v:=by
 cases bw with
 | true=>exact h.now
 | false=>exact(h.weak (bw:=true)).now
end
noncomputable def Fb(sc:Scope)(x:Str):Bool:=match sc.names.lookup x with
 | some .local | some .cell | some .free=>true
 | _=>false
noncomputable def vO(sc:Scope)(x:Str):Bool:=match sc.names.lookup x with
 | some .local | some .cell=>true
 | _=>false
noncomputable def oA(sc:Scope)(x:Str):Bool:=sc.names.lookup x == some .globalImplicit
noncomputable def okN(x:Str):Bool := !(x == ("__debug__":Str)) && !(x == ("__classdict__":Str)) && !(x == ("__name__":Str))
noncomputable def yR(N:List Str)(x:Str):Option Nat:=N.findIdx? (· == x)
def lF(sc:Scope)(N:List Str)(x:Str):Option Nat:=if Fb sc x && okN x then yR N x else none
def vP(x:Str):Option Ty:=[Ty.int,.str,.bool,.list,.tuple,.dict].find? (fun t=>t.nm == x)
noncomputable def isStar:Expr->Bool
 | .Starred _ _=>true
 | _=>false
noncomputable def isSlice:Expr->Bool
 | .Slice _ _ _ _=>true
 | _=>false
noncomputable def isSet:Expr->Bool
 | .Set _ _ _=>true
 | _=>false
noncomputable def qk(scope sc:Scope):Scope:={ scope with names:=scope.names.map fun (n,k)=>if (k == .free && sc.kind == .function && sc.names.lookup n == some .cell) then (n,.cell) else (n,k) }
noncomputable def cS(scope:Scope):List Str:=(scope.names.filter fun y=>y.2 == .free).map (·.1)
def qo(sc:Scope)(N:List Str):List Str->Option (List Nat)
 | []=>some []
 | x::xs=>do let i ← lF sc N x;let is ← qo sc N xs;some (i::is)
def vQ(scope:Scope)(sc:Scope)(x:Str):Bool:=
 scope.kind == .function && scope.names.all (fun y => !(y.2 == .cell)) && scope.names.all (fun y => !(y.2 == .local) || scope.names.lookup y.1 == some .local) &&
 scope.names.all (fun y => !(y.2 == .free) || (sc.names.lookup y.1 == some .cell || sc.names.lookup y.1 == some .free) && scope.names.lookup y.1 == some .free) &&
 scope.names.lookup x == some .local && decide ((x::cS scope).Nodup)
noncomputable def j0:List Comprehension->Option (Str×Pos×Expr×List Expr)
 | [⟨.Name x p,iter,ifs,0⟩]=>some (x,p,iter,ifs)
 | _=>none
theorem lG{gs:List Comprehension}{x:Str}{p:Pos}{iter:Expr}{ifs:List Expr}(h:j0 gs=some (x,p,iter,ifs)):gs=[⟨.Name x p,iter,ifs,0⟩]:=by
 unfold j0 at h;split at h
 ·cases h;rfl
 ·cases h
theorem vR{N:List Str}{x:Str}{i:Nat}(h:yR N x=some i):N[i]?=some x:=by
 unfold yR at h;obtain⟨hi,he,_⟩:=List.findIdx?_eq_some_iff_getElem.mp h;rw[List.getElem?_eq_getElem hi,eq_of_beq he]
theorem rG{sc:Scope}{N:List Str}{x:Str}{i:Nat}(h:lF sc N x=some i):N[i]?=some x/\uu sc x/\(x == ("__debug__":Str))=false/\(x == ("__classdict__":Str))=false:=by
 unfold lF at h;split at h
 ·rename_i hc
  simp only[Bool.and_eq_true,okN,Bool.not_eq_true']at hc;refine⟨vR h,?_,hc.2.1.1,hc.2.1.2⟩;have hv:=hc.1;unfold Fb at hv;unfold uu;split at hv
  ·rename_i q;exact .inl q
  ·rename_i q;exact .inr (.inl q)
  ·rename_i q;exact .inr (.inr q)
  ·cases hv
 ·cases h
theorem rH{x:Str}(h:okN x=true):(x == ("__debug__":Str))=false/\(x == ("__classdict__":Str))=false/\x≠"__name__":=by
 simp only[okN,Bool.and_eq_true,Bool.not_eq_true']at h;refine⟨h.1.1,h.1.2,fun e => ?_⟩
 rw[e]at h;simp at h
noncomputable def cZ:List Str:=["len","all","any","list","tuple","int","min","max","bool","isinstance","str","dict","range","sorted","enumerate","reversed","set"]
theorem bV{e:Expr}{es:List Expr}{env:Env}(h:isStar e=false):starEach (e::es) env=(false,eval e env)::starEach es env:=by
 cases e<;>first | rfl | (cases h)
theorem de{env:Env}{pos:Pos}:∀ {es:List Expr},(∀ e∈es,isStar e=false)->(backTo pos (starEach es env)).any (·.1)=false
 | [],_=>rfl
 | e::es,h=>by
  rw[bV (h e (by simp))]
  show(false || (backTo pos (starEach es env)).any (·.1))=false
  rw[de fun z hz=>h z (by simp[hz])]
  rfl
section
variable{X:Cx}{Γ:kX}{T:Tab}{k:Nat}{sc:Scope}{N:List Str}
theorem Fc{x:Str}{t:Ty}(h:vP x=some t):x=t.nm/\t.nm∈cZ:=by
 unfold vP at h;have h1:=List.find?_some h;exact⟨(eq_of_beq h1).symm,by cases t<;>decide⟩
end
section
variable{X:Cx}{Γ:kX}{T:Tab}{k:Nat}{sc:Scope}{N:List Str}
theorem vS{sc:Scope}{N:List Str}:∀ {xs:List Str} {is:List Nat},qo sc N xs=some is->xs.length=is.length/\∀ (j i:Nat) (x:Str),xs[j]?=some x->is[j]?=some i->N[i]?=some x
 | [],is,h=>by cases h;exact⟨rfl,fun j i x e=>by simp at e⟩
 | x::xs,is,h=>by
  simp only[qo,Option.bind_eq_bind]at h;obtain⟨i,h1,h⟩:=Option.bind_eq_some_iff.mp h;obtain⟨is',h2,h⟩:=Option.bind_eq_some_iff.mp h;cases h;obtain⟨q1,q2⟩:=vS h2;refine⟨by rw[List.length_cons,List.length_cons,q1],fun j i' y e1 e2 => ?_⟩
  cases j with
  | zero=>simp at e1 e2;subst e1 e2;exact(rG h1).1
  | succ j=>exact q2 j i' y (by simpa using e1) (by simpa using e2)
theorem ib{iter:Expr}{env:Env}(h:isSet iter=false):∀ x,foldedSetIterable iter env x=pure x:=by
 intro x;cases iter<;>first | rfl | (simp[isSet]at h)
theorem oB{op:CmpOp}{b:Expr}(h:isSet b=false):behindInMarks op b=false:=by
 cases b<;>first | rfl | (simp[isSet]at h)
end
def oC(sc:Scope)(N:List Str)(x:Str):Option Nat:=if vO sc x && okN x then yR N x else none
noncomputable def qq:Expr->Bool
 | .ListComp .. | .SetComp .. | .DictComp ..=>true
 | _=>false
noncomputable def oE(sc:Scope)(x:Str)(px:Pos)(e:Expr):Bool:=match e with
 | .ListComp _ _ s _=>sc.names.lookup x == some .local && px.line == e.pos.line && !(s.names.any fun (n,k)=>n == x && (k == .local || k == .cell))
 | _=>false
noncomputable def d_:List Expr->Option (List (Str×Pos))
 | []=>some []
 | .Name x p::r=>(d_ r).map ((x,p) :: ·)
 | _=>none
def j2(sc:Scope)(N:List Str):List (Str×Pos)->Option (List Nat)
 | []=>some []
 | x::xs=>do let i ← oC sc N x.1;let is ← j2 sc N xs;some (i::is)
noncomputable def vT:Expr->Bool
 | .Call .. | .Name .. | .Subscript ..=>true
 | _=>false
section
variable{X:Cx}{Γ:kX}{T:Tab}{k:Nat}{sc:Scope}{N:List Str}
theorem iZ:∀ {es:List Expr} {nms:List (Str×Pos)},d_ es=some nms->es=nms.map fun x=>Expr.Name x.1 x.2
 | [],_,h=>by cases h;rfl
 | e::es,nms,h=>by
  unfold d_ at h;split at h
  ·rename_i e;cases e
  ·rename_i x p r q
   cases q;obtain⟨ns,h1,h⟩:=Option.map_eq_some_iff.mp h;subst h;rw[iZ h1];rfl
  ·cases h
theorem lH(env:Env):∀ (nms:List (Str×Pos)),(assignEach (nms.map fun x=>Expr.Name x.1 x.2) env).length=nms.length/\(assignEach (nms.map fun x=>Expr.Name x.1 x.2) env).findIdx? (·.1)=none
 | []=>⟨rfl,rfl⟩
 | x::r=>by
  obtain⟨h1,h2⟩:=lH env r;refine⟨?_,?_⟩
  ·show(assignEach (r.map fun x=>Expr.Name x.1 x.2) env).length + 1=_
   rw[h1];rfl
  ·show List.findIdx? (·.1) ((false,_)::assignEach (r.map fun x=>Expr.Name x.1 x.2) env)=none
   rw[List.findIdx?_cons,h2];rfl
end
def bD(N ps:List Str)(sc:Scope):Bool:=
 sc.kind == .function && !sc.isCoroutine && !sc.isGenerator && decide N.Nodup && decide (N.take ps.length=ps) && ps.all (vO sc) && sc.names.all fun y => !(y.2 == .free)
theorem dP{N ps:List Str}{sc:Scope}(h:bD N ps sc=true):fm N ps sc:=by
 simp only[bD,Bool.and_eq_true,Bool.not_eq_true',decide_eq_true_eq,List.all_eq_true,beq_iff_eq]at h;obtain⟨⟨⟨⟨⟨⟨h1,h2⟩,h3⟩,h4⟩,h5⟩,h6⟩,h7⟩:=h;refine⟨h1,h2,h3,h4,h5,fun x hx => ?_,fun y hy e => ?_⟩
 ·have hv:=h6 x hx
  unfold vO at hv;split at hv
  ·rename_i q;exact .inl q
  ·rename_i q;exact .inr q
  ·cases hv
 ·have:=h7 y hy
  rw[e]at this;exact absurd this (by decide)
section
variable{P:Program}{w:World}{K:PySem.W.Frag}{mg:Str->Option Value}{base:Heap}{Γ:kX}{T:Tab}{k:Nat}
end
noncomputable def yS:Value->Bool
 | .type x=>x == "list"
 | _=>false
def oF(K:PySem.W.Frag):Bool:=K.all fun p => !yS p.2.cls
theorem oG:∀ {K:PySem.W.Frag} {a:Addr} {o:Obj},K.lookup a=some o->(a,o)∈K
 | [],_,_,h=>by cases h
 | (b,p)::K,a,o,h=>by
  rw[List.lookup_cons]at h;split at h
  ·rename_i e
   cases h;rw[eq_of_beq e];simp
  ·exact List.mem_cons_of_mem _ (oG h)
theorem Fd{K:PySem.W.Frag}(hK:oF K=true){H:Hp}{a:Addr}{xs:List V}(h:jg K H a xs):Rd H a (.lst xs):=by
 rcases h with h | ⟨o,its,n,h1,h2,_⟩
 ·exact h
 ·have hm:=oG h1
  have:=List.all_eq_true.mp hK _ hm;rw[h2]at this;exact absurd this (by decide)
noncomputable def vU(K:PySem.W.Frag)(x:Str):Bool:=match PySem.W.nsIn K mainGlobals x with
 | some none=>true
 | _=>false
def rJ(K:PySem.W.Frag):Bool:=cZ.all (vU K)
theorem oH{K:PySem.W.Frag}{h:Heap}{mg:Str->Option Value}(X:K.In h)(G:h.Ns mainGlobals mg)(nb:rJ K=true):∀ x∈cZ,mg x=none:=fun x hx=>by
 have:=List.all_eq_true.mp nb x hx;unfold vU at this;split at this
 ·rename_i q;exact PySem.W.mg_none_of X G q
 ·cases this
end Mir
namespace Mir
open PySem
@[simp] theorem Fe:ja .non=some false:=rfl
@[simp] theorem yT{b:Bool}:ja (.bl b)=some b:=rfl
@[simp] theorem Ff{i:Int}:ja (.int i)=some (i != 0):=rfl
@[simp] theorem Fg{xs:List D}:ja (.lst xs)=some (!xs.isEmpty):=rfl
@[simp] theorem Fh{xs:List D}:ja (.tup xs)=some (!xs.isEmpty):=rfl
section
variable{Γ:kX}{ρ:yz}{a b:N4}{e:Ex}{i j:Nat}{bw:Bool}
end
section
variable{bw:Bool}{i:Nat}{a b c es:Ex}
end
section
variable{Γ:kX}{ρ:yz}{bw:Bool}{i:Nat}{a b c es:Ex}
def yD(o:Bool)(f:List D->D):D->Out Rs
 | .tup ds=>if small ds.length=true then .ok (o,f ds) else .bad
 | _=>.bad
@[simp] theorem Fi{o:Bool}{f:List D->D}{ds:List D}:yD o f (.tup ds)=if small ds.length=true then .ok (o,f ds) else .bad:=rfl
end
@[simp] theorem Im{i j:Int}:eW .Add (.int i) (.int j)=.ok (false,.int (i + j)):=rfl
@[simp] theorem Io{i j:Int}:eW .Sub (.int i) (.int j)=.ok (false,.int (i - j)):=rfl
@[simp] theorem Ip{i j:Int}:eW .Mult (.int i) (.int j)=if (kW i || kW j)=true then .ok (false,.int (i * j)) else .bad:=rfl
@[simp] theorem Iq{i j:Int}:eW .FloorDiv (.int i) (.int j)=if (decide (0 < j) && decide (j < 1073741824))=true then .ok (false,.int (i / j)) else .bad:=rfl
@[simp] theorem Ir{i j:Int}:eW .Mod (.int i) (.int j)=if decide (0 < j)=true then .ok (false,.int (i % j)) else .bad:=rfl
@[simp] theorem Iu{i j:Int}:eW .Pow (.int i) (.int j)=if (decide (0<=j) && decide (j<=1000) && decide (i.natAbs < 2 ^ 64))=true then .ok (false,.int (i ^ j.toNat)) else .bad:=rfl
@[simp] theorem Fj{i j:Str}:eW .Add (.str i) (.str j)=if small (i.length + j.length)=true then .ok (false,.str (i++j)) else .bad:=rfl
@[simp] theorem Fl{i j:List D}:eW .Add (.lst i) (.lst j)=if small (i.length + j.length)=true then .ok (true,.lst (i++j)) else .bad:=rfl
@[simp] theorem vV{x y:D}:dY .Eq x y=if (aH 8 x && aH 8 y)=true then .ok (dJ x y) else .bad:=rfl
@[simp] theorem BY{x y:D}:dY .NotEq x y=if (aH 8 x && aH 8 y)=true then .ok (!dJ x y) else .bad:=rfl
@[simp] theorem KG{i j:Int}:dY .Lt (.int i) (.int j)=.ok (decide (i < j)):=rfl
@[simp] theorem KH{i j:Int}:dY .LtE (.int i) (.int j)=.ok (decide (i<=j)):=rfl
@[simp] theorem cmp_gt{i j:Int}:dY .Gt (.int i) (.int j)=.ok (decide (j < i)):=rfl
@[simp] theorem KI{i j:Int}:dY .GtE (.int i) (.int j)=.ok (decide (j<=i)):=rfl
@[simp] theorem KJ{x y:D}:dY .In x y=inD x y:=rfl
@[simp] theorem Iv{x y:D}:dY .NotIn x y=inD x y >>= fun b=>.ok (!b):=rfl
@[simp] theorem KL{x y:D}:dY .Is x y=isD x y:=rfl
@[simp] theorem Iw{x y:D}:dY .IsNot x y=isD x y >>= fun b=>.ok (!b):=rfl
@[simp] theorem KN{n:Nat}:aH n .non=true:=by cases n<;>rfl
@[simp] theorem N8{n:Nat}{b:Bool}:aH n (.bl b)=true:=by cases n<;>rfl
@[simp] theorem KO{n:Nat}{i:Int}:aH n (.int i)=true:=by cases n<;>rfl
@[simp] theorem KP{n:Nat}{x:Str}:aH n (.str x)=true:=by cases n<;>rfl
@[simp] theorem KQ{n:Nat}{xs:List D}:aH (n + 1) (.lst xs)=xs.all (aH n):=rfl
@[simp] theorem KR{n:Nat}{xs:List D}:aH (n + 1) (.tup xs)=xs.all (aH n):=rfl
@[simp] theorem eq_int{i j:Int}:dJ (.int i) (.int j)=(i == j):=rfl
@[simp] theorem N9{i j:Bool}:dJ (.bl i) (.bl j)=(i == j):=rfl
@[simp] theorem eq_str{i j:Str}:dJ (.str i) (.str j)=(i == j):=rfl
@[simp] theorem KS{i j:List D}:dJ (.lst i) (.lst j)=dX i j:=rfl
@[simp] theorem KU{i j:List D}:dJ (.tup i) (.tup j)=dX i j:=rfl
@[simp] theorem Iy:dX [] []=true:=rfl
@[simp] theorem oI{x y:D}{xs ys:List D}:dX (x::xs) (y::ys)=(dJ x y && dX xs ys):=rfl
@[simp] theorem KW{y:D}{ys:List D}:dX [] (y::ys)=false:=rfl
@[simp] theorem KY{y:D}{ys:List D}:dX (y::ys) []=false:=rfl
theorem yU{z:Str}{i:Int}{c:Nat}(h:small z.length=true)(e:L2.iD z.cps.toList i=some c):pU (.str z) (.int i)=.ok (false,.str (fS c)):=by
 simp only[pU,h,if_pos,e]
@[simp] theorem Iz{xs:List D}{l h:Option Int}:vi (.lst xs) l h=.ok (true,.lst (cQ xs l h)):=rfl
@[simp] theorem ID{z:Str}{l h:Option Int}:vi (.str z) l h=if small z.length=true then .ok (false,.str ⟨(cQ z.cps.toList l h).toArray⟩) else .bad:=rfl
noncomputable def BZ(f:List Bool->Bool):Option (List Bool)->Out Rs
 | some bs=>.ok (false,.bl (f bs))
 | none=>.bad
@[simp] theorem DW{f:List Bool->Bool}{bs:List Bool}:BZ f (some bs)=.ok (false,.bl (f bs)):=rfl
@[simp] theorem KZ{t:Ty}:vj .non t=some false:=rfl
@[simp] theorem N_{t:Ty}{b:Bool}:vj (.bl b) t=some (t == .bool || t == .int):=rfl
@[simp] theorem ty_int{t:Ty}{i:Int}:vj (.int i) t=some (t == .int):=rfl
@[simp] theorem ty_str{t:Ty}{x:Str}:vj (.str x) t=some (t == .str):=rfl
@[simp] theorem K0{t:Ty}{xs:List D}:vj (.lst xs) t=some (t == .list):=rfl
@[simp] theorem K_{t:Ty}{xs:List D}:vj (.tup xs) t=some (t == .tuple):=rfl
@[simp] theorem La{t:Ty}{ks:List L2.Key}{xs:List D}:vj (.dct ks xs) t=some (t == .dict):=rfl
theorem bc{n:Nat}(h:n<=100000):small n=true:=by
 unfold small;rw[decide_eq_true_eq,sizeLine_eq];omega
theorem jm{i:Int}(h1 : -(2 ^ 64) < i)(h2:i < 2 ^ 64):kW i=true:=decide_eq_true (by omega)
theorem dj{i:Int}(h1 : -(2 ^ 62) < i)(h2:i < 2 ^ 62):gx i=true:=decide_eq_true (by omega)
theorem B1{α:Type}{xs:List α}{i:Int}(h0:0<=i)(h1:i < xs.length):∃ x,x∈xs/\L2.iD xs i=some x:=by
 have hl:i.toNat < xs.length:=by omega
 refine⟨xs[i.toNat],List.getElem_mem hl,?_⟩;have h:=L2.bf (List.getElem?_eq_getElem hl);rw[show(i.toNat:Int)=i by omega]at h
 exact h
theorem rK{α:Type}{p:α->Bool}:∀ {xs:List α},gy (xs.map fun x=>.bl (p x))=some (xs.map p)
 | []=>rfl
 | x::xs=>by simp only[List.map_cons,gy,yT,rK]
@[simp] theorem in_str{x y:Str}:inD (.str x) (.str y)=.ok (AI x y):=rfl
theorem bS(n:Nat):∀ lo:Int,(intsFrom lo n).length=n:=by
 induction n with
 | zero=>intro lo;rfl
 | succ n ih=>intro lo;simp[intsFrom,ih]
theorem dk{n:Nat}:∀ {lo:Int} {i:Nat} {d:D},(intsFrom lo n)[i]?=some d->d=.int (lo + i)/\i < n:=by
 induction n with
 | zero=>intro lo i d h;simp[intsFrom]at h
 | succ n ih=>
  intro lo i d h;cases i with
  | zero=>simp[intsFrom]at h;subst h;exact⟨by simp,by omega⟩
  | succ i=>
   simp[intsFrom]at h;obtain⟨h1,h2⟩:=ih h;exact⟨by rw[h1];congr 1;omega,by omega⟩
theorem str_len{z:Str}:z.length=z.cps.toList.length:=by unfold Str.length;simp
theorem j3{c:Nat}:(fS c).length=1:=rfl
noncomputable def L1(xs:List Str):D:=.lst (xs.map .str)
def LL(rs:List (List Str)):D:=.lst (rs.map L1)
theorem j4{α:Type}(xs:List α)(k:Nat):cQ xs (some (k:Int)) none=xs.drop k:=by
 unfold cQ;rw[HT.nX,HT.jk];rcases Nat.le_total k xs.length with h | h
 ·rw[Nat.min_eq_left h]
  exact List.take_of_length_le (by simp)
 ·rw[Nat.min_eq_right h,List.drop_eq_nil_of_le (Nat.le_refl _),List.drop_eq_nil_of_le h];simp
theorem vW{α:Type}(xs:List α)(k:Nat):cQ xs none (some (k:Int))=xs.take k:=by
 unfold cQ;rw[HT.nX,HT.jk,List.drop_zero,Nat.sub_zero];rcases Nat.le_total k xs.length with h | h
 ·rw[Nat.min_eq_left h]
 ·rw[Nat.min_eq_right h,List.take_of_length_le (Nat.le_refl _),List.take_of_length_le h]
theorem vX{α:Type}(xs:List α)(k m:Nat):cQ xs (some (k:Int)) (some (m:Int))=(xs.drop k).take (m - k):=by
 unfold cQ;rw[HT.jk,HT.jk];rcases Nat.le_total k xs.length with h | h
 ·rw[Nat.min_eq_left h]
  rcases Nat.le_total m xs.length with h' | h'
  ·rw[Nat.min_eq_left h']
  ·rw[Nat.min_eq_right h',List.take_of_length_le (by simp),List.take_of_length_le (by simp;omega)]
 ·rw[Nat.min_eq_right h,List.drop_eq_nil_of_le (Nat.le_refl _),List.drop_eq_nil_of_le h];simp
@[simp] theorem Oa{α:Type}(xs:List α):cQ xs (some 1) none=xs.tail:=by rw[show(1:Int)=((1:Nat):Int) from rfl,j4];simp
theorem mH(n:Nat)(xs:List Str):(xs.map D.str).all (aH n)=true:=by
 rw[List.all_eq_true];intro d hd;obtain⟨x,_,rfl⟩:=List.mem_map.mp hd;simp
theorem yV(xs:List Str)(n:Str):((xs.map D.str).any fun y=>dJ y (.str n))=decide (n∈xs):=by
 induction xs with
 | nil=>rfl
 | cons x xs ih=>
  simp only[List.map_cons,List.any_cons,ih,eq_str,List.mem_cons]
  by_cases h:n=x
  ·subst h;simp
  ·have:(x == n)=false:=by simp;exact fun e=>h e.symm
   simp[this,h]
theorem yW(xs:List Str)(n:Str):inD (.str n) (.lst (xs.map .str))=.ok (decide (n∈xs)):=by
 have:inD (.str n) (.lst (xs.map .str))=if aH 8 (.str n) && (xs.map D.str).all (aH 8) then .ok ((xs.map D.str).any fun y=>dJ y (.str n)) else .bad:=rfl
 rw[this,mH,yV];simp
theorem rL(xs ys:List Str):dX (xs.map .str) (ys.map .str)=decide (xs=ys):=by
 induction xs generalizing ys with
 | nil=>cases ys<;>simp
 | cons x xs ih=>
  cases ys with
  | nil=>simp
  | cons y ys=>
   simp only[List.map_cons,oI,eq_str,ih,List.cons.injEq]
   by_cases h:x=y
   ·subst h;simp
   ·simp[h]
theorem Fm(xs ys:List Str):dJ (L1 xs) (L1 ys)=decide (xs=ys):=rL xs ys
theorem vY(n:Nat)(xs:List Str):aH (n + 1) (L1 xs)=true:=mH n xs
theorem AN(n:Nat)(rs:List (List Str)):aH (n + 2) (LL rs)=true:=by
 show(rs.map L1).all (aH (n + 1))=true
 rw[List.all_eq_true];intro d hd;obtain⟨x,_,rfl⟩:=List.mem_map.mp hd;exact vY n x
theorem AO(rs ts:List (List Str)):dJ (LL rs) (LL ts)=decide (rs=ts):=by
 show dX (rs.map L1) (ts.map L1)=_
 induction rs generalizing ts with
 | nil=>cases ts<;>simp
 | cons x xs ih=>
  cases ts with
  | nil=>simp
  | cons y ys=>
   simp only[List.map_cons,oI,Fm,ih,List.cons.injEq]
   by_cases h:x=y
   ·subst h;simp
   ·simp[h]
noncomputable def freeOf(rs:List (List Str)):List Str->Option Str
 | []=>none
 | n::_=>if ∃ t∈rs,n∈t.tail then none else some n
theorem j5{rs:List (List Str)}{n:Str}{r:List Str}(h:∃ t∈rs,n∈t.tail):freeOf rs (n::r)=none:=if_pos h
theorem gS{rs:List (List Str)}{n:Str}{r:List Str}(h:¬ ∃ t∈rs,n∈t.tail):freeOf rs (n::r)=some n:=if_neg h
def free(rs:List (List Str)):Option Str:=rs.findSome? (freeOf rs)
noncomputable def vZ:Option Str->D
 | none=>.non
 | some n=>.str n
@[simp] theorem Lb{x:Str}:isD (.str x) .non=.ok false:=rfl
@[simp] theorem IE:isD .non .non=.ok true:=rfl
@[simp] theorem Lc{x:Int}:isD (.int x) .non=.ok false:=rfl
@[simp] theorem Ld{x:List D}:isD (.lst x) .non=.ok false:=rfl
noncomputable def cH(n:Str)(r:List Str):List Str:=if r.take 1=[n] then r.tail else r
inductive Mg:List (List Str)->List Str->Prop
 | done {rs}:(∀ r∈rs,r=[])->Mg rs []
 | step {rs n o}:(∃ r∈rs,r≠[])->free rs=some n->Mg (rs.map (cH n)) o->Mg rs (n::o)
theorem any_rows(rs:List (List Str)):gy (rs.map L1)=some (rs.map fun r => !r.isEmpty):=by
 induction rs with
 | nil=>rfl
 | cons r rs ih=>
  simp only[List.map_cons,gy,ih];simp[L1]
theorem any_true{rs:List (List Str)}(h:∃ r∈rs,r≠[]):(rs.map fun r => !r.isEmpty).any id=true:=by
 obtain⟨r,hr,hn⟩:=h;rw[List.any_eq_true];exact⟨_,List.mem_map.mpr ⟨r,hr,rfl⟩,by cases r<;>simp at hn ⊢⟩
abbrev Fn:=List D->Out Rs
def ef(μ:Int->Int->Int->Int)(F:Fn):Prop:=∀ c t m,0<=t->t < 100000->0 < m->0<=μ c t m/\μ c t m < m/\F [.int c,.int t,.int m]=.ok (false,.int (μ c t m))
noncomputable def SC(ns:List Int):D:=.lst (ns.map .int)
def j6(κ:List Int->Nat->Int)(F:Fn):Prop:=∀ ns (k:Nat),F [SC ns,.int k]=.ok (false,.int (κ ns k))
theorem ints_map(lo:Int)(n:Nat):intsFrom lo n=(List.range n).map fun (i:Nat)=>D.int (lo + i):=by
 apply List.ext_getElem?;intro i
 by_cases h:i < n
 ·have hl:i < (intsFrom lo n).length:=by rw[bS];exact h
  have e:=(dk (List.getElem?_eq_getElem hl)).1;rw[List.getElem?_eq_getElem hl,e];simp[h]
 ·rw[List.getElem?_eq_none (by rw[bS];omega),List.getElem?_eq_none (by simp;omega)]
theorem lJ(n:Nat):intsFrom 0 n=(List.range n).map fun (i:Nat)=>D.int i:=by
 rw[ints_map];congr 1;funext i;simp
theorem lK{α β:Type}(f:α->β):∀ (xs:List α) (i:Nat),(xs.map f).eraseIdx i=(xs.eraseIdx i).map f
 | [],_=>by simp
 | x::xs,0=>by simp
 | x::xs,i + 1=>by simp[lK f xs i]
theorem j7{α:Type}:∀ (xs:List α) (i:Nat) (h:i < xs.length),(xs[i]::xs.eraseIdx i).Perm xs
 | x::xs,0,_=>by simp
 | x::xs,i + 1,h=>by
  have ih:=j7 xs i (by simpa using h)
  simp only[List.getElem_cons_succ,List.eraseIdx_cons_succ];exact(List.Perm.swap _ _ _).trans (List.Perm.cons x ih)
theorem tS{α:Type}(xs:List α)(d:α):∀ (p:Nat->Bool),(((List.range xs.length).filter p).map fun i=>xs.getD i d).Sublist xs:=by
 intro p
 have h1:((List.range xs.length).map fun i=>xs.getD i d)=xs:=by
  apply List.ext_getElem?;intro i
  by_cases h:i < xs.length
  ·simp[h]
  ·rw[List.getElem?_eq_none (by simpa using h),List.getElem?_eq_none (by omega)]
 have h2:(((List.range xs.length).filter p).map fun i=>xs.getD i d).Sublist ((List.range xs.length).map fun i=>xs.getD i d):=List.Sublist.map _ List.filter_sublist
 rw[h1]at h2;exact h2
noncomputable def abc:Str:="abcdefghijklmnopqrstuvwxyz"
theorem B2:∀ q:Nat,q < 26->abc.cps.toList[q]?=some (97 + q):=by decide
theorem rM{q:Int}(h0:0<=q)(h1:q < 26):pU (.str abc) (.int q)=.ok (false,.str (fS (97 + q.toNat))):=by
 refine yU (bc (by decide)) ?_
 have:=L2.bf (B2 q.toNat (by omega))
 rwa[show((q.toNat:Nat):Int)=q by omega]at this
noncomputable def bs(μ:Int->Int->Int->Int)(c:Int):List D:=(List.range 8).map fun (i:Nat)=>.int (μ c i 26)
section
variable{Γ:kX}{M:Fn}{μ:Int->Int->Int->Int}{c:Int}{m:Nat}
def Nm(μ:Int->Int->Int->Int)(c:Int)(m at' k:Nat)(z:Str):Prop:=
 z.length<=8/\if μ c 10 4=1/\m < 9 then z.length=k + 1 else z.cps.toList[at']?=some (97 + ((μ c at' 26 + k) % 26).toNat)
theorem Fo{at' k k':Nat}{z z':Str}(hk:k < m)(hk':k' < m)(hm:m<=24)(h:Nm μ c m at' k z)(h':Nm μ c m at' k' z')(e:z=z'):k=k':=by
 subst e;obtain⟨_,h⟩:=h;obtain⟨_,h'⟩:=h'
 by_cases hj:μ c 10 4=1/\m < 9
 ·rw[if_pos hj]at h h';omega
 ·rw[if_neg hj]at h h'
  rw[h]at h';have:=Option.some.inj h';omega
end
theorem yX{rs:List (List Str)}{r:List Str}{n:Str}(hr:r∈rs)(h:freeOf rs r=some n):∃ k,free rs=some k:=by
 unfold free;cases q:rs.findSome? (freeOf rs) with
 | some k=>exact⟨k,rfl⟩
 | none=>
  rw[List.findSome?_eq_none_iff]at q;rw[q r hr]at h;cases h
theorem jn{rs:List (List Str)}{n:Str}(h:free rs=some n):(∃ r∈rs,∃ t,r=n::t)/\∀ t∈rs,n∉t.tail:=by
 unfold free at h;obtain⟨r,hr,e⟩:=List.exists_of_findSome?_eq_some h;cases r with
 | nil=>cases e
 | cons x t=>
  by_cases hb:∃ t∈rs,x∈t.tail
  ·rw[j5 hb]at e;cases e
  ·rw[gS hb]at e
   cases e;exact⟨⟨_,hr,t,rfl⟩,fun t ht hn=>hb ⟨t,ht,hn⟩⟩
theorem yY{n:Str}{rs:List (List Str)}(hf:free rs=some n):∀ r∈rs.map (cH n),n∉r:=by
 intro r hr hn;obtain⟨t,ht,rfl⟩:=List.mem_map.mp hr;have hno:=(jn hf).2 t ht;unfold cH at hn;split at hn
 ·exact hno hn
 ·rename_i h
  cases t with
  | nil=>simp at hn
  | cons x t=>
   rcases List.mem_cons.mp hn with e | e
   ·subst e;exact h (by simp)
   ·exact hno e
theorem v9{n x:Str}{r:List Str}(h:x∈cH n r):x∈r:=by
 unfold cH at h;split at h
 ·exact List.mem_of_mem_tail h
 ·exact h
theorem B3{rs:List (List Str)}{o:List Str}(M:Mg rs o):∀ x∈o,∃ r∈rs,x∈r:=by
 induction M with
 | done h=>intro x hx;simp at hx
 | @step rs n o hne hf _ ih=>
  intro x hx;rcases List.mem_cons.mp hx with e | e
  ·subst e
   obtain⟨⟨r,hr,t,rfl⟩,_⟩:=jn hf;exact⟨_,hr,by simp⟩
  ·obtain⟨r,hr,hx⟩:=ih x e
   obtain⟨t,ht,rfl⟩:=List.mem_map.mp hr;exact⟨t,ht,v9 hx⟩
theorem v_{rs:List (List Str)}{o:List Str}(M:Mg rs o):o.Nodup:=by
 induction M with
 | done h=>exact List.nodup_nil
 | @step rs n o hne hf M' ih=>
  refine List.nodup_cons.mpr ⟨fun h => ?_,ih⟩
  obtain⟨r,hr,hx⟩:=B3 M' n h;exact yY hf r hr hx
section
variable{Γ:kX}
noncomputable def behind(rs:List (List Str)):List Str:=rs.flatMap List.tail
end
@[simp] theorem Ob{xs:List Str}{n:Str}:inD (.str n) (L1 xs)=.ok (decide (n∈xs)):=yW xs n
@[simp] theorem Oc{xs:List Str}{t:Ty}:vj (L1 xs) t=some (t == .list):=rfl
@[simp] theorem Od{a b:Bool}:isD (.bl a) (.bl b)=.ok (a == b):=rfl
open L2
structure Le where
 name:Str
 qual:Str
 params:Arguments
 body:List Stmt
 scope:Scope
 ps:List Str
 cn:List Str
class aJ where
 tab:Nat->Le
 ta:Nat->Addr
inductive Cell where
 | lst (ds:List D)
 | dK (kvs:List (Key×D))
 | dT (kvs:List (List Key×D))
 | ins (C:Str) (fs:List (Str×D))
 | fn (j:Nat) (mI:List D)
 | tb (j:Nat) (p:Pos) (b:Bool)
abbrev aD:=List Cell
inductive av (α:Type) where
 | ok (a:α) (Ω:aD)
 | exc (x:D) (Ω:aD)
 | bad
noncomputable def av.bind{α β:Type}:av α->(α->aD->av β)->av β
 | .ok a Ω,f=>f a Ω
 | .exc x Ω,_=>.exc x Ω
 | .bad,_=>.bad
abbrev aU:=List (Option D)
inductive aL {α β:Type} (R:α->β->Prop):List α->List β->Prop where
 | nil:aL R [] []
 | cons {a b as bs}:R a b->aL R as bs->aL R (a::as) (b::bs)
namespace aL
variable{α β:Type}{R S:α->β->Prop}
theorem length:∀ {as:List α} {bs:List β},aL R as bs->bs.length=as.length
 | _,_,.nil=>rfl
 | _,_,.cons _ t=>by rw[List.length_cons,List.length_cons,length t]
theorem imp(h:∀ a b,R a b->S a b):∀ {as:List α} {bs:List β},aL R as bs->aL S as bs
 | _,_,.nil=>.nil
 | _,_,.cons r t=>.cons (h _ _ r) (imp h t)
theorem get:∀ {as:List α} {bs:List β} {i:Nat} {a:α},aL R as bs->as[i]?=some a->∃ b,bs[i]?=some b/\R a b
 | _,_,_,_,.nil,e=>by simp at e
 | _,_,0,_,.cons r _,e=>by simp at e;subst e;exact⟨_,rfl,r⟩
 | _,_,i + 1,a,.cons _ t,e=>by
  obtain⟨u,h1,h2⟩:=get (i:=i) (a:=a) t (by simpa using e)
  exact⟨u,by simpa using h1,h2⟩
theorem B4:∀ {as:List α} {bs:List β} {i:Nat} {b:β},aL R as bs->bs[i]?=some b->∃ a,as[i]?=some a/\R a b
 | _,_,_,_,.nil,e=>by simp at e
 | _,_,0,_,.cons r _,e=>by simp at e;subst e;exact⟨_,rfl,r⟩
 | _,_,i + 1,a,.cons _ t,e=>by
  obtain⟨u,h1,h2⟩:=B4 (i:=i) (b:=a) t (by simpa using e)
  exact⟨u,by simpa using h1,h2⟩
theorem append:∀ {as cs:List α} {bs ds:List β},aL R as bs->aL R cs ds->aL R (as++cs) (bs++ds)
 | _,_,_,_,.nil,h=>h
 | _,_,_,_,.cons r t,h=>.cons r (append t h)
theorem one{a:α}{b:β}(h:R a b):aL R [a] [b]:=.cons h .nil
theorem take:∀ {as:List α} {bs:List β} (n:Nat),aL R as bs->aL R (as.take n) (bs.take n)
 | _,_,0,_=>by simp;exact .nil
 | _,_,n + 1,.nil=>by simp;exact .nil
 | _,_,n + 1,.cons r t=>.cons r (take n t)
theorem drop:∀ {as:List α} {bs:List β} (n:Nat),aL R as bs->aL R (as.drop n) (bs.drop n)
 | _,_,0,h=>h
 | _,_,n + 1,.nil=>by simp;exact .nil
 | _,_,n + 1,.cons r t=>drop n t
theorem reverse:∀ {as:List α} {bs:List β},aL R as bs->aL R as.reverse bs.reverse
 | _,_,.nil=>.nil
 | _,_,.cons r t=>by rw[List.reverse_cons,List.reverse_cons];exact(reverse t).append (one r)
theorem eraseIdx:∀ {as:List α} {bs:List β} (n:Nat),aL R as bs->aL R (as.eraseIdx n) (bs.eraseIdx n)
 | _,_,n,.nil=>by simp;exact .nil
 | _,_,0,.cons _ t=>t
 | _,_,n + 1,.cons r t=>.cons r (eraseIdx n t)
theorem set{a:α}{b:β}(r:R a b):∀ {as:List α} {bs:List β} (n:Nat),aL R as bs->aL R (as.set n a) (bs.set n b)
 | _,_,_,.nil=>.nil
 | _,_,0,.cons _ t=>.cons r t
 | _,_,n + 1,.cons q t=>.cons q (set r n t)
theorem nil_inv{bs:List β}(h:aL R [] bs):bs=[]:=by cases h;rfl
theorem cons_inv{a:α}{as:List α}{bs:List β}(h:aL R (a::as) bs):∃ b r,bs=b::r/\R a b/\aL R as r:=by
 cases h with
 | cons r t=>exact⟨_,_,rfl,r,t⟩
end aL
mutual
noncomputable def au(α:List Addr)(Z:Addr->Prop)(H:Hp):D->V->Prop
 | .non,v=>v=.non
 | .bl b,v=>v=.bl b
 | .int i,v=>v=.int i
 | .str x,v=>v=.str x
 | .lst ds,v=>∃ a vs,v=.ref a/\Z a/\Rd H a (.lst vs)/\dv α Z H ds vs
 | .tup ds,v=>∃ a vs,v=.ref a/\Z a/\H a=some (.tup vs)/\dv α Z H ds vs
 | .dct _ _,_=>False
 | .ref n,v=>∃ a,α[n]?=some a/\v=.ref a
noncomputable def dv(α:List Addr)(Z:Addr->Prop)(H:Hp):List D->List V->Prop
 | [],vs=>vs=[]
 | d::ds,vs=>∃ v r,vs=v::r/\au α Z H d v/\dv α Z H ds r
end
theorem a_{α:List Addr}{Z:Addr->Prop}{H:Hp}:∀ {ds:List D} {vs:List V},dv α Z H ds vs↔aL (au α Z H) ds vs
 | [],vs=>by
  simp only[dv];exact⟨fun h=>by subst h;exact .nil,fun h=>h.nil_inv⟩
 | d::ds,vs=>by
  simp only[dv];constructor
  ·rintro⟨v,r,rfl,h1,h2⟩
   exact .cons h1 (a_.mp h2)
  ·intro h
   obtain⟨v,r,rfl,h1,h2⟩:=h.cons_inv;exact⟨v,r,rfl,h1,a_.mpr h2⟩
section
variable{α α':List Addr}{Z Z':Addr->Prop}{H H':Hp}
mutual
theorem au.mono(p:∀ (n:Nat) (a:Addr),α[n]?=some a->α'[n]?=some a)(k:∀ a o,Z a->H a=some o->H' a=some o)(z:∀ a,Z a->Z' a):∀ {d:D} {v:V},au α Z H d v->au α' Z' H' d v
 | .non,_,h=>by simpa only [au] using h
 | .bl _,_,h=>by simpa only [au] using h
 | .int _,_,h=>by simpa only [au] using h
 | .str _,_,h=>by simpa only [au] using h
 | .lst ds,v,h=>by
  simp only[au]at h ⊢;obtain⟨a,vs,e,hz,hr,hs⟩:=h;exact⟨a,vs,e,z a hz,my (fun o=>k a o hz) hr,dv.mono p k z hs⟩
 | .tup ds,v,h=>by
  simp only[au]at h ⊢;obtain⟨a,vs,e,hz,hr,hs⟩:=h;exact⟨a,vs,e,z a hz,k a _ hz hr,dv.mono p k z hs⟩
 | .dct ks ds,v,h=>by simp only[au]at h
 | .ref n,v,h=>by
  simp only[au]at h ⊢;obtain⟨a,e,h⟩:=h;exact⟨a,p n a e,h⟩
theorem dv.mono(p:∀ (n:Nat) (a:Addr),α[n]?=some a->α'[n]?=some a)(k:∀ a o,Z a->H a=some o->H' a=some o)(z:∀ a,Z a->Z' a):∀ {ds:List D} {vs:List V},dv α Z H ds vs->dv α' Z' H' ds vs
 | [],_,h=>by simpa only [dv] using h
 | d::ds,vs,h=>by
  simp only[dv]at h ⊢;obtain⟨v,r,e,h1,h2⟩:=h;exact⟨v,r,e,au.mono p k z h1,dv.mono p k z h2⟩
end
end
def AQ{K:Type}(R:D->V->Prop)(kvs:List (K×D))(kvs':List (K×V)):Prop:=aL (fun p q=>p.1=q.1/\R p.2 q.2) kvs kvs'
variable [aJ]
def gz(κ:Str->Addr->Prop)(R:D->V->Prop)(H:Hp)(a:Addr):Cell->Prop
 | .lst ds=>∃ vs,H a=some (.lst vs)/\aL R ds vs
 | .dK kvs=>∃ kvs',H a=some (.dK kvs')/\AQ R kvs kvs'
 | .dT kvs=>∃ kvs',H a=some (.dT kvs')/\AQ R kvs kvs'
 | .ins C fs=>∃ Ca dx fs',κ C Ca/\H a=some (.ins Ca dx fs')/\AQ R fs fs'
 | _=>False
theorem AQ.imp{K:Type}{R S:D->V->Prop}(h:∀ d v,R d v->S d v){kvs:List (K×D)}{kvs':List (K×V)}(k:AQ R kvs kvs'):AQ S kvs kvs':=aL.imp (fun a b q=>⟨q.1,h _ _ q.2⟩) k
theorem gz.imp{κ:Str->Addr->Prop}{R S:D->V->Prop}{H H':Hp}{a:Addr}{c:Cell}(h:∀ d v,R d v->S d v)(e:∀ o,H a=some o->H' a=some o)(z:∀ b o u,H b=some (.i7 o u)->H' b=some (.i7 o u))(k:gz κ R H a c):gz κ S H' a c:=by
 cases c with
 | lst ds=>obtain⟨vs,h1,h2⟩:=k;exact⟨vs,e _ h1,h2.imp h⟩
 | dK kvs=>obtain⟨vs,h1,h2⟩:=k;exact⟨vs,e _ h1,h2.imp h⟩
 | dT kvs=>obtain⟨vs,h1,h2⟩:=k;exact⟨vs,e _ h1,h2.imp h⟩
 | ins C fs=>obtain⟨Ca,dx,vs,h0,h1,h2⟩:=k;exact⟨Ca,dx,vs,h0,e _ h1,h2.imp h⟩
 | fn j mI=>exact k.elim
 | tb j p b=>exact k.elim
theorem gz.some{κ:Str->Addr->Prop}{R:D->V->Prop}{H:Hp}{a:Addr}{c:Cell}(k:gz κ R H a c):H a≠none:=by
 cases c with
 | lst ds=>obtain⟨vs,h1,h2⟩:=k;rw[h1];simp
 | dK kvs=>obtain⟨vs,h1,h2⟩:=k;rw[h1];simp
 | dT kvs=>obtain⟨vs,h1,h2⟩:=k;rw[h1];simp
 | ins C fs=>obtain⟨Ca,dx,vs,h0,h1,h2⟩:=k;rw[h1];simp
 | fn j mI=>exact k.elim
 | tb j p b=>exact k.elim
structure bt(κ:Str->Addr->Prop)(α:List Addr)(Z:Addr->Prop)(Ω:aD)(H:Hp):Prop where
 nL:α.Nodup
 xP:aL (fun c a=>gz κ (au α Z H) H a c) Ω α
 sep:∀ a∈α,¬ Z a
 dom:∀ a,Z a->H a≠none
structure bN(α:List Addr)(Z:Addr->Prop)(H:Hp)(α':List Addr)(Z':Addr->Prop)(H':Hp):Prop where
 pre:∀ (n:Nat) (a:Addr),α[n]?=some a->α'[n]?=some a
 sub:∀ a,Z a->Z' a
 new:∀ a,Z' a->Z a\/H a=none
 B5:∀ a∈α',a∈α\/H a=none
 frm:∀ a o,H a=some o->a∉α->H' a=some o
 has:∀ a∈α,H' a≠none
section
variable{κ:Str->Addr->Prop}{α α' Fp:List Addr}{Z Z' Oe:Addr->Prop}{Ω ao:aD}{H H' IF:Hp}
theorem bN.refl(h:∀ a∈α,H a≠none):bN α Z H α Z H:=⟨fun _ _ e=>e,fun _ h=>h,fun _ h=>.inl h,fun _ h=>.inl h,fun _ _ e _=>e,h⟩
theorem bt.has(S:bt κ α Z Ω H):∀ a∈α,H a≠none:=fun a ha=>by
 obtain⟨n,hn⟩:=List.mem_iff_getElem?.mp ha;obtain⟨c,_,h⟩:=S.xP.B4 hn;exact h.some
theorem bN.none(g:bN α Z H α' Z' H'){a:Addr}(h:H' a=none):H a=none:=by
 cases q:H a with
 | none=>rfl
 | some o=>
  by_cases ha:a∈α
  ·exact absurd h (g.has a ha)
  ·rw[g.frm a o q ha]at h;cases h
theorem bN.trans(g:bN α Z H α' Z' H')(g':bN α' Z' H' Fp Oe IF):bN α Z H Fp Oe IF where
 pre:=fun n a e=>g'.pre n a (g.pre n a e)
 sub:=fun a h=>g'.sub a (g.sub a h)
 new:=fun a h=>by
  rcases g'.new a h with h | h
  ·exact g.new a h
  ·exact .inr (g.none h)
 B5:=fun a h=>by
  rcases g'.B5 a h with h | h
  ·exact g.B5 a h
  ·exact .inr (g.none h)
 frm:=fun a o e ha=>g'.frm a o (g.frm a o e ha) fun h=>by
  rcases g.B5 a h with h | h
  ·exact ha h
  ·rw[e]at h;cases h
 has:=fun a ha=>by
  obtain⟨n,hn⟩:=List.mem_iff_getElem?.mp ha;exact g'.has a (List.mem_of_getElem? (g.pre n a hn))
theorem bt.dw(S:bt κ α Z Ω H)(g:bN α Z H α' Z' H'){d:D}{v:V}(h:au α Z H d v):au α' Z' H' d v:=
 h.mono g.pre (fun a o z e=>g.frm a o e fun ha=>S.sep a ha z) g.sub
theorem bt.j8(S:bt κ α Z Ω H)(g:bN α Z H α' Z' H'){ds:List D}{vs:List V}(h:aL (au α Z H) ds vs):aL (au α' Z' H') ds vs:=h.imp fun _ _ q=>S.dw g q
theorem bt.cell(S:bt κ α Z Ω H){n:Nat}{c:Cell}(e:Ω[n]?=some c):∃ a,α[n]?=some a/\gz κ (au α Z H) H a c:=S.xP.get e
theorem bt.len(S:bt κ α Z Ω H):α.length=Ω.length:=S.xP.length
theorem bt.wa(S:bt κ α Z Ω H){p:Addr}{o:HO}(h:H p=none)(z:Prop)[Decidable z]:bt κ α (if z then Zp Z p else Z) Ω (upd H p o)/\bN α Z H α (if z then Zp Z p else Z) (upd H p o):=by
 have hne:∀ a∈α,a≠p:=fun a ha e=>S.has a ha (e▸h)
 have B6:∀ a,Z a->a≠p:=fun a hz e=>S.dom a hz (e▸h)
 have sub:∀ a,Z a->(if z then Zp Z p else Z) a:=fun a ha=>by
  split
  ·exact .inl ha
  ·exact ha
 have g:bN α Z H α (if z then Zp Z p else Z) (upd H p o):=⟨fun _ _ e=>e,sub,fun a ha=>by
   split at ha
   ·rcases ha with ha | rfl
    ·exact .inl ha
    ·exact .inr h
   ·exact .inl ha,fun _ ha=>.inl ha,fun a u e _=>by rw[aG (ba e h)];exact e,fun a ha=>by rw[aG (hne a ha)];exact S.has a ha⟩
 refine⟨⟨S.nL,?_,fun a ha hz => ?_,fun a ha => ?_⟩,g⟩
 ·refine S.xP.imp fun c a hc => ?_
  refine hc.imp (fun d v r=>S.dw g r) (fun u e => ?_) fun b o' u' e => ?_
  ·rw[aG (ba e h)];exact e
  ·rw[aG (ba e h)];exact e
 ·split at hz
  ·rcases hz with hz | rfl
   ·exact S.sep a ha hz
   ·exact hne _ ha rfl
  ·exact S.sep a ha hz
 ·split at ha
  ·rcases ha with ha | rfl
   ·rw[aG (B6 a ha)];exact S.dom a ha
   ·rw[bo];simp
  ·rw[aG (B6 a ha)];exact S.dom a ha
theorem bt.laid(S:bt κ α Z Ω H){p:Addr}{o:HO}{c:Cell}(h:H p=none)(hc:∀ R:D->V->Prop,(∀ d v,au α Z H d v->R d v)->gz κ R (upd H p o) p c):bt κ (α++[p]) Z (Ω++[c]) (upd H p o)/\bN α Z H (α++[p]) Z (upd H p o):=by
 have hne:∀ a∈α,a≠p:=fun a ha e=>S.has a ha (e▸h)
 have B6:∀ a,Z a->a≠p:=fun a hz e=>S.dom a hz (e▸h)
 have g:bN α Z H (α++[p]) Z (upd H p o):=⟨fun n a e=>by rw[List.getElem?_append_left (List.getElem?_eq_some_iff.mp e).1];exact e,fun _ h=>h,fun _ h=>.inl h,fun a ha=>by
   rcases List.mem_append.mp ha with ha | ha
   ·exact .inl ha
   ·rw[List.mem_singleton.mp ha];exact .inr h,fun a u e _=>by rw[aG (ba e h)];exact e,fun a ha=>by rw[aG (hne a ha)];exact S.has a ha⟩
 refine⟨⟨?_,?_,fun a ha hz => ?_,fun a ha=>by rw[aG (B6 a ha)];exact S.dom a ha⟩,g⟩
 ·refine List.nodup_append.mpr ⟨S.nL,by simp,fun a ha b hb => ?_⟩
  rw[List.mem_singleton.mp hb];exact hne a ha
 ·refine aL.append (S.xP.imp fun c a hc => ?_) (.one (hc _ fun d v r=>S.dw g r))
  refine hc.imp (fun d v r=>S.dw g r) (fun u e => ?_) fun b o' u' e => ?_
  ·rw[aG (ba e h)];exact e
  ·rw[aG (ba e h)];exact e
 ·rcases List.mem_append.mp ha with ha | ha
  ·exact S.sep a ha hz
  ·rw[List.mem_singleton.mp ha]at hz;exact B6 _ hz rfl
theorem bt.put(S:bt κ α Z Ω H){n:Nat}{p:Addr}{o:HO}{c:Cell}(hn:α[n]?=some p)(hm:∀ o u,H p≠some (.i7 o u))(hc:∀ R:D->V->Prop,(∀ d v,au α Z H d v->R d v)->gz κ R (upd H p o) p c):bt κ α Z (Ω.set n c) (upd H p o)/\bN α Z H α Z (upd H p o):=by
 have hpm:p∈α:=List.mem_of_getElem? hn
 have g:bN α Z H α Z (upd H p o):=⟨fun n a e=>e,fun _ h=>h,fun _ h=>.inl h,fun a ha=>.inl ha,fun a u e ha=>by rw[aG (fun (q:a=p)=>ha (by rw[q];exact hpm))];exact e,fun a ha=>by
   by_cases q:a=p
   ·subst q;rw[bo];simp
   ·rw[aG q];exact S.has a ha⟩
 refine⟨⟨S.nL,?_,S.sep,fun a ha => ?_⟩,g⟩
 ·have key:∀ {cs:List Cell} {as:List Addr} {n:Nat},as.Nodup->aL (fun c a=>gz κ (au α Z H) H a c) cs as->as[n]?=some p->aL (fun c a=>gz κ (au α Z (upd H p o)) (upd H p o) a c) (cs.set n c) as:=by
   intro cs as n hnd hA
   induction hA generalizing n with
   | nil=>intro e;simp at e
   | @cons c' a' cs as r t ih=>
    intro e;have hnd':=List.nodup_cons.mp hnd;cases n with
    | zero=>
     simp at e;subst e;refine .cons (hc _ fun d v r=>S.dw g r) (aL.imp (fun _ _ q=>q) ?_)
     have:∀ {cs:List Cell} {as:List Addr},a'∉as->aL (fun c a=>gz κ (au α Z H) H a c) cs as->aL (fun c a=>gz κ (au α Z (upd H a' o)) (upd H a' o) a c) cs as:=by
      intro cs as hna hA
      induction hA with
      | nil=>exact .nil
      | @cons c1 a1 cs as r t ih=>
       refine .cons (r.imp (fun d v q=>S.dw g q) (fun u e => ?_) fun b o' u' e => ?_) (ih fun q=>hna (List.mem_cons_of_mem _ q))
       ·rw[aG (fun q=>hna (by rw[q];simp))];exact e
       ·rw[aG (fun q=>hm o' u' (by rw[← q];exact e))];exact e
     exact this hnd'.1 t
    | succ n=>
     have e':as[n]?=some p:=by simpa using e
     refine .cons (r.imp (fun d v q=>S.dw g q) (fun u eu => ?_) fun b o' u' eb => ?_) (ih hnd'.2 e')
     ·rw[aG (fun q=>hnd'.1 (by rw[q];exact List.mem_of_getElem? e'))];exact eu
     ·rw[aG (fun q=>hm o' u' (by rw[← q];exact eb))];exact eb
  exact key S.nL S.xP hn
 ·by_cases q:a=p
  ·subst q;rw[bo];simp
  ·rw[aG q];exact S.dom a ha
end
end Mir
namespace Mir
open PySem PySem.Spec PyProof.Rows L2
variable [aJ]
abbrev fK:=D->aD->List Addr->(Addr->Prop)->Hp->Prop
def bK(κ:Str->Addr->Prop)(Φ:fK)(α:List Addr)(Z:Addr->Prop)(H:Hp)(r:av D)(Q:VK):Prop:=match r with
 | .ok d ao=>∀ v H' α' Z',bN α Z H α' Z' H'->bt κ α' Z' ao H'->au α' Z' H' d v->Q v H'
 | .exc x ao=>∀ H' α' Z',bN α Z H α' Z' H'->bt κ α' Z' ao H'->Φ x ao α' Z' H'
 | .bad=>False
structure b9(κ:Str->Addr->Prop)(aF:List Addr)(Z0:Addr->Prop)(H0:Hp)(α:List Addr)(Z:Addr->Prop)(Ω:aD)(ρ:aU)(σ:L2.St)(H:Hp):Prop where
 st:bt κ α Z Ω H
 gr:bN aF Z0 H0 α Z H
 len:σ.length=ρ.length
 val:∀ (i:Nat) (d:D),ρ[i]?=some (some d)->∃ v,σ[i]?=some (some v)/\au α Z H d v
abbrev EM:=aU->aD->av D
noncomputable def tO(κ:Str->Addr->Prop)(Φ:fK)(aF:List Addr)(Z0:Addr->Prop)(H0:Hp)(m:EM)(ρ:aU)(Ω:aD):TE:=fun σ H Q=>
 ∃ α Z,b9 κ aF Z0 H0 α Z Ω ρ σ H/\bK κ Φ α Z H (m ρ Ω) Q
def bj(X:Cx)(κ:Str->Addr->Prop)(Φ:fK)(e:Expr)(m:EM):Prop:=∀ aF Z0 H0 ρ Ω,PE X e (tO κ Φ aF Z0 H0 m ρ Ω)
section
variable{κ:Str->Addr->Prop}{Φ:fK}{α α' aF α1:List Addr}{Z Z' Z0 Z1:Addr->Prop}{Ω ao:aD}{H H' H0 H1:Hp}{ρ:aU}{σ:L2.St}{Q Q':VK}{r:av D}
theorem bK.from(g:bN α Z H α1 Z1 H1)(h:bK κ Φ α Z H r Q):bK κ Φ α1 Z1 H1 r Q:=by
 cases r with
 | ok d ao=>exact fun v H' α' Z' g'=>h v H' α' Z' (g.trans g')
 | exc x ao=>exact fun H' α' Z' g'=>h H' α' Z' (g.trans g')
 | bad=>exact h
theorem bK.use{f:D->aD->av D}(h:bK κ Φ α Z H (r.bind f) Q)(k:∀ d ah,r=.ok d ah->∀ v H1 α1 Z1,bN α Z H α1 Z1 H1->bt κ α1 Z1 ah H1->au α1 Z1 H1 d v->bK κ Φ α1 Z1 H1 (f d ah) Q->Q' v H1):bK κ Φ α Z H r Q':=by
 cases r with
 | ok d ah=>exact fun v H1 α1 Z1 g s q=>k d ah rfl v H1 α1 Z1 g s q (bK.from g h)
 | exc x ah=>exact h
 | bad=>exact h
theorem bK.ret{d:D}{v:V}(S:bt κ α Z Ω H)(q:au α Z H d v)(h:bK κ Φ α Z H (.ok d Ω) Q):Q v H:=h v H α Z (bN.refl S.has) S q
theorem b9.grow(S:b9 κ aF Z0 H0 α Z Ω ρ σ H)(g:bN α Z H α' Z' H')(s:bt κ α' Z' ao H'):b9 κ aF Z0 H0 α' Z' ao ρ σ H':=
 ⟨s,S.gr.trans g,S.len,fun i d e=>let ⟨v,h1,h2⟩:=S.val i d e;⟨v,h1,S.st.dw g h2⟩⟩
theorem aX{d:D}{v:V}(h:eX d=some v):au α Z H d v:=by
 cases d<;>simp only[eX]at h<;>first | cases h;simp only[au] | cases h
theorem rN{d:D}(h:eG d=true):∃ v,eX d=some v:=by
 cases d<;>first | exact⟨_,rfl⟩ | cases h
theorem c6{d:D}{v w:V}(h:eX d=some w)(r:Rep Z H d v):v=w:=by
 cases d<;>simp only[eX]at h<;>first | (cases h;simpa only [Rep] using r) | cases h
noncomputable def bE{α β:Type}(f:α->Option β):List α->Option (List β)
 | []=>some []
 | x::xs=>match f x,bE f xs with
  | some y,some ys=>some (y::ys)
  | _,_=>none
def eR(Ω:aD):Nat->D->Option D
 | _,.non=>some .non
 | _,.bl b=>some (.bl b)
 | _,.int i=>some (.int i)
 | _,.str x=>some (.str x)
 | 0,_=>none
 | n + 1,.lst ds=>(bE (eR Ω n) ds).map .lst
 | n + 1,.tup ds=>(bE (eR Ω n) ds).map .tup
 | n + 1,.ref k=>match Ω[k]? with
  | some (.lst ds)=>(bE (eR Ω n) ds).map .lst
  | _=>none
 | _ + 1,.dct _ _=>none
def rO(α:List Addr)(Z:Addr->Prop):Addr->Prop:=fun a=>Z a\/a∈α
theorem eg{f:D->Option D}{R:D->V->Prop}{S:D->V->Prop}(hf:∀ d d' v,f d=some d'->R d v->S d' v):∀ {ds es:List D} {vs:List V},bE f ds=some es->aL R ds vs->aL S es vs
 | [],es,vs,h,r=>by cases h;rw[r.nil_inv];exact .nil
 | d::ds,es,vs,h,r=>by
  simp only[bE]at h;split at h
  ·rename_i y ys h1 h2
   cases h;obtain⟨v,vs',rfl,r1,r2⟩:=r.cons_inv;exact .cons (hf d y v h1 r1) (eg hf h2 r2)
  ·cases h
theorem fW:∀ {ds:List D} {vs:List V},aL (Rep Z H) ds vs->aR Z H ds vs
 | _,_,.nil=>.nil
 | _,_,.cons r t=>.cons r (fW t)
theorem jo(S:bt κ α Z Ω H):∀ (n:Nat) {d d':D} {v:V},eR Ω n d=some d'->au α Z H d v->Rep (rO α Z) H d' v:=by
 intro n
 induction n with
 | zero=>
  intro d d' v h r;cases d<;>simp only[eR]at h<;>first | (cases h;simpa only [Rep,au] using r) | cases h
 | succ n ih=>
  intro d d' v h r;cases d with
  | lst ds=>
   simp only[eR]at h;obtain⟨es,h1,rfl⟩:=Option.map_eq_some_iff.mp h;simp only[au]at r;obtain⟨a,vs,rfl,hz,hr,hs⟩:=r;simp only[Rep];exact⟨a,vs,rfl,.inl hz,hr,fW (eg (S:=Rep (rO α Z) H) (fun d d' v q r=>ih q r) h1 (a_.mp hs))⟩
  | tup ds=>
   simp only[eR]at h;obtain⟨es,h1,rfl⟩:=Option.map_eq_some_iff.mp h;simp only[au]at r;obtain⟨a,vs,rfl,hz,hr,hs⟩:=r;simp only[Rep];exact⟨a,vs,rfl,.inl hz,.inl hr,fW (eg (S:=Rep (rO α Z) H) (fun d d' v q r=>ih q r) h1 (a_.mp hs))⟩
  | ref k=>
   simp only[eR]at h;split at h
   ·rename_i ds hk
    obtain⟨es,h1,rfl⟩:=Option.map_eq_some_iff.mp h;obtain⟨a,ha,vs,hv,hs⟩:=S.cell hk;simp only[au]at r;obtain⟨a',ha',rfl⟩:=r;rw[ha]at ha';cases ha';simp only[Rep];exact⟨a,vs,rfl,.inr (List.mem_of_getElem? ha),.inl hv,fW (eg (S:=Rep (rO α Z) H) (fun d d' v q r=>ih q r) h1 hs)⟩
   ·cases h
  | dct _ _=>cases h
  | _=>simp only[eR]at h;cases h;simpa only [Rep,au] using r
theorem cA(S:bt κ α Z Ω H):∀ a,rO α Z a->H a≠none:=fun a h=>h.elim (S.dom a) (S.has a)
theorem bt.same(S:bt κ α Z Ω H)(h:kS H H'):bt κ α Z Ω H'/\bN α Z H α Z H':=by
 have g:bN α Z H α Z H':=⟨fun _ _ e=>e,fun _ z=>z,fun _ z=>.inl z,fun _ z=>.inl z,fun a o e _=>h a o e,fun a ha=>by
  cases q:H a with
  | none=>exact absurd q (S.has a ha)
  | some o=>rw[h a o q];simp⟩
 refine⟨⟨S.nL,S.xP.imp fun c a hc=>hc.imp (fun d v r=>S.dw g r) (fun o e=>h a o e) fun b o u e=>h b _ e,S.sep,fun a z => ?_⟩,g⟩
 cases q:H a with
 | none=>exact absurd q (S.dom a z)
 | some o=>rw[h a o q];simp
theorem bt.adopt(S:bt κ α Z Ω H)(h:kS H H'){p:Addr}(hp:H p=none){c:Cell}(hc:∀ R:D->V->Prop,(∀ d v,au α Z H' d v->R d v)->gz κ R H' p c):bt κ (α++[p]) Z (Ω++[c]) H'/\bN α Z H (α++[p]) Z H':=by
 obtain⟨S1,g1⟩:=S.same h;have hne:∀ a∈α,a≠p:=fun a ha e=>S.has a ha (e▸hp)
 have B6:∀ a,Z a->a≠p:=fun a hz e=>S.dom a hz (e▸hp)
 have pre:∀ (n:Nat) (a:Addr),α[n]?=some a->(α++[p])[n]?=some a:=fun n a e=>by rw[List.getElem?_append_left (List.getElem?_eq_some_iff.mp e).1];exact e
 have mono:∀ d v,au α Z H' d v->au (α++[p]) Z H' d v:=fun d v r=>r.mono pre (fun _ _ _ e=>e) fun _ z=>z
 refine⟨⟨?_,?_,fun a ha hz => ?_,S1.dom⟩,⟨pre,fun _ z=>z,fun _ z=>.inl z,fun a ha => ?_,g1.frm,g1.has⟩⟩
 ·refine List.nodup_append.mpr ⟨S.nL,by simp,fun a ha b hb => ?_⟩
  rw[List.mem_singleton.mp hb];exact hne a ha
 ·exact aL.append (S1.xP.imp fun c a hc=>hc.imp mono (fun _ e=>e) fun _ _ _ e=>e) (.one (hc _ mono))
 ·rcases List.mem_append.mp ha with ha | ha
  ·exact S.sep a ha hz
  ·rw[List.mem_singleton.mp ha]at hz;exact B6 _ hz rfl
 ·rcases List.mem_append.mp ha with ha | ha
  ·exact .inl ha
  ·rw[List.mem_singleton.mp ha];exact .inr hp
noncomputable def mJ(Ω:aD)(c:Cell):av D:=.ok (.ref Ω.length) (Ω++[c])
def fb(Ω:aD):Out Rs->av D
 | .ok (own,d)=>if eG d then .ok d Ω else match own,d with
  | true,.lst ds=>if ds.all eG then mJ Ω (.lst ds) else .bad
  | _,_=>.bad
 | _=>.bad
theorem j9(S:bt κ α Z Ω H)(p:Addr):au (α++[p]) Z H' (.ref Ω.length) (.ref p):=by
 simp only[au];exact⟨p,by rw[← S.len];simp,rfl⟩
theorem lL:∀ {ds:List D} {vs:List V},ds.all eG=true->aR Z1 H1 ds vs->aL (au α Z H) ds vs
 | [],vs,_,r=>by rw[r.nil_inv];exact .nil
 | d::ds,vs,h,r=>by
  obtain⟨v,vs',rfl,r1,r2⟩:=r.cons_inv;simp only[List.all_cons,Bool.and_eq_true]at h;obtain⟨w,hw⟩:=rN h.1;obtain rfl:=c6 hw r1;exact .cons (aX hw) (lL h.2 r2)
theorem ic{bw:Bool}{r:Out Rs}(S:bt κ α Z Ω H)(h:bK κ Φ α Z H (fb Ω r) Q):∃ own d,r=.ok (own,d)/\∀ v H' Z1 Z',dO Z1 H Z' H'->du bw own Z' H H' d v->Q v H':=by
 cases r with
 | ok q=>
  obtain⟨own,d⟩:=q;refine⟨own,d,rfl,fun v H' Z1 Z' g q => ?_⟩
  simp only[fb]at h;split at h
  ·rename_i hf
   obtain⟨w,hw⟩:=rN hf
   have hv:v=w:=by
    have n:=q.nw;cases d with
    | non=>exact c6 (Z:=Z') (H:=H') hw n
    | bl _=>exact c6 (Z:=Z') (H:=H') hw n
    | int _=>exact c6 (Z:=Z') (H:=H') hw n
    | str _=>exact c6 (Z:=Z') (H:=H') hw n
    | _=>cases hf
   subst hv;obtain⟨S1,g1⟩:=S.same g.same;exact h v H' α Z g1 S1 (aX hw)
  ·split at h
   ·rename_i ds hnf
    split at h
    ·rename_i hf2
     unfold du at q;rw[if_pos rfl]at q;obtain⟨a,vs,ds',e1,rfl,h1,h2,h3,h4⟩:=q;cases e1;obtain⟨S1,g1⟩:=S.adopt (c:=.lst ds) g.same h1 (fun R hR=>⟨vs,h3,(lL hf2 h4).imp hR⟩)
     exact h _ H' _ Z g1 S1 (j9 S a)
    ·exact h.elim
   ·exact h.elim
 | exc c fs=>exact h.elim
 | bad=>exact h.elim
end
def m1(f:D->aD->av D)(ma:EM):EM:=fun ρ Ω=>(ma ρ Ω).bind f
def m2(f:D->D->aD->av D)(ma mb:EM):EM:=fun ρ Ω=>(ma ρ Ω).bind fun x ah=>(mb ρ ah).bind fun y ay=>f x y ay
noncomputable def kM(a b:av D):av D:=match a with
 | .bad=>b
 | r=>r
def B7(f g:D->aD->av D):D->aD->av D:=fun x Ω=>kM (f x Ω) (g x Ω)
def fc(f g:D->D->aD->av D):D->D->aD->av D:=fun x y Ω=>kM (f x y Ω) (g x y Ω)
def mK(f g:EM):EM:=fun ρ Ω=>kM (f ρ Ω) (g ρ Ω)
def iM(f:D->Out Rs):D->aD->av D:=fun x Ω=>match eR Ω 8 x with
 | some dx=>fb Ω (f dx)
 | none=>.bad
def fw(f:D->D->Out Rs):D->D->aD->av D:=fun x y Ω=>match eR Ω 8 x,eR Ω 8 y with
 | some dx,some dy=>fb Ω (f dx dy)
 | _,_=>.bad
def eS(Ω:aD):D->Option Bool
 | .ref k=>match Ω[k]? with
  | some (.lst ds)=>some (!ds.isEmpty)
  | some (.dK kvs)=>some (!kvs.isEmpty)
  | _=>none
 | d=>ja d
def dQ:av D->av Bool
 | .ok d Ω=>match eS Ω d with
  | some b=>.ok b Ω
  | none=>.bad
 | .exc x Ω=>.exc x Ω
 | .bad=>.bad
def nM(κ:Str->Addr->Prop)(Φ:fK)(α:List Addr)(Z:Addr->Prop)(H:Hp)(r:av Bool)(Q:Bool->Hp->Prop):Prop:=match r with
 | .ok b ao=>∀ H' α' Z',bN α Z H α' Z' H'->bt κ α' Z' ao H'->Q b H'
 | .exc x ao=>∀ H' α' Z',bN α Z H α' Z' H'->bt κ α' Z' ao H'->Φ x ao α' Z' H'
 | .bad=>False
def Lf(κ:Str->Addr->Prop)(Φ:fK)(aF:List Addr)(Z0:Addr->Prop)(H0:Hp)(m:EM)(ρ:aU)(Ω:aD):TT:=fun σ H Q=>∃ α Z,b9 κ aF Z0 H0 α Z Ω ρ σ H/\nM κ Φ α Z H (dQ (m ρ Ω)) Q
def fX(X:Cx)(κ:Str->Addr->Prop)(Φ:fK)(e:Expr)(m:EM):Prop:=∀ aF Z0 H0 ρ Ω,PT X e (Lf κ Φ aF Z0 H0 m ρ Ω)
abbrev AM:=aU->aD->av (List D)
def oJ(κ:Str->Addr->Prop)(Φ:fK)(α:List Addr)(Z:Addr->Prop)(H:Hp)(r:av (List D))(Q:List V->Hp->Prop):Prop:=match r with
 | .ok ds ao=>∀ vs H' α' Z',bN α Z H α' Z' H'->bt κ α' Z' ao H'->aL (au α' Z' H') ds vs->Q vs H'
 | .exc x ao=>∀ H' α' Z',bN α Z H α' Z' H'->bt κ α' Z' ao H'->Φ x ao α' Z' H'
 | .bad=>False
noncomputable def Qu(κ:Str->Addr->Prop)(Φ:fK)(aF:List Addr)(Z0:Addr->Prop)(H0:Hp)(m:AM)(ρ:aU)(Ω:aD):TA:=fun σ H Q=>∃ α Z,b9 κ aF Z0 H0 α Z Ω ρ σ H/\oJ κ Φ α Z H (m ρ Ω) Q
def qr(X:Cx)(κ:Str->Addr->Prop)(Φ:fK)(es:List Expr)(m:AM):Prop:=∀ aF Z0 H0 ρ Ω,PA X es (Qu κ Φ aF Z0 H0 m ρ Ω)
noncomputable def ag:AM:=fun _ Ω=>.ok [] Ω
def U(a:EM)(as:AM):AM:=fun ρ Ω=>(a ρ Ω).bind fun x ah=>(as ρ ah).bind fun xs ay=>.ok (x::xs) ay
def mN(f:List D->aD->av D)(as:AM):EM:=fun ρ Ω=>(as ρ Ω).bind f
section
variable{X:Cx}{κ:Str->Addr->Prop}{Φ:fK}{α α' aF α1:List Addr}{Z Z' Z0 Z1:Addr->Prop}{Ω ao:aD}{H H' H0 H1:Hp}{ρ:aU}{σ:L2.St}{Q Q':VK}{r:av D}{a b e:Expr}{es:List Expr}{ma mb mc m:EM}{as:AM}{pos:Pos}
theorem oJ.from{r:av (List D)}{Q:List V->Hp->Prop}(g:bN α Z H α1 Z1 H1)(h:oJ κ Φ α Z H r Q):oJ κ Φ α1 Z1 H1 r Q:=by
 cases r with
 | ok d ao=>exact fun v H' α' Z' g'=>h v H' α' Z' (g.trans g')
 | exc x ao=>exact fun H' α' Z' g'=>h H' α' Z' (g.trans g')
 | bad=>exact h
theorem nM.from{r:av Bool}{Q:Bool->Hp->Prop}(g:bN α Z H α1 Z1 H1)(h:nM κ Φ α Z H r Q):nM κ Φ α1 Z1 H1 r Q:=by
 cases r with
 | ok d ao=>exact fun H' α' Z' g'=>h H' α' Z' (g.trans g')
 | exc x ao=>exact fun H' α' Z' g'=>h H' α' Z' (g.trans g')
 | bad=>exact h
theorem oJ.use{r:av (List D)}{f:List D->aD->av D}{Q':List V->Hp->Prop}(h:bK κ Φ α Z H (r.bind f) Q)(k:∀ ds ah,r=.ok ds ah->∀ vs H1 α1 Z1,bN α Z H α1 Z1 H1->bt κ α1 Z1 ah H1->aL (au α1 Z1 H1) ds vs->bK κ Φ α1 Z1 H1 (f ds ah) Q->Q' vs H1):oJ κ Φ α Z H r Q':=by
 cases r with
 | ok d ah=>exact fun v H1 α1 Z1 g s q=>k d ah rfl v H1 α1 Z1 g s q (bK.from g h)
 | exc x ah=>exact h
 | bad=>exact h
theorem PE.or{t u:TE}(h:PE X e t)(h':PE X e u):PE X e (fun σ H Q=>t σ H Q\/u σ H Q):=fun pins s σ H Q I q=>q.elim (h pins s σ H Q I) (h' pins s σ H Q I)
theorem PT.or{t u:TT}(h:PT X e t)(h':PT X e u):PT X e (fun σ H Q=>t σ H Q\/u σ H Q):=fun pins s σ H Q I q=>q.elim (h pins s σ H Q I) (h' pins s σ H Q I)
theorem lM{a b:av D}:kM a b=a\/(a=.bad/\kM a b=b):=by cases a<;>simp[kM]
theorem bj.alt(h:bj X κ Φ e ma)(h':bj X κ Φ e mb):bj X κ Φ e (mK ma mb):=by
 intro aF Z0 H0 ρ Ω;refine PE.imp (PE.or (h aF Z0 H0 ρ Ω) (h' aF Z0 H0 ρ Ω)) ?_;rintro σ H Q ⟨α,Z,S,g⟩;rcases lM (a:=ma ρ Ω) (b:=mb ρ Ω) with q | ⟨_,q⟩
 ·exact .inl ⟨α,Z,S,by rw[← q];exact g⟩
 ·exact .inr ⟨α,Z,S,by rw[← q];exact g⟩
theorem fX.alt(h:fX X κ Φ e ma)(h':fX X κ Φ e mb):fX X κ Φ e (mK ma mb):=by
 intro aF Z0 H0 ρ Ω;refine PT.imp (PT.or (h aF Z0 H0 ρ Ω) (h' aF Z0 H0 ρ Ω)) ?_;rintro σ H Q ⟨α,Z,S,g⟩;rcases lM (a:=ma ρ Ω) (b:=mb ρ Ω) with q | ⟨_,q⟩
 ·exact .inl ⟨α,Z,S,by rw[← q];exact g⟩
 ·exact .inr ⟨α,Z,S,by rw[← q];exact g⟩
theorem fY{f g:D->D->aD->av D}:m2 (fc f g) ma mb=mK (m2 f ma mb) (m2 g ma mb):=by
 funext ρ Ω
 simp only[m2,mK];cases ma ρ Ω with
 | ok x ah=>
  simp only[av.bind];cases mb ρ ah with
  | ok y ay=>rfl
  | exc x Ω=>rfl
  | bad=>rfl
 | exc x Ω=>rfl
 | bad=>rfl
theorem B8{f g:D->aD->av D}:m1 (B7 f g) ma=mK (m1 f ma) (m1 g ma):=by
 funext ρ Ω
 simp only[m1,mK];cases ma ρ Ω with
 | ok x ah=>rfl
 | exc x Ω=>rfl
 | bad=>rfl
theorem ie{f:D->aD->av D}{r:V->Hp->VK->Prop}(h:∀ ta,PE X a ta->PE X e fun σ H Q=>ta σ H fun x H1=>r x H1 Q)(ha:bj X κ Φ a ma)
  (hr:∀ dx x α Z Ω H Q,bt κ α Z Ω H->au α Z H dx x->bK κ Φ α Z H (f dx Ω) Q->r x H Q):bj X κ Φ e (m1 f ma):=by
 intro aF Z0 H0 ρ Ω;refine PE.imp (h _ (ha aF Z0 H0 ρ Ω)) ?_;rintro σ H Q ⟨α,Z,S,g⟩;refine⟨α,Z,S,g.use fun d ah _ v H1 α1 Z1 g1 s1 r1 k1 => ?_⟩
 exact hr d v α1 Z1 ah H1 Q s1 r1 k1
theorem c7{f:D->D->aD->av D}{r:R2}(h:∀ ta tb,PE X a ta->PE X b tb->PE X e (DS r ta tb))(ha:bj X κ Φ a ma)(hb:bj X κ Φ b mb)
  (hr:∀ dx dy x y α Z Ω H Q,bt κ α Z Ω H->au α Z H dx x->au α Z H dy y->bK κ Φ α Z H (f dx dy Ω) Q->r x y H Q):bj X κ Φ e (m2 f ma mb):=by
 intro aF Z0 H0 ρ Ω;rcases q:ma ρ Ω with ⟨d,ah⟩ | ⟨x,ah⟩ | _
 ·refine PE.imp (h _ _ (ha aF Z0 H0 ρ Ω) (hb aF Z0 H0 ρ ah)) ?_
  rintro σ H Q ⟨α,Z,S,g⟩;refine⟨α,Z,S,bK.use g fun d' Qv e1 v H1 α1 Z1 g1 s1 r1 k1 => ?_⟩
  rw[q]at e1;cases e1;refine⟨α1,Z1,S.grow g1 s1,k1.use fun d2 ay _ w H2 α2 Z2 g2 s2 r2 k2 => ?_⟩
  exact hr d d2 v w α2 Z2 ay H2 Q s2 (s1.dw g2 r1) r2 k2
 ·refine PE.imp (h _ _ (ha aF Z0 H0 ρ Ω) (hb aF Z0 H0 ρ Ω)) ?_
  rintro σ H Q ⟨α,Z,S,g⟩;refine⟨α,Z,S,?_⟩;simp only[m2,q,av.bind]at g ⊢;exact g
 ·refine PE.imp (h _ _ (ha aF Z0 H0 ρ Ω) (hb aF Z0 H0 ρ Ω)) ?_
  rintro σ H Q ⟨α,Z,S,g⟩;simp only[m2,q,av.bind]at g;exact g.elim
theorem j_{bw:Bool}{f:D->Out Rs}{dx:D}{x:V}(S:bt κ α Z Ω H)(hx:au α Z H dx x)(h:bK κ Φ α Z H (iM f dx Ω) Q) :
  ∃ d own d',Now (rO α Z) H d x/\f d=.ok (own,d')/\∀ v H' Z',dO (rO α Z) H Z' H'->du bw own Z' H H' d' v->Q v H':=by
 unfold iM at h;split at h
 ·rename_i d hd
  obtain⟨own,d',e,k⟩:=ic (bw:=bw) S h;exact⟨d,own,d',(jo S 8 hd hx).now,e,fun v H' Z' g q=>k v H' _ Z' g q⟩
 ·exact h.elim
theorem fZ{bw:Bool}{f:D->D->Out Rs}{dx dy:D}{x y:V}(S:bt κ α Z Ω H)(hx:au α Z H dx x)(hy:au α Z H dy y)(h:bK κ Φ α Z H (fw f dx dy Ω) Q) :
  ∃ d e own d',Now (rO α Z) H d x/\Now (rO α Z) H e y/\f d e=.ok (own,d')/\∀ v H' Z',dO (rO α Z) H Z' H'->du bw own Z' H H' d' v->Q v H':=by
 unfold fw at h;split at h
 ·rename_i d e hd he
  obtain⟨own,d',e1,k⟩:=ic (bw:=bw) S h;exact⟨d,e,own,d',(jo S 8 hd hx).now,(jo S 8 he hy).now,e1,fun v H' Z' g q=>k v H' _ Z' g q⟩
 ·exact h.elim
theorem yZ{i:Nat}{x:Str}(hN:X.N[i]?=some x)(hv:uu X.env.scope x)(hd:(x == ("__debug__":Str))=false)(hcd:(x == ("__classdict__":Str))=false):bj X κ Φ (.Name x pos) (fun ρ Ω=>match ρ[i]? with | some (some d)=>.ok d Ω | _=>.bad):=by
 intro aF Z0 H0 ρ Ω;refine PE.imp (gP hN hv hd hcd) ?_;rintro σ H Q ⟨α,Z,S,g⟩;dsimp only at g;split at g
 ·rename_i d hd
  obtain⟨v,h1,h2⟩:=S.val i d hd;exact⟨v,h1,bK.ret S.st h2 g⟩
 ·exact g.elim
theorem ig{d:D}{v:V}(h:PE X e (tC v))(hf:eX d=some v):bj X κ Φ e (fun _ Ω=>.ok d Ω):=by
 intro aF Z0 H0 ρ Ω;refine PE.imp h ?_;rintro σ H Q ⟨α,Z,S,g⟩;exact bK.ret S.st (aX hf) g
noncomputable def c9(Ω:aD):D->Option (List D)
 | .ref k=>match Ω[k]? with
  | some (.lst ds)=>some ds
  | _=>none
 | .lst ds=>some ds
 | _=>none
theorem bx{x:D}{v:V}{ds:List D}(S:bt κ α Z Ω H)(r:au α Z H x v)(h:c9 Ω x=some ds):∃ a vs,v=.ref a/\Rd H a (.lst vs)/\aL (au α Z H) ds vs:=by
 cases x with
 | ref k=>
  simp only[c9]at h;split at h
  ·rename_i ds' hk
   cases h;simp only[au]at r;obtain⟨a,ha,rfl⟩:=r;obtain⟨a',ha',vs,h1,h2⟩:=S.cell hk;rw[ha]at ha';cases ha';exact⟨a,vs,rfl,.inl h1,h2⟩
  ·cases h
 | lst es=>
  cases h;simp only[au]at r;obtain⟨a,vs,rfl,_,h1,h2⟩:=r;exact⟨a,vs,rfl,h1,a_.mp h2⟩
 | _=>cases h
theorem fx{x:V}{ds:List D}(r:au α Z H (.tup ds) x):∃ a vs,x=.ref a/\Z a/\H a=some (.tup vs)/\aL (au α Z H) ds vs:=by
 simp only[au]at r;obtain⟨a,vs,e,h0,h1,h2⟩:=r;exact⟨a,vs,e,h0,h1,a_.mp h2⟩
theorem f7{ds:List D}{vs:List V}(S:bt κ α Z Ω H)(r:aL (au α Z H) ds vs)(k:bK κ Φ α Z H (mJ Ω (.lst ds)) Q):∀ p,H p=none->Q (.ref p) (upd H p (.lst vs)):=fun p hp=>by
 obtain⟨S1,g1⟩:=S.laid (p:=p) (o:=.lst vs) (c:=.lst ds) hp fun R hR=>⟨vs,bo,r.imp hR⟩
 exact k _ _ _ Z g1 S1 (j9 S p)
theorem ij{ds:List D}{vs:List V}(S:bt κ α Z Ω H)(r:aL (au α Z H) ds vs)(k:bK κ Φ α Z H (.ok (.tup ds) Ω) Q):∀ p,H p=none->Q (.ref p) (upd H p (.tup vs)):=fun p hp=>by
 obtain⟨S1,g1⟩:=S.wa (p:=p) (o:=.tup vs) hp True;simp only[if_true]at S1 g1;refine k _ _ _ _ g1 S1 ?_;simp only[au];exact⟨p,vs,rfl,.inr rfl,bo,a_.mpr (S.j8 g1 r)⟩
theorem mL:qr X κ Φ [] ag:=by
 intro aF Z0 H0 ρ Ω;refine PA.imp iE ?_;rintro σ H Q ⟨α,Z,S,g⟩;exact g [] H α Z (bN.refl S.st.has) S.st .nil
theorem ka(ha:bj X κ Φ e ma)(hr:qr X κ Φ es as)(hs:starEach (e::es) X.env=(false,eval e X.env)::starEach es X.env):qr X κ Φ (e::es) (U ma as):=by
 intro aF Z0 H0 ρ Ω;rcases q:ma ρ Ω with ⟨d,ah⟩ | ⟨x,ah⟩ | _
 ·refine PA.imp (di (ha aF Z0 H0 ρ Ω) (hr aF Z0 H0 ρ ah) hs) ?_
  rintro σ H Q ⟨α,Z,S,g⟩;refine⟨α,Z,S,?_⟩;simp only[U,q,av.bind]at g ⊢;intro v H1 α1 Z1 g1 s1 r1;refine⟨α1,Z1,S.grow g1 s1,?_⟩;have g:=oJ.from g1 g
  rcases q2:as ρ ah with ⟨ds,ay⟩ | ⟨x,ay⟩ | _
  ·rw[q2]at g
   intro vs H2 α2 Z2 g2 s2 r2;exact g _ _ _ _ g2 s2 (.cons (s1.dw g2 r1) r2)
  ·rw[q2]at g;exact g
  ·rw[q2]at g;exact g
 ·refine PA.imp (di (ha aF Z0 H0 ρ Ω) (hr aF Z0 H0 ρ Ω) hs) ?_
  rintro σ H Q ⟨α,Z,S,g⟩;refine⟨α,Z,S,?_⟩;simp only[U,q,av.bind]at g ⊢;exact g
 ·refine PA.imp (di (ha aF Z0 H0 ρ Ω) (hr aF Z0 H0 ρ Ω) hs) ?_
  rintro σ H Q ⟨α,Z,S,g⟩;simp only[U,q,av.bind]at g;exact g.elim
def cm(ds:List D)(Ω:aD):av D:=if small ds.length then mJ Ω (.lst ds) else .bad
def ik(ds:List D)(Ω:aD):av D:=if small ds.length then .ok (.tup ds) Ω else .bad
theorem y0(h:qr X κ Φ es as):bj X κ Φ (.List es pos) (mN cm as):=by
 intro aF Z0 H0 ρ Ω;refine PE.imp (BB (h aF Z0 H0 ρ Ω)) ?_;rintro σ H Q ⟨α,Z,S,g⟩;refine⟨α,Z,S,oJ.use g fun ds ah _ vs H1 α1 Z1 g1 s1 r1 k1 => ?_⟩
 unfold cm at k1;split at k1
 ·rename_i hs
  exact⟨by rw[r1.length];exact bC hs,f7 s1 r1 k1⟩
 ·exact k1.elim
theorem y4{x1}(h:qr X κ Φ es as):bj X κ Φ (.Tuple es x1 pos) (mN ik as):=by
 intro aF Z0 H0 ρ Ω;refine PE.imp (BA (h aF Z0 H0 ρ Ω)) ?_;rintro σ H Q ⟨α,Z,S,g⟩;refine⟨α,Z,S,oJ.use g fun ds ah _ vs H1 α1 Z1 g1 s1 r1 k1 => ?_⟩
 unfold ik at k1;split at k1
 ·rename_i hs
  exact⟨by rw[r1.length];exact bC hs,ij s1 r1 k1⟩
 ·exact k1.elim
def qu(x y:D)(Ω:aD):av D:=match c9 Ω x,c9 Ω y with
 | some xs,some ys=>if small (xs.length + ys.length) then mJ Ω (.lst (xs++ys)) else .bad
 | _,_=>.bad
def mM(x y:D)(Ω:aD):av D:=match x,y with
 | .tup xs,.tup ys=>if small (xs.length + ys.length) then .ok (.tup (xs++ys)) Ω else .bad
 | _,_=>.bad
def az(op:Operator):D->D->aD->av D:=match op with
 | .Add=>fc qu (fc mM (fw (eW .Add)))
 | op=>fw (eW op)
theorem y6{op:Operator}(ha:bj X κ Φ a ma)(hb:bj X κ Φ b mb):bj X κ Φ (.BinOp a op b pos) (m2 (az op) ma mb):=by
 have E:bj X κ Φ (.BinOp a op b pos) (m2 (fw (eW op)) ma mb):=c7 (r:=yC op) (fun ta tb pa pb=>uJ (vk op) pa pb) ha hb fun dx dy x y α Z Ω H Q S rx ry g=>by
  obtain⟨d,e,own,d',n1,n2,e1,k⟩:=fZ (bw:=false) S rx ry g;exact BO (bw:=false) n1 n2 (cA S) e1 k
 have C:op=.Add->bj X κ Φ (.BinOp a op b pos) (m2 qu ma mb):=fun e=>by
  subst e;refine c7 (r:=yC .Add) (fun ta tb pa pb=>uJ (vk .Add) pa pb) ha hb fun dx dy x y α Z Ω H Q S rx ry g => ?_
  unfold qu at g;split at g
  ·rename_i xs ys h1 h2
   obtain⟨l,vs,rfl,p1,p2⟩:=bx S rx h1;obtain⟨n,ws,rfl,p3,p4⟩:=bx S ry h2;split at g
   ·rename_i hs
    exact .inr (.inr ⟨l,n,vs,ws,rfl,rfl,p1,p3,by rw[p2.length,p4.length];exact bC hs,f7 S (p2.append p4) g⟩)
   ·exact g.elim
  ·exact g.elim
 have C2:op=.Add->bj X κ Φ (.BinOp a op b pos) (m2 mM ma mb):=fun e=>by
  subst e;refine c7 (r:=fun x y H Q=>AD X.K x y H Q\/AE X.K x y H Q) (fun ta tb pa pb=>uJ (yj.or yo) pa pb) ha hb fun dx dy x y α Z Ω H Q S rx ry g => ?_
  unfold mM at g;split at g
  ·rename_i xs ys
   simp only[au]at rx ry;obtain⟨a1,vs,rfl,z1,p1,q1⟩:=rx;obtain⟨b1,ws,rfl,z2,p2,q2⟩:=ry;have q1:=a_.mp q1;have q2:=a_.mp q2;split at g
   ·rename_i hs
    by_cases hx:vs=[]
    ·subst hx
     have e1:xs=[]:=by have:=q1.length;simp at this;exact List.length_eq_zero_iff.mp this.symm
     subst e1;refine .inr ⟨a1,b1,ws,rfl,rfl,fH.of p1,fH.of p2,bK.ret S ?_ g⟩;simp only[au,List.nil_append];exact⟨b1,ws,rfl,z2,p2,a_.mpr q2⟩
    ·refine .inl ⟨a1,b1,vs,ws,rfl,rfl,fH.of p1,fH.of p2,hx,by rw[q1.length,q2.length];exact bC hs,fun hy => ?_,fun _=>ij S (q1.append q2) g⟩
     subst hy;have e1:ys=[]:=by have:=q2.length;simp at this;exact List.length_eq_zero_iff.mp this.symm
     subst e1;refine bK.ret S ?_ g;simp only[au,List.append_nil];exact⟨a1,vs,rfl,z1,p1,a_.mpr q1⟩
   ·exact g.elim
  ·exact g.elim
 cases op with
 | Add=>show bj X κ Φ _ (m2 (fc qu (fc mM (fw (eW .Add)))) ma mb);rw[fY,fY];exact(C rfl).alt ((C2 rfl).alt E)
 | _=>exact E
def qv:D->aD->av D:=iM fun x=>match x with | .int i=>.ok (false,.int (-i)) | _=>.bad
theorem y8(ha:bj X κ Φ a ma):bj X κ Φ (.UnaryOp .USub a pos) (m1 qv ma):=
 ie (r:=rU fun i=>.int (-i)) (fun ta pa=>Eo By pa) ha fun dx x α Z Ω H Q S rx g=>by
  obtain⟨d,own,d',n1,e1,k⟩:=j_ (bw:=false) S rx g;split at e1
  ·cases aZ n1
   cases e1;exact⟨_,rfl,k _ H _ (dO.refl (cA S)) (.rep (dZ rfl))⟩
  ·cases e1
end
noncomputable def Fq{κ β:Type}[DecidableEq κ](kvs:List (κ×β))(k:κ)(v:β):List (κ×β):=
 if (kvs.any fun kv=>decide (kv.1=k))=true then kvs.map (fun kv=>if kv.1=k then (kv.1,v) else kv) else kvs++[(k,v)]
section
variable{κ:Type}[DecidableEq κ]{R:D->V->Prop}
theorem AQ.length{kvs:List (κ×D)}{kvs':List (κ×V)}(h:AQ R kvs kvs'):kvs'.length=kvs.length:=aL.length h
end
noncomputable def Fs:D->Option Key
 | .int i=>some (.inl i)
 | .str x=>some (.inr x)
 | _=>none
def Ft:D->Option (List Key)
 | .tup ds=>bE Fs ds
 | _=>none
section
variable{X:Cx}{κ:Str->Addr->Prop}{Φ:fK}{α α' aF α1:List Addr}{Z Z' Z0 Z1:Addr->Prop}{Ω ao:aD}{H H' H0 H1:Hp}{ρ:aU}{σ:L2.St}{Q Q':VK}{r:av D}{a b e:Expr}{es:List Expr}{ma mb mc m:EM}{as:AM}{pos:Pos}
noncomputable def B9(Ω:aD)(x y:D):Option (Option D):=none
def b_(op:CmpOp):D->D->aD->av D:=fw fun x y=>do let r ← dY op x y;Out.ok (false,D.bl r)
def gT(neg:Bool)(y x:D)(Ω:aD):av D:=match B9 Ω x y with
 | some o=>.ok (.bl (if neg then !o.isSome else o.isSome)) Ω
 | none=>.bad
noncomputable def eT(neg:Bool)(x y:D)(Ω:aD):av D:=match x,y with
 | .ref _,.non=>.ok (.bl neg) Ω
 | _,_=>.bad
def ax(op:CmpOp):D->D->aD->av D:=match op with
 | .In=>fc (b_ .In) (gT false)
 | .NotIn=>fc (b_ .NotIn) (gT true)
 | .Is=>fc (eT false) (b_ .Is)
 | .IsNot=>fc (eT true) (b_ .IsNot)
 | op=>b_ op
theorem il{f:D->D->aD->av D}{r:R2}(h:∀ ta tb,PE X a ta->PE X b tb->PT X e (uL (DS r ta tb)))(ha:bj X κ Φ a ma)(hb:bj X κ Φ b mb)(Of:∀ x y Ω d ao,f x y Ω=.ok d ao->∃ t,d=.bl t)
  (hr:∀ dx dy x y α Z Ω H Q,bt κ α Z Ω H->au α Z H dx x->au α Z H dy y->bK κ Φ α Z H (f dx dy Ω) Q->r x y H Q):fX X κ Φ e (m2 f ma mb):=by
 intro aF Z0 H0 ρ Ω;rcases q:ma ρ Ω with ⟨d,ah⟩ | ⟨x,ah⟩ | _
 ·refine PT.imp (h _ _ (ha aF Z0 H0 ρ Ω) (hb aF Z0 H0 ρ ah)) ?_
  rintro σ H Q ⟨α,Z,S,g⟩;refine⟨α,Z,S,?_⟩;simp only[m2,q,av.bind]at g ⊢;intro v H1 α1 Z1 g1 s1 r1;refine⟨α1,Z1,S.grow g1 s1,?_⟩;have g:=nM.from g1 g
  rcases q2:mb ρ ah with ⟨d2,ay⟩ | ⟨x,ay⟩ | _
  ·rw[q2]at g
   intro w H2 α2 Z2 g2 s2 r2;refine hr d d2 v w α2 Z2 ay H2 _ s2 (s1.dw g2 r1) r2 ?_;have g:=nM.from g2 g
   dsimp only[av.bind]at g;rcases q3:f d d2 ay with ⟨d3,aP⟩ | ⟨x,aP⟩ | _
   ·rw[q3]at g
    obtain⟨t,rfl⟩:=Of _ _ _ _ _ q3;intro u H3 α3 Z3 g3 s3 r3;simp only[au]at r3;exact⟨t,r3,g H3 α3 Z3 g3 s3⟩
   ·rw[q3]at g;exact g
   ·rw[q3]at g;exact g
  ·rw[q2]at g;exact g
  ·rw[q2]at g;exact g
 ·refine PT.imp (h _ _ (ha aF Z0 H0 ρ Ω) (hb aF Z0 H0 ρ Ω)) ?_
  rintro σ H Q ⟨α,Z,S,g⟩;refine⟨α,Z,S,?_⟩;simp only[m2,q,av.bind,dQ]at g ⊢;exact g
 ·refine PT.imp (h _ _ (ha aF Z0 H0 ρ Ω) (hb aF Z0 H0 ρ Ω)) ?_
  rintro σ H Q ⟨α,Z,S,g⟩;simp only[m2,q,av.bind,dQ]at g;exact g.elim
noncomputable def B_(neg:Bool):R2:=fun _ _ _ _=>False
theorem wb(hu:X.A.units + 1 < cLine):fJ X (compareOp .In) (B_ false):=by
 intro pins s σ H x y u v Q I rx ry h;exact(show False from h).elim
theorem lN(hu:X.A.units + 1 < cLine):fJ X (compareOp .NotIn) (B_ true):=by
 intro pins s σ H x y u v Q I rx ry h;exact(show False from h).elim
theorem mO{op:CmpOp}{dx dy:D}{x y:V}(S:bt κ α Z Ω H)(rx:au α Z H dx x)(ry:au α Z H dy y)(g:bK κ Φ α Z H (b_ op dx dy Ω) Q):vo op x y H Q:=by
 obtain⟨d,e,own,d',n1,n2,e1,k⟩:=fZ (bw:=false) S rx ry g;exact BP (bw:=false) n1 n2 (cA S) e1 k
theorem mP{neg:Bool}{dx dy:D}{x y:V}(S:bt κ α Z Ω H)(rx:au α Z H dx x)(ry:au α Z H dy y)(g:bK κ Φ α Z H (gT neg dx dy Ω) Q):B_ neg x y H Q:=(show False from g).elim
theorem mQ{neg:Bool}{op:CmpOp}(hop:op=if neg then .IsNot else .Is){dx dy:D}{x y:V}(S:bt κ α Z Ω H)(rx:au α Z H dx x)(ry:au α Z H dy y)(g:bK κ Φ α Z H (eT neg dx dy Ω) Q) :
  (if neg then (y=.non/\Q (.bl (!decide (x=.non))) H) else (y=.non/\Q (.bl (decide (x=.non))) H)):=by
 unfold eT at g;split at g
 ·simp only[au]at rx ry
  obtain⟨a,_,rfl⟩:=rx;have:=bK.ret S (aX (d:=.bl neg) rfl) g;cases neg
  ·exact⟨ry,this⟩
  ·exact⟨ry,this⟩
 ·exact g.elim
theorem mR{op:CmpOp}:∀ x y Ω d ao,b_ op x y Ω=.ok d ao->∃ t,d=.bl t:=fun x y Ω d ao h=>by
 unfold b_ fw at h;split at h
 ·rename_i dx dy _ _
  dsimp only at h;cases q:dY op dx dy with
  | ok t=>
   have e:(do let r ← dY op dx dy;Out.ok (false,D.bl r))=Out.ok (false,D.bl t):=by rw[q];rfl
   rw[e]at h;simp only[fb,eG,if_true]at h;cases h;exact⟨_,rfl⟩
  | exc c fs=>
   have e:(do let r ← dY op dx dy;Out.ok (false,D.bl r))=Out.exc c fs:=by rw[q];rfl
   rw[e]at h;cases h
  | bad=>
   have e:(do let r ← dY op dx dy;Out.ok (false,D.bl r))=Out.bad:=by rw[q];rfl
   rw[e]at h;cases h
 ·cases h
theorem rP{neg:Bool}:∀ x y Ω d ao,gT neg x y Ω=.ok d ao->∃ t,d=.bl t:=fun x y Ω d ao h=>by
 unfold gT at h;split at h
 ·cases h;exact⟨_,rfl⟩
 ·cases h
theorem rQ{neg:Bool}:∀ x y Ω d ao,eT neg x y Ω=.ok d ao->∃ t,d=.bl t:=fun x y Ω d ao h=>by
 unfold eT at h;split at h
 ·cases h;exact⟨_,rfl⟩
 ·cases h
theorem mS{op:CmpOp}(hu:X.A.units + 64 < cLine)(hm:behindInMarks op b=false)(ha:bj X κ Φ a ma)(hb:bj X κ Φ b mb):bj X κ Φ (.Compare a [op] [b] pos) (m2 (ax op) ma mb)/\fX X κ Φ (.Compare a [op] [b] pos) (m2 (ax op) ma mb):=by
 have E:bj X κ Φ (.Compare a [op] [b] pos) (m2 (b_ op) ma mb):=c7 (fun ta tb pa pb=>g8 (iG hu op) pa pb hm) ha hb fun dx dy x y α Z Ω H Q S rx ry g=>mO S rx ry g
 have T:fX X κ Φ (.Compare a [op] [b] pos) (m2 (b_ op) ma mb):=il (fun ta tb pa pb=>g_ (iG hu op) pa pb hm) ha hb mR fun dx dy x y α Z Ω H Q S rx ry g=>mO S rx ry g
 have hu1:X.A.units + 1 < cLine:=by omega
 cases op with
 | In=>
  have E2:bj X κ Φ (.Compare a [.In] [b] pos) (m2 (gT false) ma mb):=c7 (fun ta tb pa pb=>g8 (wb hu1) pa pb hm) ha hb fun dx dy x y α Z Ω H Q S rx ry g=>mP S rx ry g
  have T2:fX X κ Φ (.Compare a [.In] [b] pos) (m2 (gT false) ma mb):=il (fun ta tb pa pb=>g_ (wb hu1) pa pb hm) ha hb rP fun dx dy x y α Z Ω H Q S rx ry g=>mP S rx ry g
  show bj X κ Φ _ (m2 (fc (b_ .In) (gT false)) ma mb)/\fX X κ Φ _ (m2 (fc (b_ .In) (gT false)) ma mb)
  rw[fY];exact⟨E.alt E2,T.alt T2⟩
 | NotIn=>
  have E2:bj X κ Φ (.Compare a [.NotIn] [b] pos) (m2 (gT true) ma mb):=c7 (fun ta tb pa pb=>g8 (lN hu1) pa pb hm) ha hb fun dx dy x y α Z Ω H Q S rx ry g=>mP S rx ry g
  have T2:fX X κ Φ (.Compare a [.NotIn] [b] pos) (m2 (gT true) ma mb):=il (fun ta tb pa pb=>g_ (lN hu1) pa pb hm) ha hb rP fun dx dy x y α Z Ω H Q S rx ry g=>mP S rx ry g
  show bj X κ Φ _ (m2 (fc (b_ .NotIn) (gT true)) ma mb)/\fX X κ Φ _ (m2 (fc (b_ .NotIn) (gT true)) ma mb)
  rw[fY];exact⟨E.alt E2,T.alt T2⟩
 | Is=>
  have E2:bj X κ Φ (.Compare a [.Is] [b] pos) (m2 (eT false) ma mb):=c7 (fun ta tb pa pb=>g8 uK pa pb hm) ha hb fun dx dy x y α Z Ω H Q S rx ry g=>mQ (neg:=false) (op:=.Is) rfl S rx ry g
  have T2:fX X κ Φ (.Compare a [.Is] [b] pos) (m2 (eT false) ma mb):=il (fun ta tb pa pb=>g_ uK pa pb hm) ha hb rQ fun dx dy x y α Z Ω H Q S rx ry g=>mQ (neg:=false) (op:=.Is) rfl S rx ry g
  show bj X κ Φ _ (m2 (fc (eT false) (b_ .Is)) ma mb)/\fX X κ Φ _ (m2 (fc (eT false) (b_ .Is)) ma mb)
  rw[fY];exact⟨E2.alt E,T2.alt T⟩
 | IsNot=>
  have E2:bj X κ Φ (.Compare a [.IsNot] [b] pos) (m2 (eT true) ma mb):=c7 (fun ta tb pa pb=>g8 qQ pa pb hm) ha hb fun dx dy x y α Z Ω H Q S rx ry g=>mQ (neg:=true) (op:=.IsNot) rfl S rx ry g
  have T2:fX X κ Φ (.Compare a [.IsNot] [b] pos) (m2 (eT true) ma mb):=il (fun ta tb pa pb=>g_ qQ pa pb hm) ha hb rQ fun dx dy x y α Z Ω H Q S rx ry g=>mQ (neg:=true) (op:=.IsNot) rfl S rx ry g
  show bj X κ Φ _ (m2 (fc (eT true) (b_ .IsNot)) ma mb)/\fX X κ Φ _ (m2 (fc (eT true) (b_ .IsNot)) ma mb)
  rw[fY];exact⟨E2.alt E,T2.alt T⟩
 | Eq=>exact⟨E,T⟩
 | NotEq=>exact⟨E,T⟩
 | Lt=>exact⟨E,T⟩
 | LtE=>exact⟨E,T⟩
 | Gt=>exact⟨E,T⟩
 | GtE=>exact⟨E,T⟩
def et(Ω:aD)(x:D):Option (List D):=match x with
 | .tup ds=>some ds
 | x=>c9 Ω x
def y9(x y:D)(Ω:aD):av D:=match et Ω x,y with
 | some ds,.int i=>match L2.iD ds i with
  | some d=>.ok d Ω
  | none=>.bad
 | _,_=>.bad
def Fu(x y:D)(Ω:aD):av D:=match B9 Ω x y with
 | some (some d)=>.ok d Ω
 | _=>.bad
def aA:D->D->aD->av D:=fc y9 (fc Fu (fw pU))
theorem kb{x:D}{v:V}{ds:List D}{K:PySem.W.Frag}(S:bt κ α Z Ω H)(r:au α Z H x v)(h:et Ω x=some ds):∃ a vs,v=.ref a/\(jg K H a vs\/fH K H a vs)/\aL (au α Z H) ds vs:=by
 unfold et at h;split at h
 ·cases h
  obtain⟨a,vs,rfl,_,h1,h2⟩:=fx r;exact⟨a,vs,rfl,.inr (tD (.inl h1)),h2⟩
 ·obtain⟨a,vs,rfl,h1,h2⟩:=bx S r h
  exact⟨a,vs,rfl,.inl (jb h1),h2⟩
theorem y_{ds:List D}{vs:List V}{R:D->V->Prop}{i:Int}{d:D}(r:aL R ds vs)(h:L2.iD ds i=some d):∃ v,L2.iD vs i=some v/\R d v:=by
 unfold L2.iD at h ⊢;rw[r.length];cases q:L2.pN ds.length i with
 | none=>rw[q]at h;cases h
 | some n=>rw[q]at h;exact r.get h
theorem za(hu:X.A.units + 1 < cLine)(hs:qX b)(ha:bj X κ Φ a ma)(hb:bj X κ Φ b mb):bj X κ Φ (.Subscript a b pos) (m2 aA ma mb):=by
 unfold aA;rw[fY,fY];refine bj.alt ?_ (bj.alt ?_ ?_)
 ·refine c7 (r:=EH X.K) (fun ta tb pa pb=>uT pO pa pb hs) ha hb fun dx dy x y α Z Ω H Q S rx ry g => ?_
  unfold y9 at g;split at g
  ·rename_i ds i h1
   obtain⟨p,vs,rfl,h2,h3⟩:=kb (K:=X.K) S rx h1;simp only[au]at ry;subst ry;split at g
   ·rename_i d hd
    obtain⟨v,h4,h5⟩:=y_ h3 hd;rcases h2 with h2 | h2
    ·exact .inl ⟨p,vs,i,v,rfl,rfl,h2,h4,bK.ret S h5 g⟩
    ·exact .inr (.inl ⟨p,vs,i,v,rfl,rfl,h2,h4,bK.ret S h5 g⟩)
   ·exact g.elim
  ·exact g.elim
 ·exact c7 (r:=EH X.K) (fun ta tb pa pb=>uT pO pa pb hs) ha hb fun dx dy x y α Z Ω H Q S rx ry g=>(show False from g).elim
 ·refine c7 (r:=EH X.K) (fun ta tb pa pb=>uT pO pa pb hs) ha hb fun dx dy x y α Z Ω H Q S rx ry g => ?_
  obtain⟨d,e,own,d',n1,n2,e1,k⟩:=fZ (bw:=false) S rx ry g;exact BR (bw:=false) n1 n2 (cA S) e1 k
def f9(n:Bool)(m:EM):aU->aD->av (Option Int):=fun ρ Ω=>if n=true then .ok none Ω else (m ρ Ω).bind fun d ah=>match d with
 | .int i=>.ok (some i) ah
 | _=>.bad
def ey(x:D)(lo hi:Option Int)(Ω:aD):av D:=match x,c9 Ω x with
 | _,some ds=>mJ Ω (.lst (cQ ds lo hi))
 | .str z,none=>fb Ω (vi (.str z) lo hi)
 | .tup ds,none=>.ok (.tup (cQ ds lo hi)) Ω
 | _,_=>.bad
def br(ma:EM)(nl:Bool)(ml:EM)(nh:Bool)(mh:EM):EM:=fun ρ Ω=>(ma ρ Ω).bind fun x ah=>(f9 nl ml ρ ah).bind fun l ay=>(f9 nh mh ρ ay).bind fun h aP=>ey x l h aP
def IG(X:Cx)(κ:Str->Addr->Prop)(Φ:fK)(o:Option Expr)(n:Bool)(m:EM):Prop:=(o=none/\n=true)\/∃ e,o=some e/\n=false/\bj X κ Φ e m
theorem dz{o:Option Expr}{n:Bool}(h:IG X κ Φ o n m)(aF:List Addr)(Z0:Addr->Prop)(H0:Hp)(ρ:aU)(Ω:aD):∃ t,PO X o t/\∀ σ H α Z Q,b9 κ aF Z0 H0 α Z Ω ρ σ H ->
  (match f9 n m ρ Ω with
   | .ok l ah=>∀ H' α' Z',bN α Z H α' Z' H'->bt κ α' Z' ah H'->Q l H'
   | .exc x ah=>∀ H' α' Z',bN α Z H α' Z' H'->bt κ α' Z' ah H'->Φ x ah α' Z' H'
   | .bad=>False)->t σ H Q:=by
 rcases h with ⟨rfl,rfl⟩ | ⟨e,rfl,rfl,he⟩
 ·refine⟨qV,yg,fun σ H α Z Q S k => ?_⟩
  exact k H α Z (bN.refl S.st.has) S.st
 ·refine⟨_,yh (he aF Z0 H0 ρ Ω),fun σ H α Z Q S k=>⟨α,Z,S,?_⟩⟩
  simp only[f9,Bool.false_eq_true,if_false]at k;rcases q:m ρ Ω with ⟨d,ah⟩ | ⟨x,ah⟩ | _
  ·rw[q]at k
   intro v H1 α1 Z1 g1 s1 r1;cases d with
   | int i=>simp only[au]at r1;exact⟨i,r1,k H1 α1 Z1 g1 s1⟩
   | _=>exact k.elim
  ·rw[q]at k;exact k
  ·rw[q]at k;exact k
theorem rR{ds:List D}{vs:List V}{R:D->V->Prop}(h:aL R ds vs)(lo hi:Option Int):aL R (cQ ds lo hi) (nY vs lo hi):=by
 unfold cQ nY;rw[h.length];exact(h.drop _).take _
theorem tT{ds:List D}{n:Nat}{l h:Option Int}(hn:n=ds.length)(h1:HT.ck n 0 l=0)(h2:HT.ck n n h=n):cQ ds l h=ds:=by
 subst hn;unfold cQ;rw[h1,h2,List.drop_zero,Nat.sub_zero,List.take_length]
def wc(K:PySem.W.Frag):V->Option Int->Option Int->Hp->VK->Prop:=fun x lo hi H Q=>Qd K x lo hi H Q\/(ED K x lo hi H Q\/ER K x lo hi H Q)
theorem zb{lo hi:Option Expr}{nl nh:Bool}{ml mh:EM}{p2:Pos}(ha:bj X κ Φ a ma)(hl:IG X κ Φ lo nl ml)(hh:IG X κ Φ hi nh mh):bj X κ Φ (.Subscript a (.Slice lo hi none p2) pos) (br ma nl ml nh mh):=by
 intro aF Z0 H0 ρ Ω;rcases q:ma ρ Ω with ⟨d,ah⟩ | ⟨x,ah⟩ | _
 ·obtain⟨tl,pl,kl⟩:=dz hl aF Z0 H0 ρ ah
  rcases q2:f9 nl ml ρ ah with ⟨l,ay⟩ | ⟨x,ay⟩ | _
  ·obtain⟨th,ph,kh⟩:=dz hh aF Z0 H0 ρ ay
   refine PE.imp (fO (r:=wc X.K) ((hU.or jT).or (jL.or hZ)) (ha aF Z0 H0 ρ Ω) pl ph) ?_;rintro σ H Q ⟨α,Z,S,g⟩;refine⟨α,Z,S,?_⟩;simp only[br,q,q2,av.bind]at g ⊢;intro v H1 α1 Z1 g1 s1 r1;have g:=bK.from g1 g
   have S1:=S.grow g1 s1;refine kl σ H1 α1 Z1 _ S1 ?_;rw[q2];intro H2 α2 Z2 g2 s2;have g:=bK.from g2 g
   have S2:=S1.grow g2 s2;refine kh σ H2 α2 Z2 _ S2 ?_;rcases q3:f9 nh mh ρ ay with ⟨h,aP⟩ | ⟨x,aP⟩ | _
   ·rw[q3]at g
    intro H3 α3 Z3 g3 s3;have g:=bK.from g3 g
    have r3:=s2.dw g3 (s1.dw g2 r1);dsimp only[av.bind]at g;unfold ey at g;split at g
    ·rename_i ds hd
     obtain⟨p,vs,rfl,h1,h2⟩:=bx s3 r3 hd;exact .inl (.inl ⟨p,vs,rfl,jb h1,f7 s3 (rR h2 l h) g⟩)
    ·
     simp only[au]at r3;subst r3;obtain⟨own,d,e1,k⟩:=ic (bw:=false) s3 g;simp only[vi]at e1;split at e1
     ·rename_i hs
      cases e1;exact .inl (.inr ⟨_,rfl,bC hs,k _ H3 _ _ (dO.refl s3.dom) (.rep (dZ rfl))⟩)
     ·cases e1
    ·simp only[au]at r3
     obtain⟨p,vs,rfl,z1,h1,h2⟩:=r3;have h2:=a_.mp h2
     by_cases hw:HT.ck vs.length 0 l=0/\HT.ck vs.length vs.length h=vs.length
     ·refine .inr (.inr ⟨p,vs,rfl,fH.of h1,hw.1,hw.2,bK.ret s3 ?_ g⟩)
      rw[tT h2.length hw.1 hw.2];simp only[au];exact⟨p,vs,rfl,z1,h1,a_.mpr h2⟩
     ·exact .inr (.inl ⟨p,vs,rfl,fH.of h1,hw,ij s3 (rR h2 l h) g⟩)
    ·exact g.elim
   ·rw[q3]at g;exact g
   ·rw[q3]at g;exact g
  ·obtain⟨th,ph,kh⟩:=dz hh aF Z0 H0 ρ ah
   refine PE.imp (fO (r:=wc X.K) ((hU.or jT).or (jL.or hZ)) (ha aF Z0 H0 ρ Ω) pl ph) ?_;rintro σ H Q ⟨α,Z,S,g⟩;refine⟨α,Z,S,?_⟩;simp only[br,q,q2,av.bind]at g ⊢;intro v H1 α1 Z1 g1 s1 r1;refine kl σ H1 α1 Z1 _ (S.grow g1 s1) ?_;rw[q2];intro H2 α2 Z2 g2 s2;exact g H2 α2 Z2 (g1.trans g2) s2
  ·obtain⟨th,ph,kh⟩:=dz hh aF Z0 H0 ρ ah
   refine PE.imp (fO (r:=wc X.K) ((hU.or jT).or (jL.or hZ)) (ha aF Z0 H0 ρ Ω) pl ph) ?_;rintro σ H Q ⟨α,Z,S,g⟩;simp only[br,q,q2,av.bind]at g;exact g.elim
 ·obtain⟨tl,pl,kl⟩:=dz hl aF Z0 H0 ρ Ω
  obtain⟨th,ph,kh⟩:=dz hh aF Z0 H0 ρ Ω;refine PE.imp (fO (r:=wc X.K) ((hU.or jT).or (jL.or hZ)) (ha aF Z0 H0 ρ Ω) pl ph) ?_;rintro σ H Q ⟨α,Z,S,g⟩;refine⟨α,Z,S,?_⟩;simp only[br,q,av.bind]at g ⊢;exact g
 ·obtain⟨tl,pl,kl⟩:=dz hl aF Z0 H0 ρ Ω
  obtain⟨th,ph,kh⟩:=dz hh aF Z0 H0 ρ Ω;refine PE.imp (fO (r:=wc X.K) ((hU.or jT).or (jL.or hZ)) (ha aF Z0 H0 ρ Ω) pl ph) ?_;rintro σ H Q ⟨α,Z,S,g⟩;simp only[br,q,av.bind]at g;exact g.elim
end
theorem PE.ex{X:Cx}{e:Expr}{ι:Type}{t:ι->TE}(h:∀ i,PE X e (t i)):PE X e (fun σ H Q=>∃ i,t i σ H Q):=fun pins s σ H Q I ⟨i,q⟩=>h i pins s σ H Q I q
theorem PT.ex{X:Cx}{e:Expr}{ι:Type}{t:ι->TT}(h:∀ i,PT X e (t i)):PT X e (fun σ H Q=>∃ i,t i σ H Q):=fun pins s σ H Q I ⟨i,q⟩=>h i pins s σ H Q I q
theorem PW.ex{X:Cx}{e:Expr}{ι:Type}{t:ι->TT}(h:∀ i,PW X e (t i)):PW X e (fun σ H Q=>∃ i,t i σ H Q):=fun wh pins s σ H Q I ⟨i,q⟩=>h i wh pins s σ H Q I q
theorem PA.ex{X:Cx}{es:List Expr}{ι:Type}{t:ι->TA}(h:∀ i,PA X es (t i)):PA X es (fun σ H Q=>∃ i,t i σ H Q):=fun pos pins s σ H Q I ⟨i,q⟩=>h i pos pins s σ H Q I q
def cJ(ma mb:EM):EM:=fun ρ Ω=>(ma ρ Ω).bind fun x ah=>match eS ah x with
 | some true=>mb ρ ah
 | some false=>.ok x ah
 | none=>.bad
def fh(ma mb:EM):EM:=fun ρ Ω=>(ma ρ Ω).bind fun x ah=>match eS ah x with
 | some false=>mb ρ ah
 | some true=>.ok x ah
 | none=>.bad
def bX(ma:EM):EM:=fun ρ Ω=>(dQ (ma ρ Ω)).bind fun t ah=>.ok (.bl (!t)) ah
def DX(mc ma mb:EM):EM:=fun ρ Ω=>(dQ (mc ρ Ω)).bind fun t ah=>if t=true then ma ρ ah else mb ρ ah
section
variable{X:Cx}{κ:Str->Addr->Prop}{Φ:fK}{α α' aF α1:List Addr}{Z Z' Z0 Z1:Addr->Prop}{Ω ao:aD}{H H' H0 H1:Hp}{ρ:aU}{σ:L2.St}{Q Q':VK}{r:av D}{a b e ce:Expr}{rest:List Expr}{es:List Expr}{ma mb mc m:EM}{as:AM}{pos p:Pos}
theorem f_{d:D}{v:V}{t:Bool}{K:PySem.W.Frag}(S:bt κ α Z Ω H)(r:au α Z H d v)(h:eS Ω d=some t):nU K v H t:=by
 cases d with
 | non=>simp only[au]at r;subst r;cases h;rfl
 | bl b=>simp only[au]at r;subst r;cases h;rfl
 | int b=>simp only[au]at r;subst r;cases h;rfl
 | str b=>
  simp only[au]at r;subst r
  have n:Now Z H (.str b) (.str b):=by simp only[Now,Rep]
  exact BQ n h
 | lst ds=>
  cases h;obtain⟨a,vs,rfl,h1,h2⟩:=bx (ds:=ds) S r rfl;refine .inl ⟨vs,jb h1,?_⟩;have:=h2.length;cases ds<;>cases vs<;>simp at this ⊢
 | tup ds=>
  cases h;obtain⟨a,vs,rfl,_,h1,h2⟩:=fx r;refine .inr (.inl ⟨vs,tD (.inl h1),?_⟩);have:=h2.length;cases ds<;>cases vs<;>simp at this ⊢
 | dct _ _=>cases h
 | ref k=>
  simp only[eS]at h;split at h
  ·rename_i ds hk
   cases h;obtain⟨a,vs,rfl,h1,h2⟩:=bx (ds:=ds) S r (by simp only[c9,hk])
   refine .inl ⟨vs,jb h1,?_⟩;have:=h2.length;cases ds<;>cases vs<;>simp at this ⊢
  ·rename_i kvs hk
   cases h;simp only[au]at r;obtain⟨a,ha,rfl⟩:=r;obtain⟨a',ha',kvs',h1,h2⟩:=S.cell hk;rw[ha]at ha';cases ha'
   refine .inr (.inr ⟨kvs',h1,?_⟩);have:=h2.length;cases kvs<;>cases kvs'<;>simp at this ⊢
  ·cases h
theorem nM.use{r:av Bool}{f:Bool->aD->av D}{Q':Bool->Hp->Prop}(h:bK κ Φ α Z H (r.bind f) Q)(k:∀ t ah,r=.ok t ah->∀ H1 α1 Z1,bN α Z H α1 Z1 H1->bt κ α1 Z1 ah H1->bK κ Φ α1 Z1 H1 (f t ah) Q->Q' t H1):nM κ Φ α Z H r Q':=by
 cases r with
 | ok d ah=>exact fun H1 α1 Z1 g s=>k d ah rfl H1 α1 Z1 g s (bK.from g h)
 | exc x ah=>exact h
 | bad=>exact h
theorem nM.Og{Q:Bool->Hp->Prop}{K:PySem.W.Frag}(h:nM κ Φ α Z H (dQ r) Q):bK κ Φ α Z H r (fun v H1=>∃ t,nU K v H1 t/\Q t H1):=by
 cases r with
 | ok d ah=>
  intro v H1 α1 Z1 g s q;simp only[dQ]at h;split at h
  ·rename_i t ht
   exact⟨t,f_ s q ht,h H1 α1 Z1 g s⟩
  ·exact h.elim
 | exc x ah=>exact h
 | bad=>exact h.elim
theorem zc(h:bj X κ Φ e m)(he:∀ whole,isTrue e X.env whole=(do let v ← whole;standAt e.pos;holding [v] (truthy v))):fX X κ Φ e m:=by
 intro aF Z0 H0 ρ Ω;refine PT.imp (uO (h aF Z0 H0 ρ Ω) he) ?_;rintro σ H Q ⟨α,Z,S,g⟩;exact⟨α,Z,S,g.Og⟩
theorem rS(ha:bj X κ Φ a ma)(hb:bj X κ Φ (.BoolOp .And (b::rest) pos) mb):bj X κ Φ (.BoolOp .And (a::b::rest) pos) (cJ ma mb):=by
 intro aF Z0 H0 ρ Ω;refine PE.imp (yP (ha aF Z0 H0 ρ Ω) (PE.ex fun ah=>hb aF Z0 H0 ρ ah)) ?_
 rintro σ H Q ⟨α,Z,S,g⟩;refine⟨α,Z,S,bK.use g fun x ah _ v H1 α1 Z1 g1 s1 r1 k1 => ?_⟩
 split at k1
 ·rename_i ht
  exact⟨true,f_ s1 r1 ht,n9 ⟨ah,α1,Z1,S.grow g1 s1,k1⟩⟩
 ·rename_i ht
  exact⟨false,f_ s1 r1 ht,n8 (bK.ret s1 r1 k1)⟩
 ·exact k1.elim
theorem Cb(ha:bj X κ Φ a ma)(hb:bj X κ Φ (.BoolOp .Or (b::rest) pos) mb):bj X κ Φ (.BoolOp .Or (a::b::rest) pos) (fh ma mb):=by
 intro aF Z0 H0 ρ Ω;refine PE.imp (BX (ha aF Z0 H0 ρ Ω) (PE.ex fun ah=>hb aF Z0 H0 ρ ah)) ?_
 rintro σ H Q ⟨α,Z,S,g⟩;refine⟨α,Z,S,bK.use g fun x ah _ v H1 α1 Z1 g1 s1 r1 k1 => ?_⟩
 split at k1
 ·rename_i ht
  exact⟨false,f_ s1 r1 ht,n8 ⟨ah,α1,Z1,S.grow g1 s1,k1⟩⟩
 ·rename_i ht
  exact⟨true,f_ s1 r1 ht,n9 (bK.ret s1 r1 k1)⟩
 ·exact k1.elim
theorem lO{op:BoolOp}(ha:bj X κ Φ a ma):bj X κ Φ (.BoolOp op [a] pos) ma:=fun aF Z0 H0 ρ Ω=>Bk (ha aF Z0 H0 ρ Ω)
theorem zd(ha:bj X κ Φ a ma):bj X κ Φ (.UnaryOp .Not a pos) (bX ma):=by
 intro aF Z0 H0 ρ Ω;refine PE.imp (yQ (ha aF Z0 H0 ρ Ω)) ?_;rintro σ H Q ⟨α,Z,S,g⟩;refine⟨α,Z,S,?_⟩;have:=nM.use (Q':=fun t H1=>Q (.bl (!t)) H1) g fun t ah _ H1 α1 Z1 g1 s1 k1=>bK.ret s1 (aX rfl) k1
 exact this.Og
theorem ze(ha:fX X κ Φ a ma):fX X κ Φ (.UnaryOp .Not a pos) (bX ma):=by
 intro aF Z0 H0 ρ Ω;refine PT.imp (Bj (ha aF Z0 H0 ρ Ω)) ?_;rintro σ H Q ⟨α,Z,S,g⟩;refine⟨α,Z,S,?_⟩;simp only[bX]at g;cases q:dQ (ma ρ Ω) with
 | ok t ah=>rw[q]at g;exact fun H' α' Z' g' s'=>g H' α' Z' g' s'
 | exc x ah=>rw[q]at g;exact g
 | bad=>rw[q]at g;exact g
def AR(X:Cx)(κ:Str->Addr->Prop)(Φ:fK)(e:Expr)(m:EM):Prop:=∀ aF Z0 H0 ρ Ω,PW X e (Lf κ Φ aF Z0 H0 m ρ Ω)
theorem AR.pt(h:AR X κ Φ e m):fX X κ Φ e m:=fun aF Z0 H0 ρ Ω=>(h aF Z0 H0 ρ Ω).pt
theorem zf{op:BoolOp}(ha:fX X κ Φ a ma):AR X κ Φ (.BoolOp op [a] pos) ma:=fun aF Z0 H0 ρ Ω=>by
 cases op with
 | And=>exact pw_and1 (ha aF Z0 H0 ρ Ω)
 | Or=>exact pw_or1 (ha aF Z0 H0 ρ Ω)
theorem zg(ha:fX X κ Φ a ma)(hb:AR X κ Φ (.BoolOp .And (b::rest) pos) mb):AR X κ Φ (.BoolOp .And (a::b::rest) pos) (cJ ma mb):=by
 intro aF Z0 H0 ρ Ω;refine PW.imp (pw_and (ha aF Z0 H0 ρ Ω) (PW.ex fun ah=>hb aF Z0 H0 ρ ah)) ?_
 rintro σ H Q ⟨α,Z,S,g⟩;refine⟨α,Z,S,?_⟩;simp only[cJ]at g;cases q:ma ρ Ω with
 | ok x ah=>
  rw[q]at g;dsimp only[av.bind]at g;simp only[dQ];split at g
  ·rename_i ht
   rw[ht];exact fun H1 α1 Z1 g1 s1=>n9 ⟨ah,α1,Z1,S.grow g1 s1,nM.from g1 g⟩
  ·rename_i ht
   rw[ht];simp only[dQ,ht]at g;exact fun H1 α1 Z1 g1 s1=>n8 (g H1 α1 Z1 g1 s1)
  ·exact g.elim
 | exc x ah=>rw[q]at g;exact g
 | bad=>rw[q]at g;exact g.elim
theorem Cc(ha:fX X κ Φ a ma)(hb:AR X κ Φ (.BoolOp .Or (b::rest) pos) mb):AR X κ Φ (.BoolOp .Or (a::b::rest) pos) (fh ma mb):=by
 intro aF Z0 H0 ρ Ω;refine PW.imp (pw_or (ha aF Z0 H0 ρ Ω) (PW.ex fun ah=>hb aF Z0 H0 ρ ah)) ?_
 rintro σ H Q ⟨α,Z,S,g⟩;refine⟨α,Z,S,?_⟩;simp only[fh]at g;cases q:ma ρ Ω with
 | ok x ah=>
  rw[q]at g;dsimp only[av.bind]at g;simp only[dQ];split at g
  ·rename_i ht
   rw[ht];exact fun H1 α1 Z1 g1 s1=>n8 ⟨ah,α1,Z1,S.grow g1 s1,nM.from g1 g⟩
  ·rename_i ht
   rw[ht];simp only[dQ,ht]at g;exact fun H1 α1 Z1 g1 s1=>n9 (g H1 α1 Z1 g1 s1)
  ·exact g.elim
 | exc x ah=>rw[q]at g;exact g
 | bad=>rw[q]at g;exact g.elim
theorem zh(hc:fX X κ Φ ce mc)(ha:bj X κ Φ a ma)(hb:bj X κ Φ b mb):bj X κ Φ (.IfExp ce a b pos) (DX mc ma mb):=by
 intro aF Z0 H0 ρ Ω;refine PE.imp (uC (hc aF Z0 H0 ρ Ω) (PE.ex fun ah=>ha aF Z0 H0 ρ ah) (PE.ex fun ah=>hb aF Z0 H0 ρ ah)) ?_
 rintro σ H Q ⟨α,Z,S,g⟩;refine⟨α,Z,S,nM.use g fun t ah _ H1 α1 Z1 g1 s1 k1 => ?_⟩
 cases t with
 | true=>rw[if_pos rfl]at k1;exact n9 ⟨ah,α1,Z1,S.grow g1 s1,k1⟩
 | false=>rw[if_neg Bool.false_ne_true]at k1;exact n8 ⟨ah,α1,Z1,S.grow g1 s1,k1⟩
theorem zi(hc:fX X κ Φ ce mc)(ha:fX X κ Φ a ma)(hb:fX X κ Φ b mb):fX X κ Φ (.IfExp ce a b pos) (DX mc ma mb):=by
 intro aF Z0 H0 ρ Ω pins s σ H Q I;rintro⟨α,Z,S,g⟩;simp only[DX]at g
 have key:Lf κ Φ aF Z0 H0 mc ρ Ω σ H (fun t H1=>∃ ah α1 Z1,b9 κ aF Z0 H0 α1 Z1 ah ρ σ H1/\nM κ Φ α1 Z1 H1 (dQ (if t=true then ma ρ ah else mb ρ ah)) Q):=by
  refine⟨α,Z,S,?_⟩;cases q:dQ (mc ρ Ω) with
  | ok t ah=>
   rw[q]at g;exact fun H1 α1 Z1 g1 s1=>⟨ah,α1,Z1,S.grow g1 s1,nM.from g1 g⟩
  | exc x ah=>rw[q]at g;exact g
  | bad=>rw[q]at g;exact g.elim
 refine isTrue_IfExp (bU (hc aF Z0 H0 ρ Ω pins s σ H _ I key) fun v s1 ⟨H1,I1,ah,α1,Z1,S1,k1⟩ => ?_)
 cases v with
 | true=>rw[if_pos rfl]at k1;exact ha aF Z0 H0 ρ ah pins s1 σ H1 Q I1 ⟨α1,Z1,S1,k1⟩
 | false=>rw[if_neg Bool.false_ne_true]at k1;exact hb aF Z0 H0 ρ ah pins s1 σ H1 Q I1 ⟨α1,Z1,S1,k1⟩
def gC(op op':CmpOp)(ma mb mc:EM):EM:=fun ρ Ω=>(ma ρ Ω).bind fun x ah=>(mb ρ ah).bind fun y ay=>(dQ (b_ op x y ay)).bind fun t aP=>if t=true then (mc ρ aP).bind fun z er=>b_ op' y z er else .ok (.bl false) aP
theorem wd{op op':CmpOp}(S:b9 κ aF Z0 H0 α Z Ω ρ σ H)(g:bK κ Φ α Z H (gC op op' ma mb mc ρ Ω) Q) :
  pG (vo op) (vo op') (tO κ Φ aF Z0 H0 ma ρ Ω) (fun σ H Q=>∃ ah,tO κ Φ aF Z0 H0 mb ρ ah σ H Q) (fun σ H Q=>∃ ah,tO κ Φ aF Z0 H0 mc ρ ah σ H Q) σ H Q:=by
 refine⟨α,Z,S,bK.use g fun x ah _ v H1 α1 Z1 g1 s1 r1 k1 => ?_⟩
 refine⟨ah,α1,Z1,S.grow g1 s1,bK.use k1 fun y ay _ w H2 α2 Z2 g2 s2 r2 k2 => ?_⟩
 have S2:=(S.grow g1 s1).grow g2 s2;refine mO (op:=op) (κ:=κ) (Φ:=Φ) s2 (s1.dw g2 r1) r2 ?_;cases q:b_ op x y ay with
 | ok d aP=>
  obtain⟨t,rfl⟩:=mR _ _ _ _ _ q;intro u H3 α3 Z3 g3 s3 r3;simp only[au]at r3;refine⟨t,r3,?_⟩;rw[q]at k2;have k3:bK κ Φ α2 Z2 H2 (if t=true then (mc ρ aP).bind fun z er=>b_ op' y z er else .ok (.bl false) aP) Q:=k2
  have k3:=bK.from g3 k3
  cases t with
  | true=>
   rw[if_pos rfl]at k3 ⊢;refine⟨aP,α3,Z3,S2.grow g3 s3,bK.use k3 fun z er _ w' H4 S6 Z4 g4 s4 r4 k4 => ?_⟩
   exact mO s4 (s3.dw g4 (s2.dw g3 r2)) r4 k4
  | false=>
   rw[if_neg Bool.false_ne_true]at k3 ⊢;exact bK.ret s3 (aX rfl) k3
 | exc x aP=>rw[q]at k2;exact k2
 | bad=>rw[q]at k2;exact k2
theorem zj{op op':CmpOp}(hu:X.A.units + 64 < cLine)(hm:lastMarks [op,op'] [b,ce]=false)(ha:bj X κ Φ a ma)(hb:bj X κ Φ b mb)(hc:bj X κ Φ ce mc):bj X κ Φ (.Compare a [op,op'] [b,ce] pos) (gC op op' ma mb mc):=by
 intro aF Z0 H0 ρ Ω;refine PE.imp (uM (iG hu op) (iG hu op') (ha aF Z0 H0 ρ Ω) (PE.ex fun ah=>hb aF Z0 H0 ρ ah) (PE.ex fun ah=>hc aF Z0 H0 ρ ah) hm) ?_
 rintro σ H Q ⟨α,Z,S,g⟩;exact wd S g
theorem Cd{op op':CmpOp}{d:D}{ao:aD}(h:gC op op' ma mb mc ρ Ω=.ok d ao):∃ t,d=.bl t:=by
 simp only[gC]at h;cases q1:ma ρ Ω with
 | ok x ah=>
  rw[q1]at h;dsimp only[av.bind]at h
  cases q2:mb ρ ah with
  | ok y ay=>
   rw[q2]at h;dsimp only[av.bind]at h
   cases q3:dQ (b_ op x y ay) with
   | ok t aP=>
    rw[q3]at h;dsimp only[av.bind]at h
    split at h
    ·cases q4:mc ρ aP with
     | ok z er=>rw[q4]at h;exact mR _ _ _ _ _ h
     | exc _ _=>rw[q4]at h;cases h
     | bad=>rw[q4]at h;cases h
    ·cases h;exact⟨_,rfl⟩
   | exc _ _=>rw[q3]at h;cases h
   | bad=>rw[q3]at h;cases h
  | exc _ _=>rw[q2]at h;cases h
  | bad=>rw[q2]at h;cases h
 | exc _ _=>rw[q1]at h;cases h
 | bad=>rw[q1]at h;cases h
theorem zk{op op':CmpOp}(hu:X.A.units + 64 < cLine)(hm:lastMarks [op,op'] [b,ce]=false)(ha:bj X κ Φ a ma)(hb:bj X κ Φ b mb)(hc:bj X κ Φ ce mc):fX X κ Φ (.Compare a [op,op'] [b,ce] pos) (gC op op' ma mb mc):=by
 intro aF Z0 H0 ρ Ω;refine PT.imp (uN (iG hu op) (iG hu op') (ha aF Z0 H0 ρ Ω) (PE.ex fun ah=>hb aF Z0 H0 ρ ah) (PE.ex fun ah=>hc aF Z0 H0 ρ ah) hm) ?_
 rintro σ H Q ⟨α,Z,S,g⟩;refine wd S ?_;cases q:gC op op' ma mb mc ρ Ω with
 | ok d ah=>
  obtain⟨t,rfl⟩:=Cd q;rw[q]at g;intro v H1 α1 Z1 g1 s1 r1;simp only[au]at r1;exact⟨t,r1,g H1 α1 Z1 g1 s1⟩
 | exc x ah=>rw[q]at g;exact g
 | bad=>rw[q]at g;exact g.elim
def aV(f:List D->Out Rs):List D->aD->av D:=fun xs Ω=>match bE (eR Ω 8) xs with
 | some ds=>fb Ω (f ds)
 | none=>.bad
theorem fe{bw:Bool}{f:List D->Out Rs}{xs:List D}{vs:List V}(S:bt κ α Z Ω H)(hx:aL (au α Z H) xs vs)(h:bK κ Φ α Z H (aV f xs Ω) Q) :
  ∃ ds own d',aR (rO α Z) H ds vs/\f ds=.ok (own,d')/\∀ v H' Z',dO (rO α Z) H Z' H'->du bw own Z' H H' d' v->Q v H':=by
 unfold aV at h;split at h
 ·rename_i ds hd
  obtain⟨own,d',e,k⟩:=ic (bw:=bw) S h;exact⟨ds,own,d',fW (eg (S:=Rep (rO α Z) H) (fun d d' v q r=>jo S 8 q r) hd hx),e,fun v H' Z' g q=>k v H' _ Z' g q⟩
 ·exact h.elim
theorem tU{k:Nat}{x:Str}{F:List D->Out Rs}(F0:E5 X k x F)(hr:bJ k X.A)(hg:Gl X x)(hdb:(x == ("__debug__":Str))=false)
  (he:starEach (e::es) X.env=(false,eval e X.env)::starEach es X.env) (hpl:(backTo pos (starEach es X.env)).any (·.1)=false) (ha:qr X κ Φ (e::es) as) :
  bj X κ Φ (.Call (.Name x p) (e::es) [] pos) (mN (aV F) as):=by
 obtain⟨f,fd,ps,hm,hk,hb,F1⟩:=F0.ex;intro aF Z0 H0 ρ Ω;refine PE.imp (jj F1 hr hg hm hk hb .nil q_ (ha aF Z0 H0 ρ Ω) hdb he hpl) ?_;rintro σ H Q ⟨α,Z,S,g⟩;refine⟨α,Z,S,oJ.use g fun xs ah _ vs H1 α1 Z1 g1 s1 r1 k1 => ?_⟩
 show jU F (vs++[]) H1 Q E0
 rw[List.append_nil];obtain⟨ds,own,d',h1,h2,h3⟩:=fe (bw:=false) s1 r1 k1;exact⟨rO α1 Z1,ds,own,d',cA s1,h1,h2,h3⟩
end
def tV(f g:List D->aD->av D):List D->aD->av D:=fun xs Ω=>kM (f xs Ω) (g xs Ω)
def we(xs:List D)(Ω:aD):av D:=match xs with
 | [x]=>match et Ω x with
  | some ds=>.ok (.int ds.length) Ω
  | none=>.bad
 | _=>.bad
noncomputable def Fv(xs:List D)(Ω:aD):av D:=.bad
def oK(xs:List D)(Ω:aD):av D:=match xs with
 | [x]=>match et Ω x with
  | some ds=>mJ Ω (.lst ds)
  | none=>.bad
 | _=>.bad
def kc(xs:List D)(Ω:aD):av D:=match xs with
 | [.tup ds]=>.ok (.tup ds) Ω
 | [x]=>match c9 Ω x with
  | some ds=>.ok (.tup ds) Ω
  | none=>.bad
 | _=>.bad
def Ce:List D->Out Rs
 | [.str z]=>if small z.length then .ok (false,.int z.length) else .bad
 | _=>.bad
def Cf:List D->Out Rs
 | [.lst xs]=>match gy xs with | some bs=>.ok (false,.bl (bs.all id)) | none=>.bad
 | _=>.bad
def Cg:List D->Out Rs
 | [.lst xs]=>match gy xs with | some bs=>.ok (false,.bl (bs.any id)) | none=>.bad
 | _=>.bad
noncomputable def Ci:List D->Out Rs
 | [.int i]=>.ok (false,.int i)
 | [.bl k]=>.ok (false,.int (if k then 1 else 0))
 | _=>.bad
noncomputable def Cj:List D->Out Rs
 | [.int i,.int j]=>.ok (false,.int (if j < i then j else i))
 | _=>.bad
def oM:h8->List D->Out Rs
 | .len=>Ce
 | .all=>Cf
 | .any=>Cg
 | .int=>Ci
 | .min=>Cj
 | _=>fun _=>.bad
def kd(f:h8):List D->aD->av D:=aV (oM f)
def aW(f:h8):List D->aD->av D:=match f with
 | .len=>tV we (tV Fv (kd .len))
 | .list=>oK
 | .tuple=>kc
 | f=>kd f
section
variable{X:Cx}{κ:Str->Addr->Prop}{Φ:fK}{α α' aF α1:List Addr}{Z Z' Z0 Z1:Addr->Prop}{Ω ao:aD}{H H' H0 H1:Hp}{ρ:aU}{σ:L2.St}{Q Q':VK}{r:av D}{a b e ce o:Expr}{rest:List Expr}{es:List Expr}{ma mb mc m mo:EM}{as:AM}{pos p apos cpos:Pos}
theorem wg{f g:List D->aD->av D}:mN (tV f g) as=mK (mN f as) (mN g as):=by
 funext ρ Ω
 simp only[mN,mK];cases as ρ Ω with
 | ok x ah=>rfl
 | exc x Ω=>rfl
 | bad=>rfl
theorem ff{f:List D->aD->av D}{id:String}{x:Str}{r:List V->Hp->VK->Prop}(hc:eE X (.builtin id) r)(hg:Gl X x)(hm:X.mg x=none)(hv:bootBuiltins x=some (.builtin id))(hn:x≠"__name__")(hdb:(x == ("__debug__":Str))=false)
  (he:starEach (e::es) X.env=(false,eval e X.env)::starEach es X.env) (hpl:(backTo pos (starEach es X.env)).any (·.1)=false) (ha:qr X κ Φ (e::es) as)
  (hr:∀ xs vs α Z Ω H Q,bt κ α Z Ω H->aL (au α Z H) xs vs->bK κ Φ α Z H (f xs Ω) Q->r vs H Q):bj X κ Φ (.Call (.Name x p) (e::es) [] pos) (mN f as):=by
 intro aF Z0 H0 ρ Ω;refine PE.imp (jH hc hg hm hv (ha aF Z0 H0 ρ Ω) hn hdb he hpl) ?_;rintro σ H Q ⟨α,Z,S,g⟩;exact⟨α,Z,S,oJ.use g fun xs ah _ vs H1 α1 Z1 g1 s1 r1 k1=>hr xs vs α1 Z1 ah H1 Q s1 r1 k1⟩
theorem ke{f:List D->aD->av D}{id:String}{x:Str}{r:List V->Hp->VK->Prop}(hc:eE X (.type id) r)(hg:Gl X x)(hm:X.mg x=none)(hv:bootBuiltins x=some (.type id))(hn:x≠"__name__")(hdb:(x == ("__debug__":Str))=false)
  (he:starEach (e::es) X.env=(false,eval e X.env)::starEach es X.env) (hpl:(backTo pos (starEach es X.env)).any (·.1)=false) (ha:qr X κ Φ (e::es) as)
  (hr:∀ xs vs α Z Ω H Q,bt κ α Z Ω H->aL (au α Z H) xs vs->bK κ Φ α Z H (f xs Ω) Q->r vs H Q):bj X κ Φ (.Call (.Name x p) (e::es) [] pos) (mN f as):=by
 intro aF Z0 H0 ρ Ω;refine PE.imp (s_ hc hg hm hv (ha aF Z0 H0 ρ Ω) hn hdb he hpl) ?_;rintro σ H Q ⟨α,Z,S,g⟩;exact⟨α,Z,S,oJ.use g fun xs ah _ vs H1 α1 Z1 g1 s1 r1 k1=>hr xs vs α1 Z1 ah H1 Q s1 r1 k1⟩
theorem dU:∀ {ds:List D} {vs:List V},aR Z H ds vs->pY Z H ds vs
 | [],vs,h=>h.nil_inv
 | d::ds,vs,h=>by
  obtain⟨v,r,rfl,h1,h2⟩:=h.cons_inv;exact⟨v,r,rfl,h1.now,dU h2⟩
theorem zl{f:h8}(hcalm:X.calm=true)(hf:f∈[h8.len,h8.all,h8.any,h8.list,h8.tuple,h8.int,h8.min])(hg:Gl X f.nm)(hm:X.mg f.nm=none)
  (he:starEach (e::es) X.env=(false,eval e X.env)::starEach es X.env) (hpl:(backTo pos (starEach es X.env)).any (·.1)=false) (ha:qr X κ Φ (e::es) as) :
  bj X κ Φ (.Call (.Name f.nm p) (e::es) [] pos) (mN (aW f) as):=by
 cases f with
 | len=>
  show bj X κ Φ _ (mN (tV we (tV Fv (kd .len))) as)
  rw[wg,wg];refine bj.alt ?_ (bj.alt ?_ ?_)
  ·refine ff hV hg hm boot_len (by decide) (by decide) he hpl ha ?_
   intro xs vs α Z Ω H Q S rx g;unfold we at g;split at g
   ·split at g
    ·rename_i ds hd
     obtain⟨v,r,rfl,r1,r2⟩:=rx.cons_inv;rw[r2.nil_inv];obtain⟨l,ws,rfl,q1,q2⟩:=kb (K:=X.K) S r1 hd;exact⟨l,ws,rfl,q1,by rw[q2.length];exact bK.ret S (aX rfl) g⟩
    ·exact g.elim
   ·exact g.elim
  ·exact ff hV hg hm boot_len (by decide) (by decide) he hpl ha fun xs vs α Z Ω H Q S rx g=>(show False from g).elim
  ·refine ff mn hg hm boot_len (by decide) (by decide) he hpl ha ?_
   intro xs0 AS α Z Ω H Q S rx g;obtain⟨ds,own,d,nw,ee,k⟩:=fe (bw:=false) S rx g;have nw:=dU nw;have dom:=cA S;replace ee:Ce ds=_:=ee;unfold Ce at ee;split at ee
   ·obtain⟨x,rfl,n⟩:=nw.one
    cases cD n;split at ee
    ·rename_i hs
     cases ee;exact⟨_,rfl,bC hs,fv dom k rfl⟩
    ·cases ee
   ·cases ee
 | all=>
  refine ff (vB hcalm) hg hm boot_all (by decide) (by decide) he hpl ha ?_
  intro xs0 AS α Z Ω H Q S rx g;obtain⟨ds,own,d,nw,ee,k⟩:=fe (bw:=false) S rx g;have nw:=dU nw;have dom:=cA S;replace ee:Cf ds=_:=ee;unfold Cf at ee;split at ee
  ·obtain⟨x,rfl,n⟩:=nw.one
   split at ee
   ·rename_i bs hb
    cases ee;exact⟨_,_,bs,x,rfl,n,hb,fv dom k rfl⟩
   ·cases ee
  ·cases ee
 | any=>
  refine ff (vC hcalm) hg hm boot_any (by decide) (by decide) he hpl ha ?_
  intro xs0 AS α Z Ω H Q S rx g;obtain⟨ds,own,d,nw,ee,k⟩:=fe (bw:=false) S rx g;have nw:=dU nw;have dom:=cA S;replace ee:Cg ds=_:=ee;unfold Cg at ee;split at ee
  ·obtain⟨x,rfl,n⟩:=nw.one
   split at ee
   ·rename_i bs hb
    cases ee;exact⟨_,_,bs,x,rfl,n,hb,fv dom k rfl⟩
   ·cases ee
  ·cases ee
 | int=>
  refine ke sY hg hm boot_int (by decide) (by decide) he hpl ha ?_
  intro xs0 AS α Z Ω H Q S rx g;obtain⟨ds,own,d,nw,ee,k⟩:=fe (bw:=false) S rx g;have nw:=dU nw;have dom:=cA S;replace ee:Ci ds=_:=ee;unfold Ci at ee;split at ee
  ·obtain⟨x,rfl,n⟩:=nw.one
   cases aZ n;cases ee;exact .inl ⟨_,rfl,fv dom k rfl⟩
  ·obtain⟨x,rfl,n⟩:=nw.one
   cases fT n;cases ee;exact .inr ⟨_,rfl,fv dom k rfl⟩
  ·cases ee
 | min=>
  refine ff (sX hcalm) hg hm boot_min (by decide) (by decide) he hpl ha ?_
  intro xs0 AS α Z Ω H Q S rx g;obtain⟨ds,own,d,nw,ee,k⟩:=fe (bw:=false) S rx g;have nw:=dU nw;have dom:=cA S;replace ee:Cj ds=_:=ee;unfold Cj at ee;split at ee
  ·obtain⟨x,y,rfl,n,n'⟩:=nw.two
   cases aZ n;cases aZ n';cases ee;exact⟨_,_,rfl,fv dom k rfl⟩
  ·cases ee
 | max=>simp at hf
 | list=>
  refine ke mq hg hm boot_list (by decide) (by decide) he hpl ha ?_
  intro xs vs α Z Ω H Q S rx g;have g:bK κ Φ α Z H (oK xs Ω) Q:=g;unfold oK at g;split at g
  ·split at g
   ·rename_i ds hd
    obtain⟨v,r,rfl,r1,r2⟩:=rx.cons_inv;rw[r2.nil_inv];obtain⟨l,ws,rfl,q1,q2⟩:=kb (K:=X.K) S r1 hd;exact⟨l,ws,rfl,q1,f7 S q2 g⟩
   ·exact g.elim
  ·exact g.elim
 | tuple=>
  refine ke kR hg hm boot_tuple (by decide) (by decide) he hpl ha ?_
  intro xs vs α Z Ω H Q S rx g;have g:bK κ Φ α Z H (kc xs Ω) Q:=g;unfold kc at g;split at g
  ·obtain⟨v,r,rfl,r1,r2⟩:=rx.cons_inv
   rw[r2.nil_inv];have r1':=r1;obtain⟨l,ws,rfl,_,q1,q2⟩:=fx r1;exact⟨l,ws,rfl,.inr ⟨tD (.inl q1),bK.ret S r1' g⟩⟩
  ·split at g
   ·rename_i ds hd
    obtain⟨v,r,rfl,r1,r2⟩:=rx.cons_inv;rw[r2.nil_inv];obtain⟨l,ws,rfl,q1,q2⟩:=bx S r1 hd;exact⟨l,ws,rfl,.inl ⟨jb q1,ij S q2 g⟩⟩
   ·exact g.elim
  ·exact g.elim
 | sorted=>simp at hf
 | bool=>simp at hf
def Lg(t:Ty):D->aD->av D:=iM fun d=>match vj d t with | some b=>.ok (false,.bl b) | none=>.bad
noncomputable def Ck(t:Ty)(x:D)(Ω:aD):av D:=match x with
 | .ref k=>match Ω[k]? with
  | some (.lst _)=>.ok (.bl (t == .list)) Ω
  | some (.dK _)=>.ok (.bl (t == .dict)) Ω
  | _=>.bad
 | .lst _=>.ok (.bl (t == .list)) Ω
 | .tup _=>.ok (.bl (t == .tuple)) Ω
 | _=>.bad
def bG(t:Ty):D->aD->av D:=B7 (Ck t) (Lg t)
def AU(K:PySem.W.Frag):List V->Hp->VK->Prop:=fun xs H Q=>∃ a vs t,xs=[.ref a,.ty (Ty.id t)]/\((Rd H a (.lst vs)/\Q (.bl (t == .list)) H)\/(Rd H a (.tup vs)/\Q (.bl (t == .tuple)) H)\/(∃ kvs,H a=some (.dK kvs)/\Q (.bl (t == .dict)) H))
theorem tW:eE X (.builtin "isinstance") (AU X.K):=by
 intro pins s σ H xs us Q I r h;obtain⟨a,vs,t,rfl,h⟩:=h;obtain⟨u,w',rfl,rx,rt⟩:=vals2 r;cases (show w'=Value.type (Ty.id t) from rt)
 obtain⟨t1,t2,t3,t4,t5,t6,t7⟩:=rp X.K t;rcases h with ⟨h1,q⟩ | ⟨h1,q⟩ | ⟨kvs,h1,q⟩
 ·have fin:∀ tk,EP X pins σ Q (.bool (t == .list)) { s with toks:=tk }:=fun tk=>⟨.bl _,H,I.tok tk,rfl,q⟩
  rcases h1 with h1 | ⟨o,h1⟩
  ·exact cw I rx (.lst h1) t5 fin
  ·exact cw I rx (.i7 h1) t5 fin
 ·have fin:∀ tk,EP X pins σ Q (.bool (t == .tuple)) { s with toks:=tk }:=fun tk=>⟨.bl _,H,I.tok tk,rfl,q⟩
  cases rx;exact PySem.W.kia_one PySem.W.kitx_tuple I.fG (iW (K:=X.K) I h1) t6 (fun z=>nomatch z) fin
 ·have fin:∀ tk,EP X pins σ Q (.bool (t == .dict)) { s with toks:=tk }:=fun tk=>⟨.bl _,H,I.tok tk,rfl,q⟩
  exact cw I rx (.dK h1) t7 fin
theorem zm{t:Ty}{pt:Pos}(hg:Gl X "isinstance")(hm:X.mg "isinstance"=none)(hgt:Gl X t.nm)(hmt:X.mg t.nm=none)
  (he:starEach [a,Expr.Name t.nm pt] X.env=(false,eval a X.env)::starEach [Expr.Name t.nm pt] X.env) (hpl:(backTo pos (starEach [Expr.Name t.nm pt] X.env)).any (·.1)=false) (ha:bj X κ Φ a ma) :
  bj X κ Φ (.Call (.Name "isinstance" p) [a,.Name t.nm pt] [] pos) (m1 (bG t) ma):=by
 have Oh:PE X (.Name t.nm pt) (tC (.ty t.id)):=xX hgt hmt (yE t) rfl (by cases t<;>decide) (by cases t<;>decide)
 unfold bG;rw[B8];refine bj.alt ?_ ?_
 ·refine ie (r:=fun x H Q=>AU X.K [x,.ty t.id] H Q) (fun ta pa=>jH tW hg hm boot_isinstance (di pa (di Oh iE rfl) he) (by decide) (by decide) he hpl) ha ?_
  intro dx x α Z Ω H Q S rx g;unfold Ck at g;split at g
  ·split at g
   ·rename_i k ds hk
    obtain⟨a,vs,rfl,h1,h2⟩:=bx (ds:=ds) S rx (by simp only[c9,hk])
    exact⟨a,vs,t,rfl,.inl ⟨h1,bK.ret S (aX rfl) g⟩⟩
   ·rename_i k kvs hk
    simp only[au]at rx;obtain⟨a,ha,rfl⟩:=rx;obtain⟨a',ha',kvs',h1,_⟩:=S.cell hk;rw[ha]at ha';cases ha'
    exact⟨a,[],t,rfl,.inr (.inr ⟨kvs',h1,bK.ret S (aX rfl) g⟩)⟩
   ·exact g.elim
  ·rename_i ds
   obtain⟨a,vs,rfl,h1,h2⟩:=bx (ds:=ds) S rx rfl;exact⟨a,vs,t,rfl,.inl ⟨h1,bK.ret S (aX rfl) g⟩⟩
  ·obtain⟨a,vs,rfl,_,h1,h2⟩:=fx rx
   exact⟨a,vs,t,rfl,.inr (.inl ⟨.inl h1,bK.ret S (aX rfl) g⟩)⟩
  ·exact g.elim
 ·refine ie (r:=fun x H Q=>E6 X.K [x,.ty t.id] H Q) (fun ta pa=>jH vD hg hm boot_isinstance (di pa (di Oh iE rfl) he) (by decide) (by decide) he hpl) ha ?_
  intro dx x α Z Ω H Q S rx g;obtain⟨d,own,d',n1,e1,k⟩:=j_ (bw:=false) S rx g;cases q:vj d t with
  | none=>rw[q]at e1;cases e1
  | some b=>
   rw[q]at e1;cases e1;exact⟨_,d,x,t,b,rfl,n1,q,fv (cA S) k rfl⟩
def bP(xQ:aD->D->Bool)(f:D->List D->aD->av D)(mo:EM)(as:AM):EM:=fun ρ Ω=>(mo ρ Ω).bind fun x ah=>if xQ ah x=true then (as ρ ah).bind fun xs ay=>f x xs ay else .bad
def fL(Ω:aD)(x:D):Bool:=(c9 Ω x).isSome
noncomputable def wj(_:aD)(x:D):Bool:=match x with
 | .str _=>true
 | _=>false
theorem mT{x:D}{v:V}{K:PySem.W.Frag}(S:bt κ α Z Ω H)(r:au α Z H x v)(h:fL Ω x=true):BF K "list" v H:=by
 unfold fL at h;cases q:c9 Ω x with
 | none=>rw[q]at h;cases h
 | some ds=>
  obtain⟨a,vs,rfl,h1,h2⟩:=bx S r q;exact .inl ⟨rfl,vs,jb h1⟩
theorem zo{x:D}{v:V}{K:PySem.W.Frag}(S:bt κ α Z Ω H)(r:au α Z H x v)(h:wj Ω x=true):BF K "str" v H:=by
 cases x with
 | str z=>simp only[au]at r;subst r;rfl
 | _=>cases h
section
variable{T id:String}{name:Str}{r:V->List V->Hp->VK->Prop}{xQ:aD->D->Bool}{f:D->List D->aD->av D}
theorem zp(pa:PlainAttrs T)(slot:PySem.Slot T name id)(hty:typeOf (.builtin id)=pure (.type "method_descriptor"))(hm:DU X id r)
  (hT:∀ x v α Z Ω H,bt κ α Z Ω H->au α Z H x v->xQ Ω x=true->BF X.K T v H)
  (hr:∀ x v xs vs α Z Ω H Q,bt κ α Z Ω H->au α Z H x v->aL (au α Z H) xs vs->bK κ Φ α Z H (f x xs Ω) Q->r v vs H Q)
  (hbase:attributeBase o name X.env (eval o X.env)=eval o X.env) (hline:(apos.endLine == cpos.line)=true) (ho:bj X κ Φ o mo):bj X κ Φ (.Call (.Attribute o name apos) [] [] cpos) (bP xQ f mo ag):=by
 intro aF Z0 H0 ρ Ω;refine PE.imp (L2.BG pa slot hty hm (ho aF Z0 H0 ρ Ω) hbase hline) ?_;rintro σ H Q ⟨α,Z,S,g⟩;refine⟨α,Z,S,bK.use g fun x ah _ v H1 α1 Z1 g1 s1 r1 k1 => ?_⟩
 split at k1
 ·rename_i hi
  exact⟨hT x v α1 Z1 ah H1 s1 r1 hi,hr x v [] [] α1 Z1 ah H1 Q s1 r1 .nil k1⟩
 ·exact k1.elim
theorem wk{env:Env}:∀ {es:List Expr},(∀ e∈es,isStar e=false)->((backTo cpos (starEach es env)).all (fun x => !x.1))=true
 | [],_=>rfl
 | e::es,h=>by
  rw[bV (h e (by simp))]
  show(!false && (backTo cpos (starEach es env)).all (fun x => !x.1))=true
  rw[wk fun z hz=>h z (by simp[hz])];rfl
theorem mU(pa:PlainAttrs T)(slot:PySem.Slot T name id)(hty:typeOf (.builtin id)=pure (.type "method_descriptor"))(hm:DU X id r)
  (hT:∀ x v α Z Ω H,bt κ α Z Ω H->au α Z H x v->xQ Ω x=true->BF X.K T v H)
  (hr:∀ x v xs vs α Z Ω H Q,bt κ α Z Ω H->au α Z H x v->aL (au α Z H) xs vs->bK κ Φ α Z H (f x xs Ω) Q->r v vs H Q)
  (hbase:attributeBase o name X.env (eval o X.env)=eval o X.env) (hline:(apos.endLine == cpos.line)=true) (ho:bj X κ Φ o mo) (ha:qr X κ Φ (e::es) as) (hst:∀ z∈e::es,isStar z=false) (hlen:(e::es).length < 20):bj X κ Φ (.Call (.Attribute o name apos) (e::es) [] cpos) (bP xQ f mo as):=by
 intro aF Z0 H0 ρ Ω
 have hfew:((backTo cpos (starEach (e::es) X.env)).all (fun x => !x.1) && (backToKw cpos (keywordEach [] X.env)).all (fun x=>x.1.isSome)
   && decide ((e::es).length + ([]:List Keyword).length + (if ([]:List Keyword).isEmpty then 0 else 1) < 30))=true:=by
  rw[wk hst,decide_eq_true (by show(e::es).length + 0 + 0 < 30;omega)];rfl
 refine PE.imp (L2.EK pa slot hty hm (ho aF Z0 H0 ρ Ω) (PA.ex fun ah=>ha aF Z0 H0 ρ ah) hbase hfew hline (bV (hst e (by simp))) (de fun z hz=>hst z (by simp[hz]))) ?_
 rintro σ H Q ⟨α,Z,S,g⟩;refine⟨α,Z,S,bK.use g fun x ah _ v H1 α1 Z1 g1 s1 r1 k1 => ?_⟩
 split at k1
 ·rename_i hi
  exact⟨hT x v α1 Z1 ah H1 s1 r1 hi,ah,α1,Z1,S.grow g1 s1,oJ.use k1 fun xs ay _ vs H2 α2 Z2 g2 s2 r2 k2=>hr x v xs vs α2 Z2 ay H2 Q s2 (s1.dw g2 r1) r2 k2⟩
 ·exact k1.elim
end
noncomputable def qw(Ω:aD):D->Option (Nat×List D)
 | .ref k=>match Ω[k]? with
  | some (.lst ds)=>some (k,ds)
  | _=>none
 | _=>none
theorem kf{x:D}{v:V}{k:Nat}{ds:List D}(S:bt κ α Z Ω H)(r:au α Z H x v)(h:qw Ω x=some (k,ds)):∃ a vs,v=.ref a/\α[k]?=some a/\H a=some (.lst vs)/\aL (au α Z H) ds vs:=by
 cases x with
 | ref n=>
  simp only[qw]at h;split at h
  ·rename_i ds' hk
   cases h;simp only[au]at r;obtain⟨a,ha,rfl⟩:=r;obtain⟨a',ha',vs,h1,h2⟩:=S.cell hk;rw[ha]at ha';cases ha';exact⟨a,vs,rfl,ha,h1,h2⟩
  ·cases h
 | _=>cases h
theorem kg{k:Nat}{p:Addr}{ds:List D}{vs:List V}{d:D}{u:V}(S:bt κ α Z Ω H)(hk:α[k]?=some p){ws:List V}(hm:H p=some (.lst ws))(r:aL (au α Z H) ds vs)(ru:au α Z H d u)(g:bK κ Φ α Z H (.ok d (Ω.set k (.lst ds))) Q):Q u (upd H p (.lst vs)):=by
 obtain⟨S1,g1⟩:=S.put (o:=.lst vs) (c:=.lst ds) hk (fun o u z=>by rw[hm]at z;cases z) fun R hR=>⟨vs,bo,r.imp hR⟩
 exact g _ _ _ _ g1 S1 (S.dw g1 ru)
def bB(x:D)(xs:List D)(Ω:aD):av D:=match qw Ω x,xs with
 | some (k,ds),[y]=>if small (ds.length + 1) then .ok .non (Ω.set k (.lst (ds++[y]))) else .bad
 | _,_=>.bad
def gf(x:D)(xs:List D)(Ω:aD):av D:=match qw Ω x,xs with
 | some (k,_),[]=>.ok .non (Ω.set k (.lst []))
 | _,_=>.bad
def gh(x:D)(xs:List D)(Ω:aD):av D:=match qw Ω x,xs with
 | some (k,ds),[.int i]=>if gx i=true then (match L2.pN ds.length i with
  | some n=>match ds[n]? with
   | some d=>.ok d (Ω.set k (.lst (ds.eraseIdx n)))
   | none=>.bad
  | none=>.bad) else .bad
 | _,_=>.bad
def cC(x:D)(xs:List D)(Ω:aD):av D:=match xs with
 | [y]=>fw (fun a b=>match a with | .lst ds=>mx .index (.lst ds) (.tup [b]) | _=>.bad) x y Ω
 | _=>.bad
def ki(x:D)(xs:List D)(Ω:aD):av D:=match xs with
 | [y]=>fw (fun a b=>mx .join a (.tup [b])) x y Ω
 | _=>.bad
theorem ip{R:D->V->Prop}{y:D}{vs:List V}(h:aL R [y] vs):∃ v,vs=[v]/\R y v:=by
 obtain⟨v,r,rfl,h1,h2⟩:=h.cons_inv;rw[h2.nil_inv];exact⟨v,rfl,h1⟩
theorem tX{x:D}{v:V}{xs:List D}{vs:List V}(S:bt κ α Z Ω H)(r:au α Z H x v)(rs:aL (au α Z H) xs vs)(g:bK κ Φ α Z H (bB x xs Ω) Q):qY v vs H Q:=by
 unfold bB at g;split at g
 ·rename_i k ds y hk
  obtain⟨a,ws,rfl,h1,h2,h3⟩:=kf S r hk;obtain⟨u,rfl,h4⟩:=ip rs;split at g
  ·rename_i hs
   have:=bC hs;exact⟨a,ws,u,rfl,rfl,h2,by rw[h3.length];omega,kg S h1 h2 (h3.append (.one h4)) (aX rfl) g⟩
  ·exact g.elim
 ·exact g.elim
theorem wm{x:D}{v:V}{xs:List D}{vs:List V}(S:bt κ α Z Ω H)(r:au α Z H x v)(rs:aL (au α Z H) xs vs)(g:bK κ Φ α Z H (gf x xs Ω) Q):uX v vs H Q:=by
 unfold gf at g;split at g
 ·rename_i k ds hk
  obtain⟨a,ws,rfl,h1,h2,h3⟩:=kf S r hk;rw[rs.nil_inv];exact⟨a,ws,rfl,rfl,h2,kg S h1 h2 .nil (aX rfl) g⟩
 ·exact g.elim
theorem wo{x:D}{v:V}{xs:List D}{vs:List V}(S:bt κ α Z Ω H)(r:au α Z H x v)(rs:aL (au α Z H) xs vs)(g:bK κ Φ α Z H (gh x xs Ω) Q):uV v vs H Q:=by
 unfold gh at g;split at g
 ·rename_i k ds i hk
  obtain⟨a,ws,rfl,h1,h2,h3⟩:=kf S r hk;obtain⟨u,rfl,ru⟩:=ip rs;simp only[au]at ru;subst ru;split at g
  ·rename_i hin
   have hi:=oi hin;split at g
   ·rename_i n hn
    split at g
    ·rename_i d hd
     obtain⟨u,h4,h5⟩:=h3.get hd;obtain⟨e1,e2,e3,e4⟩:=qW hn;exact⟨a,ws,i,n,u,rfl,rfl,h2,by omega,by omega,by rw[h3.length];exact e1,h4,kg S h1 h2 (h3.eraseIdx n) h5 g⟩
    ·exact g.elim
   ·exact g.elim
  ·exact g.elim
 ·exact g.elim
theorem wq{x:D}{v:V}{xs:List D}{vs:List V}(S:bt κ α Z Ω H)(r:au α Z H x v)(rs:aL (au α Z H) xs vs)(g:bK κ Φ α Z H (cC x xs Ω) Q):vF v vs H Q:=by
 unfold cC at g;split at g
 ·obtain⟨u,rfl,h4⟩:=ip rs
  obtain⟨d,e,own,d',n1,n2,e1,k⟩:=fZ (bw:=false) S r h4 g;cases d with
  | lst ds=>
   (unfold mx at e1;dsimp only at e1)
   split at e1
   ·rename_i hc
    simp only[Bool.and_eq_true]at hc;split at e1
    ·rename_i j hj
     cases e1;exact⟨_,ds,e,u,j,rfl,n1,n2,hc.1,hc.2,hj,fv (cA S) k rfl⟩
    ·cases e1
   ·cases e1
  | _=>cases e1
 ·exact g.elim
theorem zq{x:D}{v:V}{xs:List D}{vs:List V}(S:bt κ α Z Ω H)(r:au α Z H x v)(rs:aL (au α Z H) xs vs)(g:bK κ Φ α Z H (ki x xs Ω) Q):rJoin v vs H Q:=by
 unfold ki at g;split at g
 ·obtain⟨u,rfl,h4⟩:=ip rs
  obtain⟨d,e,own,d',n1,n2,e1,k⟩:=fZ (bw:=false) S r h4 g;cases d with
  | str z=>
   cases cD n1;cases e with
   | lst ds=>
    (unfold mx at e1;dsimp only at e1)
    split at e1
    ·rename_i ys hs
     split at e1
     ·rename_i hc
      cases e1;simp only[Bool.and_eq_true,decide_eq_true_eq]at hc;exact⟨z,_,ds,ys,u,rfl,rfl,n2,hs,hc.1,hc.2,fv (cA S) k rfl⟩
     ·cases e1
    ·cases e1
   | _=>cases e1
  | _=>cases e<;>cases e1
 ·exact g.elim
end
inductive Src where
 | seq (x:D) | ints (lo:Int) (n:Nat) | chars (z:Str) | Lh (x:D)
def iq:Src->aD->Option (List D)
 | .seq x,Ω=>et Ω x
 | .ints lo n,_=>some (intsFrom lo n)
 | .chars z,_=>some (z.cps.toList.map fun c=>.str (fS c))
 | .Lh x,Ω=>(et Ω x).map (cY 0)
abbrev IM:=aU->aD->av Src
def zt(κ:Str->Addr->Prop)(s:Src)(J:It)(α:List Addr)(Z:Addr->Prop)(H:Hp):Prop:=∀ α1 Z1 ah H1 ds,bN α Z H α1 Z1 H1->bt κ α1 Z1 ah H1->iq s ah=some ds ->
 (∀ (i:Nat) (d:D),ds[i]?=some d->J.go i H1/\∀ x H2,J.H_ i H1 x H2->∃ Z2,bN α1 Z1 H1 α1 Z2 H2/\bt κ α1 Z2 ah H2/\au α1 Z2 H2 d x)/\∀ i,ds.length<=i->J.stop i H1
def qx(κ:Str->Addr->Prop)(Φ:fK)(α:List Addr)(Z:Addr->Prop)(H:Hp)(r:av Src)(R:It->Hp->Prop):Prop:=match r with
 | .ok s ao=>∀ J H' α' Z',bN α Z H α' Z' H'->bt κ α' Z' ao H'->zt κ s J α' Z' H'->R J H'
 | .exc x ao=>∀ H' α' Z',bN α Z H α' Z' H'->bt κ α' Z' ao H'->Φ x ao α' Z' H'
 | .bad=>False
noncomputable def Qw(κ:Str->Addr->Prop)(Φ:fK)(aF:List Addr)(Z0:Addr->Prop)(H0:Hp)(m:IM)(ρ:aU)(Ω:aD):TI:=fun σ H R=>∃ α Z,b9 κ aF Z0 H0 α Z Ω ρ σ H/\qx κ Φ α Z H (m ρ Ω) R
def wt(X:Cx)(κ:Str->Addr->Prop)(Φ:fK)(tg e:Expr)(m:IM):Prop:=∀ aF Z0 H0 ρ Ω,PI X tg e (Qw κ Φ aF Z0 H0 m ρ Ω)
def srcOf(Ω:aD)(x:D):av Src:=match et Ω x,x with
 | some _,x=>.ok (.seq x) Ω
 | none,.str z=>.ok (.chars z) Ω
 | none,_=>.bad
def cK(m:EM):IM:=fun ρ Ω=>(m ρ Ω).bind fun x ah=>srcOf ah x
def tY(m:EM):IM:=fun ρ Ω=>(m ρ Ω).bind fun x ah=>match et ah x with
 | some _=>.ok (.Lh x) ah
 | none=>.bad
def rT(xs:List D)(Ω:aD):av Src:=match xs with
 | [.int j]=>if gx j then .ok (.ints 0 j.toNat) Ω else .bad
 | _=>.bad
def bz(as:AM):IM:=fun ρ Ω=>(as ρ Ω).bind rT
section
variable{X:Cx}{κ:Str->Addr->Prop}{Φ:fK}{α α' aF α1:List Addr}{Z Z' Z0 Z1:Addr->Prop}{Ω ao:aD}{H H' H0 H1:Hp}{ρ:aU}{σ:L2.St}{Q Q':VK}{r:av D}{a b e ce o tg:Expr}{rest:List Expr}{es:List Expr}{ma mb mc m mo:EM}{as:AM}{pos p apos cpos tpos:Pos}
theorem qx.from{r:av Src}{R:It->Hp->Prop}(g:bN α Z H α1 Z1 H1)(h:qx κ Φ α Z H r R):qx κ Φ α1 Z1 H1 r R:=by
 cases r with
 | ok d ao=>exact fun v H' α' Z' g'=>h v H' α' Z' (g.trans g')
 | exc x ao=>exact fun H' α' Z' g'=>h H' α' Z' (g.trans g')
 | bad=>exact h
theorem qx.use{r:av D}{f:D->aD->av Src}{R:It->Hp->Prop}(h:qx κ Φ α Z H (r.bind f) R)(k:∀ d ah,r=.ok d ah->∀ v H1 α1 Z1,bN α Z H α1 Z1 H1->bt κ α1 Z1 ah H1->au α1 Z1 H1 d v->qx κ Φ α1 Z1 H1 (f d ah) R->Q' v H1):bK κ Φ α Z H r Q':=by
 cases r with
 | ok d ah=>exact fun v H1 α1 Z1 g s q=>k d ah rfl v H1 α1 Z1 g s q (qx.from g h)
 | exc x ah=>exact h
 | bad=>exact h
theorem oN{K:PySem.W.Frag}{x:D}{a:Addr}(hx:au α Z H x (.ref a))(S:bt κ α Z Ω H)(hl:(c9 Ω x).isSome=true):zt κ (.seq x) (Kd K a) α Z H:=by
 intro α1 Z1 ah H1 ds g s hs;have hx1:=S.dw g hx;have hnt:∀ es,x≠.tup es:=fun es e=>by subst e;cases hl
 have hs':c9 ah x=some ds:=by
  cases x with
  | tup es=>exact absurd rfl (hnt _)
  | _=>exact hs
 obtain⟨a',vs,e,h1,h2⟩:=bx s hx1 hs';cases e;refine⟨fun i d hd => ?_,fun i hi=>⟨vs,jb h1,by rw[h2.length];exact hi⟩⟩
 obtain⟨v,hv,rv⟩:=h2.get hd;refine⟨⟨vs,v,jb h1,hv⟩,fun y H2 hy => ?_⟩
 obtain⟨rfl,hy⟩:=hy;have:=hy vs (jb h1);rw[hv]at this;cases this;exact⟨Z1,bN.refl s.has,s,rv⟩
theorem zu{K:PySem.W.Frag}{es:List D}{a:Addr}(hx:au α Z H (.tup es) (.ref a))(S:bt κ α Z Ω H):zt κ (.seq (.tup es)) (Ke K a) α Z H:=by
 intro α1 Z1 ah H1 ds g s hs;have hx1:=S.dw g hx;cases hs;obtain⟨a',vs,e,_,h1,h2⟩:=fx hx1;cases e;refine⟨fun i d hd => ?_,fun i hi=>⟨vs,tD (.inl h1),by rw[h2.length];exact hi⟩⟩
 obtain⟨v,hv,rv⟩:=h2.get hd;refine⟨⟨vs,v,tD (.inl h1),hv⟩,fun y H2 hy => ?_⟩
 obtain⟨rfl,hy⟩:=hy;have:=hy vs (tD (.inl h1));rw[hv]at this;cases this;exact⟨Z1,bN.refl s.has,s,rv⟩
theorem zv(h:bj X κ Φ e m):wt X κ Φ tg e (cK m):=by
 intro aF Z0 H0 ρ Ω;refine PI.imp (BV (h aF Z0 H0 ρ Ω)) ?_;rintro σ H R ⟨α,Z,S,g⟩;refine⟨α,Z,S,qx.use g fun x ah _ v H1 α1 Z1 g1 s1 r1 k1 => ?_⟩
 cases x with
 | tup es=>
  have r1':=r1;obtain⟨a,vs,rfl,_,h1,h2⟩:=fx r1;exact .inr (.inl ⟨a,vs,rfl,.inl h1,k1 _ H1 α1 Z1 (bN.refl s1.has) s1 (zu r1' s1)⟩)
 | lst es=>
  have r1':=r1;obtain⟨a,vs,rfl,h1,h2⟩:=bx (ds:=es) s1 r1 rfl;exact .inl ⟨a,vs,rfl,h1,k1 _ H1 α1 Z1 (bN.refl s1.has) s1 (oN r1' s1 rfl)⟩
 | ref n=>
  cases hq':c9 ah (.ref n) with
  | none=>
   simp only[srcOf,et,hq']at k1;exact k1.elim
  | some ds=>
   simp only[srcOf,et,hq']at k1;have r1':=r1;obtain⟨a,vs,rfl,h1,h2⟩:=bx s1 r1 hq';exact .inl ⟨a,vs,rfl,h1,k1 _ H1 α1 Z1 (bN.refl s1.has) s1 (oN r1' s1 (by rw[hq'];rfl))⟩
 | str z=>
  simp only[au]at r1;subst r1;refine .inr (.inr ⟨z,rfl,k1 _ H1 α1 Z1 (bN.refl s1.has) s1 ?_⟩);intro α2 Z2 ay H2 ds g2 s2 hs;cases hs;refine⟨fun i d hd => ?_,fun i hi=>by show z.cps.size<=i;simpa using hi⟩
  have hi:i < z.cps.size:=by
   have:=(List.getElem?_eq_some_iff.mp hd).1;simpa using this
  refine⟨hi,fun y H3 hy => ?_⟩
  obtain⟨rfl,c,hc,rfl⟩:=hy;rw[List.getElem?_map]at hd;have hc':z.cps.toList[i]?=some c:=by simpa using hc
  rw[hc']at hd;cases hd;exact⟨Z2,bN.refl s2.has,s2,aX rfl⟩
 | non=>exact k1.elim
 | bl _=>exact k1.elim
 | int _=>exact k1.elim
 | dct _ _=>exact k1.elim
theorem wu{lo:Int}{n:Nat}:zt κ (.ints lo n) (Em lo n) α Z H:=by
 intro α1 Z1 ah H1 ds g s hs;cases hs;refine⟨fun i d hd => ?_,fun i hi=>by rw[jV]at hi;exact hi⟩
 have hi:=(List.getElem?_eq_some_iff.mp hd).1;rw[jV]at hi;refine⟨hi,fun y H2 hy => ?_⟩
 obtain⟨rfl,rfl⟩:=hy;rw[ints_get _ _ _ _ hd];exact⟨Z1,bN.refl s.has,s,aX rfl⟩
theorem qx.Li{r:av (List D)}{f:List D->aD->av Src}{R:It->Hp->Prop}{Q':List V->Hp->Prop}(h:qx κ Φ α Z H (r.bind f) R)(k:∀ ds ah,r=.ok ds ah->∀ vs H1 α1 Z1,bN α Z H α1 Z1 H1->bt κ α1 Z1 ah H1->aL (au α1 Z1 H1) ds vs->qx κ Φ α1 Z1 H1 (f ds ah) R->Q' vs H1):oJ κ Φ α Z H r Q':=by
 cases r with
 | ok d ah=>exact fun v H1 α1 Z1 g s q=>k d ah rfl v H1 α1 Z1 g s q (qx.from g h)
 | exc x ah=>exact h
 | bad=>exact h
theorem wx(hg:Gl X "range")(hm:X.mg "range"=none)(ha:qr X κ Φ [a] as)(hs:starEach [a] X.env=[(false,eval a X.env)]):wt X κ Φ tg (.Call (.Name "range" p) [a] [] pos) (bz as):=by
 intro aF Z0 H0 ρ Ω;refine PI.imp (sU hg hm (ha aF Z0 H0 ρ Ω) hs) ?_;rintro σ H R ⟨α,Z,S,g⟩;refine⟨α,Z,S,qx.Li (Q':=fun vs H1=>∃ j:Int,vs=[.int j] /\ -(2 ^ 62)<=j/\j < 2 ^ 62/\R (Em 0 j.toNat) H1) g fun xs ah _ vs H1 α1 Z1 g1 s1 r1 k1 => ?_⟩
 unfold rT at k1;split at k1
 ·obtain⟨v,rfl,r2⟩:=ip r1
  simp only[au]at r2;subst r2;split at k1
  ·rename_i hi
   have hi:=oi hi;exact⟨_,rfl,hi.1,hi.2,k1 _ H1 α1 Z1 (bN.refl s1.has) s1 wu⟩
  ·exact k1.elim
 ·exact k1.elim
noncomputable def oO(n:Nat)(d:D):Option aU:=match n,d with
 | 0,d=>some [some d]
 | n,.tup ds=>if ds.length=n then some (ds.map some) else none
 | _,_=>none
noncomputable def dR(cap:List Nat)(ρ:aU):aU:=cap.map fun i=>(ρ[i]?).join
def iN(nc:Bool)(mc:EM)(ρ:aU)(Ω:aD):av Bool:=if nc=true then .ok true Ω else dQ (mc ρ Ω)
def uv(nc:Bool)(mc me:EM)(n:Nat)(τ:aU)(src:Src):Nat->Nat->List D->aD->av (List D)
 | 0,_,_,_=>.bad
 | f + 1,i,acc,Ω=>match iq src Ω with
  | none=>.bad
  | some ds=>match ds[i]? with
   | none=>.ok acc Ω
   | some d=>match oO n d with
    | none=>.bad
    | some ts=>if small (acc.length + 1) then match iN nc mc (ts++τ) Ω with
     | .ok true ah=>match me (ts++τ) ah with
      | .ok y ay=>uv nc mc me n τ src f (i + 1) (acc++[y]) ay
      | _=>.bad
     | .ok false ah=>uv nc mc me n τ src f (i + 1) acc ah
     | _=>.bad else .bad
def cp(me:EM)(nc:Bool)(mc:EM)(mi:IM)(n:Nat)(cap:List Nat):EM:=fun ρ Ω=>match mi ρ Ω with
 | .ok s ah=>match uv nc mc me n (dR cap ρ) s fuel 0 [] ah with
  | .ok ys ay=>mJ ay (.lst ys)
  | _=>.bad
 | .exc x ah=>.exc x ah
 | .bad=>.bad
noncomputable def i5:fK:=fun _ _ _ _ _=>False
theorem oP{cap:List Nat}{ds:List D}{vs:List V}(S:b9 κ aF Z0 H0 α Z Ω ρ σ H)(g:bN α Z H α1 Z1 H1)(s:bt κ α1 Z1 ao H1)(r:aL (au α1 Z1 H1) ds vs) :
  b9 κ α1 Z1 H1 α1 Z1 ao (ds.map some++dR cap ρ) (vs.map some++om cap σ) H1:=by
 have hl:=r.length;refine⟨s,bN.refl s.has,?_,fun i d h => ?_⟩
 ·rw[List.length_append,List.length_append,List.length_map,List.length_map,hl]
  unfold om dR;rw[List.length_map,List.length_map]
 ·by_cases hi:i < ds.length
  ·rw[List.getElem?_append_left (by simpa using hi),List.getElem?_map]at h
   rw[List.getElem?_append_left (by simpa[hl] using hi),List.getElem?_map]
   cases q:ds[i]? with
   | none=>rw[q]at h;cases h
   | some d'=>
    rw[q]at h;cases h;obtain⟨v,hv,rv⟩:=r.get q;exact⟨v,by rw[hv];rfl,rv⟩
  ·rw[List.getElem?_append_right (by simpa using hi)]at h
   rw[List.getElem?_append_right (by simpa[hl] using hi)]
   unfold dR at h;unfold om;rw[List.length_map,List.getElem?_map]at h;rw[List.length_map,hl,List.getElem?_map];cases q:cap[i - ds.length]? with
   | none=>rw[q]at h;cases h
   | some j=>
    rw[q]at h;have h:(ρ[j]?).join=some d:=by simpa using h
    have hj:ρ[j]?=some (some d):=by
     cases q2:ρ[j]? with
     | none=>rw[q2]at h;cases h
     | some o=>rw[q2]at h;rw[show o=some d from h]
    obtain⟨v,hv,rv⟩:=S.val j d hj;refine⟨v,?_,S.st.dw g rv⟩
    show some ((σ[j]?).join)=_
    rw[hv];rfl
theorem bN.AV(g:bN α Z H α' Z' H'){a:Addr}{o:HO}(hn:a∉α)(h:H a=some o):a∉α':=fun q=>by
 rcases g.B5 a q with q | q
 ·exact hn q
 ·rw[h]at q;cases q
theorem bN.Cm(g:bN α Z H α' Z' H'){a:Addr}{o:HO}(hn:¬ Z a)(h:H a=some o):¬ Z' a:=fun q=>by
 rcases g.new a q with q | q
 ·exact hn q
 ·rw[h]at q;cases q
theorem bN.side(g:bN α Z H α' Z' H'){a:Addr}{o:HO}(hn:a∉α)(h:H a=Option.none):bN α Z H α' Z' (upd H' a o):=
 ⟨g.pre,g.sub,g.new,g.B5,fun b u e hb=>by rw[aG (ba e h)];exact g.frm b u e hb,fun b hb=>by rw[aG (fun (q:b=a)=>hn (by rw[← q];exact hb))];exact g.has b hb⟩
theorem zw{n:Nat}{d:D}{τ:aU}(h:oO n d=some τ):∃ ds:List D,τ=ds.map some:=by
 unfold oO at h;split at h
 ·cases h;exact⟨[d],rfl⟩
 ·split at h
  ·cases h;exact⟨_,rfl⟩
  ·cases h
 ·cases h
theorem bt.part(S:bt κ α Z Ω H){D0:Addr}{vs:List V}{ds:List D}(hD:H D0=some (.lst vs))(hn:D0∉α)(hz:¬ Z D0)(r:aL (au α Z H) ds vs):bt κ (α++[D0]) Z (Ω++[.lst ds]) H:=by
 have pre:∀ (n:Nat) (a:Addr),α[n]?=some a->(α++[D0])[n]?=some a:=fun n a e=>by rw[List.getElem?_append_left (List.getElem?_eq_some_iff.mp e).1];exact e
 have mono:∀ d v,au α Z H d v->au (α++[D0]) Z H d v:=fun d v r=>r.mono pre (fun _ _ _ e=>e) fun _ z=>z
 refine⟨?_,?_,fun a ha hz' => ?_,S.dom⟩
 ·refine List.nodup_append.mpr ⟨S.nL,by simp,fun a ha b hb e => ?_⟩
  rw[List.mem_singleton.mp hb]at e;exact hn (e▸ha)
 ·exact aL.append (S.xP.imp fun c a hc=>hc.imp mono (fun _ e=>e) fun _ _ _ e=>e) (.one ⟨vs,hD,r.imp mono⟩)
 ·rcases List.mem_append.mp ha with ha | ha
  ·exact S.sep a ha hz'
  ·rw[List.mem_singleton.mp ha]at hz';exact hz hz'
theorem bt.side(S:bt κ α Z Ω H){D0:Addr}{o:HO}(hn:D0∉α)(hz:¬ Z D0)(hm:∀ o u,H D0≠some (.i7 o u)):bt κ α Z Ω (upd H D0 o)/\∀ d v,au α Z H d v->au α Z (upd H D0 o) d v:=by
 have mono:∀ d v,au α Z H d v->au α Z (upd H D0 o) d v:=fun d v r=>r.mono (fun _ _ e=>e) (fun a u z e=>by rw[aG (fun (q:a=D0)=>hz (by rw[← q];exact z))];exact e) fun _ z=>z
 have key:∀ {cs:List Cell} {as:List Addr},(∀ a∈as,a∈α)->aL (fun c a=>gz κ (au α Z H) H a c) cs as->aL (fun c a=>gz κ (au α Z (upd H D0 o)) (upd H D0 o) a c) cs as:=by
  intro cs as hin hA
  induction hA with
  | nil=>exact .nil
  | @cons c a cs as r t ih=>
   have hne:a≠D0:=fun q=>hn (q▸hin a (by simp))
   exact .cons (r.imp mono (fun u e=>by rw[aG hne];exact e) fun b o' u' e=>by rw[aG (fun q=>hm o' u' (by rw[← q];exact e))];exact e) (ih fun b hb=>hin b (by simp[hb]))
 exact⟨⟨S.nL,key (fun a h=>h) S.xP,S.sep,fun a z=>by rw[aG (fun (q:a=D0)=>hz (by rw[← q];exact z))];exact S.dom a z⟩,mono⟩
end
section
variable{X:Cx}{κ:Str->Addr->Prop}{Φ:fK}{tg iter elt:Expr}{ifs:List Expr}{scope:Scope}{tn cn:List Str}{cap:List Nat}{me mc:EM}{mi:IM}{nc:Bool}{pos:Pos}{n:Nat}
theorem tZ{g:TG}(hit:wt X κ Φ tg iter mi)
  (hgt:∀ (d:D) (ds:List D) x α Z Ω H (σ':L2.St) (k:L2.St->Hp->Prop),oO n d=some (ds.map some)->bt κ α Z Ω H->au α Z H d x->(∀ vs,aL (au α Z H) ds vs->k (vs.map some++σ') H)->g x (List.replicate tn.length none++σ') H k)
  (hb:∀ cl C s₀ H₀ fp,PG (blk X scope cl C (tn++cn) s₀ H₀ fp) tg g/\((ifs=[]/\nc=true)\/∃ c,ifs=[c]/\nc=false/\fX (blk X scope cl C (tn++cn) s₀ H₀ fp) κ i5 c mc)/\bj (blk X scope cl C (tn++cn) s₀ H₀ fp) κ i5 elt me) :
  ∀ aF Z0 H0 ρ Ω,∃ wi tc te,PI X tg iter wi/\(∀ cl C s₀ H₀ fp,PG (blk X scope cl C (tn++cn) s₀ H₀ fp) tg g/\yF (blk X scope cl C (tn++cn) s₀ H₀ fp) ifs tc/\PE (blk X scope cl C (tn++cn) s₀ H₀ fp) elt te) /\
   ∀ σ H Q,tO κ Φ aF Z0 H0 (cp me nc mc mi n cap) ρ Ω σ H Q->lz wi tn.length cap g tc te σ H Q:=by
 intro aF Z0 H0 ρ Ω
 let tc:TT:=fun σ' H Q=>∃ α Z Ω cf,b9 κ α Z H α Z Ω cf σ' H/\nM κ i5 α Z H (iN nc mc cf Ω) Q
 let te:TE:=fun σ' H Q=>∃ α Z Ω cf,b9 κ α Z H α Z Ω cf σ' H/\bK κ i5 α Z H (me cf Ω) Q
 have hb':∀ cl C s₀ H₀ fp,PG (blk X scope cl C (tn++cn) s₀ H₀ fp) tg g/\yF (blk X scope cl C (tn++cn) s₀ H₀ fp) ifs tc/\PE (blk X scope cl C (tn++cn) s₀ H₀ fp) elt te:=by
  intro cl C s₀ H₀ fp;obtain⟨h1,h2,h3⟩:=hb cl C s₀ H₀ fp;refine⟨h1,?_,?_⟩
  ·rcases h2 with ⟨e,hn⟩ | ⟨c,e,hn,h2⟩
   ·subst e
    intro pins s σ' H Q I q;obtain⟨α,Z,Ω,cf,S,k⟩:=q;rw[iN,if_pos hn]at k;exact yG pins s σ' H Q I (k H α Z (bN.refl S.st.has) S.st)
   ·subst e
    intro pins s σ' H Q I q;obtain⟨α,Z,Ω,cf,S,k⟩:=q;rw[iN,if_neg (by rw[hn];exact Bool.false_ne_true)]at k
    exact yH (h2 α Z H cf Ω) pins s σ' H Q I ⟨α,Z,S,k⟩
  ·intro pins s σ' H Q I q
   obtain⟨α,Z,Ω,cf,S,k⟩:=q;exact h3 α Z H cf Ω pins s σ' H Q I ⟨α,Z,S,k⟩
 refine⟨_,tc,te,hit aF Z0 H0 ρ Ω,hb',?_⟩;rintro σ H Q ⟨α,Z,S,k⟩;refine⟨α,Z,S,?_⟩;simp only[cp]at k;cases qi:mi ρ Ω with
 | exc x ah=>rw[qi]at k;exact k
 | bad=>rw[qi]at k;exact k.elim
 | ok src ah=>
  rw[qi]at k;dsimp only at k;intro J H1 α1 Z1 g1 s1 w1 D0 hD;cases qg:uv nc mc me n (dR cap ρ) src fuel 0 [] ah with
  | exc x ay=>rw[qg]at k;exact k.elim
  | bad=>rw[qg]at k;exact k.elim
  | ok ys ay=>
   rw[qg]at k;dsimp only at k;have Fw:¬ Z1 D0:=fun z=>s1.dom D0 z hD
   have zx:D0∉α1:=fun z=>s1.has D0 z hD
   refine⟨fun i f vs H2=>∃ α2 Z2 AW acc,bN α1 Z1 H1 α2 Z2 H2/\bt κ α2 Z2 AW H2/\D0∉α2/\¬ Z2 D0/\H2 D0=some (.lst vs)/\aL (au α2 Z2 H2) acc vs/\uv nc mc me n (dR cap ρ) src f i acc AW=.ok ys ay,
    ⟨fuel,α1,Z1,ah,[],?_,?_,zx,Fw,bo,.nil,qg⟩,?_⟩
   ·exact⟨fun _ _ e=>e,fun _ z=>z,fun _ z=>.inl z,fun _ z=>.inl z,fun a o e _=>by rw[aG (ba e hD)];exact e,fun a ha=>by rw[aG (fun (q:a=D0)=>zx (by rw[← q];exact ha))];exact s1.has a ha⟩
   ·exact(s1.side zx Fw fun o u z=>by rw[hD]at z;cases z).1
   rintro i f vs H2 ⟨α2,Z2,AW,acc,g2,s2,nD,nZ,hD2,r2,e2⟩;refine⟨hD2,?_⟩;cases f with
   | zero=>cases e2
   | succ f=>
    simp only[uv]at e2;cases qs:iq src AW with
    | none=>rw[qs]at e2;cases e2
    | some ds=>
     rw[qs]at e2;dsimp only at e2;obtain⟨Lj,Lk⟩:=w1 α2 Z2 AW H2 ds g2 s2 qs;cases qd:ds[i]? with
     | none=>
      rw[qd]at e2;cases e2;have hi:ds.length<=i:=List.getElem?_eq_none_iff.mp qd;refine .inl ⟨Lk i hi,?_⟩;have sf:=s2.part hD2 nD nZ r2
      have gA:bN α1 Z1 H1 (α2++[D0]) Z2 H2:=⟨fun n a e=>by rw[List.getElem?_append_left (List.getElem?_eq_some_iff.mp (g2.pre n a e)).1];exact g2.pre n a e,g2.sub,g2.new,fun a ha=>by
       rcases List.mem_append.mp ha with ha | ha
       ·exact g2.B5 a ha
       ·rw[List.mem_singleton.mp ha];exact .inr hD,g2.frm,g2.has⟩
      exact k _ H2 _ Z2 (g1.trans gA) sf (j9 s2 D0)
     | some d=>
      rw[qd]at e2;dsimp only at e2;obtain⟨hgo,hyl⟩:=Lj i d qd;cases qt:oO n d with
      | none=>rw[qt]at e2;cases e2
      | some ts=>
       rw[qt]at e2;dsimp only at e2;obtain⟨es,rfl⟩:=zw qt
       by_cases hsm:small (acc.length + 1)=true
       ·rw[if_pos hsm]at e2
        have hsm:=bC hsm;refine .inr ⟨hgo,by rw[r2.length];omega,fun x H3 yl => ?_⟩
        obtain⟨Z3,g3,s3,rx⟩:=hyl x H3 yl;have Qx:=g3.Cm nZ hD2;have Ll:=g3.frm D0 _ hD2 nD;refine hgt d es x α2 Z3 AW H3 (om cap σ) _ qt s3 rx fun ws xO => ?_
        have gB:=g1.trans (g2.trans g3);have SB:=oP (cap:=cap) S gB s3 xO;refine⟨α2,Z3,AW,_,SB,?_⟩;cases qc:iN nc mc (es.map some++dR cap ρ) AW with
        | exc x er=>rw[qc]at e2;cases e2
        | bad=>rw[qc]at e2;cases e2
        | ok b er=>
         rw[qc]at e2;intro H5 IH Z5 g5 s5;have Lm:=g5.AV nD Ll;have Oi:=g5.Cm Qx Ll;have E7:=g5.frm D0 _ Ll nD;cases b with
         | false=>
          refine n8 ?_;exact⟨f,Nat.lt_succ_self _,IH,Z5,er,acc,g2.trans (g3.trans g5),s5,Lm,Oi,E7,s3.j8 g5 (s2.j8 g3 r2),e2⟩
         | true=>
          refine n9 ?_;dsimp only at e2;have SC:=oP (cap:=cap) S (gB.trans g5) s5 (s3.j8 g5 xO);refine⟨IH,Z5,er,_,SC,?_⟩;cases qe:me (es.map some++dR cap ρ) er with
          | exc x pB=>rw[qe]at e2;cases e2
          | bad=>rw[qe]at e2;cases e2
          | ok y pB=>
           rw[qe]at e2;intro v H6 Qy Z6 g6 s6 rv;have Oj:=g6.AV Lm E7;have Ol:=g6.Cm Oi E7;have Om:=g6.frm D0 _ E7 Lm;obtain⟨s7,m7⟩:=s6.side (o:=.lst (vs++[v])) Oj Ol (fun o u z=>by rw[Om]at z;cases z)
           refine⟨Om,f,Nat.lt_succ_self _,Qy,Z6,pB,acc++[y],((g2.trans (g3.trans g5)).trans g6).side zx hD,s7,Oj,Ol,bo,?_,e2⟩;exact((s5.j8 g6 (s3.j8 g5 (s2.j8 g3 r2))).append (.one rv)).imp m7
       ·rw[if_neg hsm]at e2;cases e2
theorem kj{x:Str}{px:Pos}(hit:wt X κ Φ (.Name x px) iter mi)(hx:scope.names.lookup x=some .local)(hnd:([x]++cn).Nodup)
  (hb:∀ cl C s₀ H₀ fp,((ifs=[]/\nc=true)\/∃ c,ifs=[c]/\nc=false/\fX (blk X scope cl C ([x]++cn) s₀ H₀ fp) κ i5 c mc)/\bj (blk X scope cl C ([x]++cn) s₀ H₀ fp) κ i5 elt me) :
  ∀ aF Z0 H0 ρ Ω,∃ wi tc te,PI X (.Name x px) iter wi/\(∀ cl C s₀ H₀ fp,PG (blk X scope cl C ([x]++cn) s₀ H₀ fp) (.Name x px) (gF 0)/\yF (blk X scope cl C ([x]++cn) s₀ H₀ fp) ifs tc/\PE (blk X scope cl C ([x]++cn) s₀ H₀ fp) elt te) /\
   ∀ σ H Q,tO κ Φ aF Z0 H0 (cp me nc mc mi 0 cap) ρ Ω σ H Q->lz wi [x].length cap (gF 0) tc te σ H Q:=by
 have hl:(relabel scope X.env).names.lookup x=some .local:=lookup_relabel_local hx;refine tZ (g:=gF 0) (tn:=[x]) hit (fun d ds y α Z Ω H σ' k ht S rx hk => ?_) fun cl C s₀ H₀ fp => ?_
 ·have ht:some [some d]=some (ds.map some):=ht
  have e:ds=[d]:=by
   injection ht with ht;cases ds with
   | nil=>cases ht
   | cons a r=>
    cases r with
    | nil=>simp only[List.map_cons,List.map_nil,List.cons.injEq,Option.some.injEq,and_true]at ht;rw[ht]
    | cons _ _=>cases ht
  subst e;exact hk [y] (.one rx)
 ·obtain⟨h1,h2⟩:=hb cl C s₀ H₀ fp
  exact⟨ji (X:=blk X scope cl C ([x]++cn) s₀ H₀ fp) hnd rfl (.inl hl) (.inr hl),h1,h2⟩
theorem wy{x:Str}{px:Pos}(hc:X.calm=true)(B:iX X scope [x] cn cap)(hs:∀ z,foldedSetIterable iter X.env z=pure z)(hit:wt X κ Φ (.Name x px) iter mi)(hx:scope.names.lookup x=some .local)(hnd:([x]++cn).Nodup)
  (hb:∀ cl C s₀ H₀ fp,((ifs=[]/\nc=true)\/∃ c,ifs=[c]/\nc=false/\fX (blk X scope cl C ([x]++cn) s₀ H₀ fp) κ i5 c mc)/\bj (blk X scope cl C ([x]++cn) s₀ H₀ fp) κ i5 elt me) :
  bj X κ Φ (.ListComp elt [⟨.Name x px,iter,ifs,0⟩] scope pos) (cp me nc mc mi 0 cap):=by
 intro aF Z0 H0 ρ Ω;obtain⟨wi,tc,te,h1,h2,h3⟩:=kj (cap:=cap) hit hx hnd hb aF Z0 H0 ρ Ω;exact PE.imp (yJ hc B h1 hs (iY 1 (by decide)) h2) h3
end
inductive gD where
 | nx (ρ:aU) (Ω:aD) | bk (ρ:aU) (Ω:aD) | ct (ρ:aU) (Ω:aD) | rt (d:D) (Ω:aD) | exc (x:D) (Ω:aD) | bad
abbrev SM:=aU->aD->gD
def fg(κ:Str->Addr->Prop)(Φ:fK)(aF:List Addr)(Z0:Addr->Prop)(H0:Hp)(E:Ends):gD->Prop
 | .nx ρ Ω=>∀ σ H α Z,b9 κ aF Z0 H0 α Z Ω ρ σ H->E.nx σ H
 | .bk ρ Ω=>∀ σ H α Z,b9 κ aF Z0 H0 α Z Ω ρ σ H->E.bk σ H
 | .ct ρ Ω=>∀ σ H α Z,b9 κ aF Z0 H0 α Z Ω ρ σ H->E.ct σ H
 | .rt d Ω=>∀ v H α Z,bN aF Z0 H0 α Z H->bt κ α Z Ω H->au α Z H d v->E.rt v H
 | .exc x Ω=>∀ H α Z,bN aF Z0 H0 α Z H->bt κ α Z Ω H->Φ x Ω α Z H
 | .bad=>False
noncomputable def Cn(κ:Str->Addr->Prop)(Φ:fK)(aF:List Addr)(Z0:Addr->Prop)(H0:Hp)(c:SM)(ρ:aU)(Ω:aD):TS:=fun E σ H=>∃ α Z,b9 κ aF Z0 H0 α Z Ω ρ σ H/\fg κ Φ aF Z0 H0 E (c ρ Ω)
def km(X:Cx)(κ:Str->Addr->Prop)(Φ:fK)(st:Stmt)(c:SM):Prop:=∀ aF Z0 H0 ρ Ω,PS X st (Cn κ Φ aF Z0 H0 c ρ Ω)
def ir(X:Cx)(κ:Str->Addr->Prop)(Φ:fK)(sts:List Stmt)(c:SM):Prop:=∀ aF Z0 H0 ρ Ω,gZ X sts (Cn κ Φ aF Z0 H0 c ρ Ω)
noncomputable def cL{β:Type}(r:av β)(k:β->aD->gD):gD:=match r with
 | .ok a Ω=>k a Ω
 | .exc x Ω=>.exc x Ω
 | .bad=>.bad
noncomputable def ai:SM:=fun ρ Ω=>.nx ρ Ω
noncomputable def aj(a b:SM):SM:=fun ρ Ω=>match a ρ Ω with
 | .nx cf ao=>b cf ao
 | r=>r
def aw(i:Nat)(m:EM):SM:=fun ρ Ω=>cL (m ρ Ω) fun d ah=>.nx (ρ.set i (some d)) ah
def eh(m:EM):SM:=fun ρ Ω=>cL (m ρ Ω) fun _ ah=>.nx ρ ah
def aQ(m:EM):SM:=fun ρ Ω=>cL (m ρ Ω) fun d ah=>.rt d ah
def cW(m:EM)(a b:SM):SM:=fun ρ Ω=>cL (dQ (m ρ Ω)) fun t ah=>if t=true then a ρ ah else b ρ ah
noncomputable def mV:SM:=fun _ _=>.bad
def fM(m:EM)(b:SM):Nat->SM
 | 0,_,_=>.bad
 | f + 1,ρ,Ω=>cL (dQ (m ρ Ω)) fun t ah=>if t=true then (match b ρ ah with
  | .nx cf ao=>fM m b f cf ao
  | .ct cf ao=>fM m b f cf ao
  | .bk cf ao=>.nx cf ao
  | r=>r) else .nx ρ ah
def qy(m:EM)(b:SM):SM:=fM m b fuel
noncomputable def jq:List Nat->List D->aU->aU
 | i::is,d::ds,ρ=>jq is ds (ρ.set i (some d))
 | _,_,ρ=>ρ
noncomputable def bY(i:Nat)(d:D)(ρ:aU):Option aU:=some (ρ.set i (some d))
def kn(is:List Nat)(d:D)(ρ:aU):Option aU:=match d with
 | .tup ds=>if ds.length=is.length then some (jq is ds ρ) else none
 | _=>none
def eH(put:D->aU->Option aU)(src:Src)(b:SM):Nat->Nat->SM
 | 0,_,_,_=>.bad
 | f + 1,i,ρ,Ω=>match iq src Ω with
  | none=>.bad
  | some ds=>match ds[i]? with
   | none=>.nx ρ Ω
   | some d=>match put d ρ with
    | none=>.bad
    | some xR=>match b xR Ω with
     | .nx cf ao=>eH put src b f (i + 1) cf ao
     | .ct cf ao=>eH put src b f (i + 1) cf ao
     | .bk cf ao=>.nx cf ao
     | r=>r
def c_(put:D->aU->Option aU)(mi:IM)(b:SM):SM:=fun ρ Ω=>cL (mi ρ Ω) fun s ah=>eH put s b fuel 0 ρ ah
def Fx(is:List Nat)(m:EM):SM:=fun ρ Ω=>cL (m ρ Ω) fun d ah=>match kn is d ρ with
 | some cf=>.nx cf ah
 | none=>.bad
section
variable{X:Cx}{κ:Str->Addr->Prop}{Φ:fK}{α α' aF α1:List Addr}{Z Z' Z0 Z1:Addr->Prop}{Ω ao:aD}{H H' H0 H1:Hp}{ρ:aU}{σ:L2.St}{E:Ends}{a b e ce o tg:Expr}{st:Stmt}{rest ta tb:List Stmt}{m:EM}{mi:IM}{ca cb:SM}{pos pos':Pos}
theorem b9.set(S:b9 κ aF Z0 H0 α Z Ω ρ σ H){d:D}{v:V}(r:au α Z H d v)(i:Nat):b9 κ aF Z0 H0 α Z Ω (ρ.set i (some d)) (σ.set i (some v)) H:=by
 refine⟨S.st,S.gr,by simp[S.len],fun j d' h => ?_⟩
 by_cases hij:i=j
 ·subst hij
  have hl:i < ρ.length:=by
   have:=(List.getElem?_eq_some_iff.mp h).1;simpa using this
  rw[List.getElem?_set_self hl]at h;cases h;exact⟨v,by rw[List.getElem?_set_self (by rw[S.len];exact hl)],r⟩
 ·rw[List.getElem?_set_ne hij]at h ⊢
  exact S.val j d' h
theorem fg.use{r:av D}{k:D->aD->gD}{Q:VK}(S:b9 κ aF Z0 H0 α Z Ω ρ σ H)(f:fg κ Φ aF Z0 H0 E (cL r k))(h:∀ d ah v H1 α1 Z1,r=.ok d ah->bN α Z H α1 Z1 H1->b9 κ aF Z0 H0 α1 Z1 ah ρ σ H1->au α1 Z1 H1 d v->fg κ Φ aF Z0 H0 E (k d ah)->Q v H1):bK κ Φ α Z H r Q:=by
 cases r with
 | ok d ah=>exact fun v H1 α1 Z1 g s q=>h d ah v H1 α1 Z1 rfl g (S.grow g s) q f
 | exc x ah=>exact fun H1 α1 Z1 g s=>f H1 α1 Z1 (S.gr.trans g) s
 | bad=>exact f
theorem fg.Fy{r:av Bool}{k:Bool->aD->gD}{Q:Bool->Hp->Prop}(S:b9 κ aF Z0 H0 α Z Ω ρ σ H)(f:fg κ Φ aF Z0 H0 E (cL r k))(h:∀ t ah H1 α1 Z1,r=.ok t ah->bN α Z H α1 Z1 H1->b9 κ aF Z0 H0 α1 Z1 ah ρ σ H1->fg κ Φ aF Z0 H0 E (k t ah)->Q t H1):nM κ Φ α Z H r Q:=by
 cases r with
 | ok d ah=>exact fun H1 α1 Z1 g s=>h d ah H1 α1 Z1 rfl g (S.grow g s) f
 | exc x ah=>exact fun H1 α1 Z1 g s=>f H1 α1 Z1 (S.gr.trans g) s
 | bad=>exact f
theorem gZ.ex{ι:Type}{t:ι->TS}{sts:List Stmt}(h:∀ i,gZ X sts (t i)):gZ X sts (fun D σ H=>∃ i,t i D σ H):=fun pins s σ H D I ⟨i,q⟩=>h i pins s σ H D I q
theorem mW:ir X κ Φ [] ai:=by
 intro aF Z0 H0 ρ Ω;refine gZ.imp l0 ?_;rintro E σ H ⟨α,Z,S,f⟩;exact f σ H α Z S
theorem ko(h1:km X κ Φ st ca)(h2:ir X κ Φ rest cb):ir X κ Φ (st::rest) (aj ca cb):=by
 intro aF Z0 H0 ρ Ω;refine gZ.imp (nT (h1 aF Z0 H0 ρ Ω) (gZ.ex fun p:aU×aD=>h2 aF Z0 H0 p.1 p.2)) ?_
 rintro E σ H ⟨α,Z,S,f⟩;refine⟨α,Z,S,?_⟩;simp only[aj]at f;cases q:ca ρ Ω with
 | nx cf ao=>rw[q]at f;exact fun σ' H' α' Z' S'=>⟨(cf,ao),α',Z',S',f⟩
 | bk cf ao=>rw[q]at f;exact f
 | ct cf ao=>rw[q]at f;exact f
 | rt d ao=>rw[q]at f;exact f
 | exc x ao=>rw[q]at f;exact f
 | bad=>rw[q]at f;exact f.elim
theorem mX(h:bj X κ Φ e m):km X κ Φ (.Return (some e) pos) (aQ m):=by
 intro aF Z0 H0 ρ Ω;refine PS.imp (l4 (h aF Z0 H0 ρ Ω)) ?_;rintro E σ H ⟨α,Z,S,f⟩;exact⟨α,Z,S,fg.use S f fun d ah v H1 α1 Z1 _ g S1 r f1=>f1 v H1 α1 Z1 S1.gr S1.st r⟩
theorem rV{i:Nat}{x:Str}(hN:X.N.Nodup)(hi:X.N[i]?=some x)(hx:Loc X.env.scope x)(hf:X.fn x=true\/X.env.scope.names.lookup x=some .local)(hs:swapsWith e (some (.Name x pos')) pos.line X.env=pure false)(h:bj X κ Φ e m) :
  km X κ Φ (.Assign [.Name x pos'] e pos) (aw i m):=by
 intro aF Z0 H0 ρ Ω;refine PS.imp (Bp hN hi hx (h aF Z0 H0 ρ Ω) hs hf) ?_;rintro E σ H ⟨α,Z,S,f⟩;exact⟨α,Z,S,fg.use S f fun d ah v H1 α1 Z1 _ g S1 r f1=>f1 _ H1 α1 Z1 (S1.set r i)⟩
theorem wz{i:Nat}{x:Str}{elt iter tg:Expr}{ifs:List Expr}{scope:Scope}{tn cn:List Str}{cap:List Nat}{g:TG}(hN:X.N.Nodup)(hi:X.N[i]?=some x)(hx:X.env.scope.names.lookup x=some .local)
  (hsw:swapsWith (.ListComp elt [⟨tg,iter,ifs,0⟩] scope pos) (some (.Name x pos')) pos'.line X.env=pure true) (hc:X.calm=true) (B:iX X scope tn cn cap) (hs:∀ x,foldedSetIterable iter X.env x=pure x)
  (BU:∀ v σ H Q,g v σ H Q->g v σ H fun σ' H'=>Q σ' H'/\σ'.length=σ.length/\∀ j,tn.length<=j->σ'[j]?=σ[j]?)
  (h:∀ aF Z0 H0 ρ Ω,∃ wi tc te,PI X tg iter wi/\(∀ cl C s₀ H₀ fp,PG (blk X scope cl C (tn++cn) s₀ H₀ fp) tg g/\yF (blk X scope cl C (tn++cn) s₀ H₀ fp) ifs tc/\PE (blk X scope cl C (tn++cn) s₀ H₀ fp) elt te) /\
   ∀ σ H Q,tO κ Φ aF Z0 H0 m ρ Ω σ H Q->lz wi tn.length cap g tc te σ H Q) {spos:Pos} (hl:spos.line=pos'.line) :
  km X κ Φ (.Assign [.Name x pos'] (.ListComp elt [⟨tg,iter,ifs,0⟩] scope pos) spos) (aw i m):=by
 intro aF Z0 H0 ρ Ω;obtain⟨wi,tc,te,h1,h2,h3⟩:=h aF Z0 H0 ρ Ω;refine PS.imp (p7 hN hi hx (by rw[hl];exact hsw) hc B h1 hs BU h2) ?_
 rintro E σ H ⟨α,Z,S,f⟩;exact h3 σ H _ ⟨α,Z,S,fg.use S f fun d ah v H1 α1 Z1 _ g S1 r f1=>f1 _ H1 α1 Z1 (S1.set r i)⟩
theorem rW(hs:swapsWith e none pos.line X.env=pure false)(h:bj X κ Φ e m):km X κ Φ (.Expr e pos) (eh m):=by
 intro aF Z0 H0 ρ Ω;refine PS.imp (xY (h aF Z0 H0 ρ Ω) hs) ?_;rintro E σ H ⟨α,Z,S,f⟩;exact⟨α,Z,S,fg.use S f fun d ah v H1 α1 Z1 _ g S1 r f1=>f1 _ H1 α1 Z1 S1⟩
theorem wD(hc:fX X κ Φ e m)(ha:ir X κ Φ ta ca)(hb:ir X κ Φ tb cb):km X κ Φ (.If e ta tb pos) (cW m ca cb):=by
 intro aF Z0 H0 ρ Ω;refine PS.imp (uD (hc aF Z0 H0 ρ Ω) (gZ.ex fun ah=>ha aF Z0 H0 ρ ah) (gZ.ex fun ah=>hb aF Z0 H0 ρ ah)) ?_
 rintro E σ H ⟨α,Z,S,f⟩;refine⟨α,Z,S,fg.Fy S f fun t ah H1 α1 Z1 _ g S1 f1 => ?_⟩
 cases t with
 | true=>rw[if_pos rfl]at f1;exact n9 ⟨ah,α1,Z1,S1,f1⟩
 | false=>rw[if_neg Bool.false_ne_true]at f1;exact n8 ⟨ah,α1,Z1,S1,f1⟩
theorem t8:km X κ Φ st mV:=fun aF Z0 H0 ρ Ω pins s σ H E I ⟨α,Z,S,f⟩=>f.elim
theorem lP(hp:PassesOwn (model X.prog X.w) X.A X.env X.xe)(hc:fX X κ Φ e m)(hb:ir X κ Φ tb cb):km X κ Φ (.While e tb [] pos) (qy m cb):=by
 intro aF Z0 H0 ρ Ω;refine PS.imp (uF hp (PT.ex fun p:aU×aD=>hc aF Z0 H0 p.1 p.2) (gZ.ex fun p:aU×aD=>hb aF Z0 H0 p.1 p.2)) ?_
 rintro E σ H ⟨α,Z,S,f⟩;refine⟨fun f σ H=>∃ α Z ρ Ω,b9 κ aF Z0 H0 α Z Ω ρ σ H/\fg κ Φ aF Z0 H0 E (fM m cb f ρ Ω),⟨fuel,α,Z,ρ,Ω,S,f⟩,?_⟩
 rintro f Bl H1 ⟨α1,Z1,xR,ah,S1,f1⟩;cases f with
 | zero=>exact f1.elim
 | succ f=>
  simp only[fM]at f1;refine⟨(xR,ah),α1,Z1,S1,fg.Fy S1 f1 fun t ay H2 α2 Z2 _ g S2 f2 => ?_⟩
  cases t with
  | false=>
   rw[if_neg Bool.false_ne_true]at f2;exact n8 (f2 _ _ _ _ S2)
  | true=>
   rw[if_pos rfl]at f2;refine n9 ⟨fun σ' H'=>∃ α Z ρ Ω,b9 κ aF Z0 H0 α Z Ω ρ σ' H'/\fg κ Φ aF Z0 H0 E (fM m cb f ρ Ω),fun σ' H' q=>⟨f,Nat.lt_succ_self f,q⟩,(xR,ay),α2,Z2,S2,?_⟩
   cases q:cb xR ay with
   | nx cf ao=>rw[q]at f2;exact fun σ' H' α' Z' S'=>⟨α',Z',cf,ao,S',f2⟩
   | ct cf ao=>rw[q]at f2;exact fun σ' H' α' Z' S'=>⟨α',Z',cf,ao,S',f2⟩
   | bk cf ao=>rw[q]at f2;exact f2
   | rt d ao=>rw[q]at f2;exact f2
   | exc x ao=>rw[q]at f2;exact f2
   | bad=>rw[q]at f2;exact f2.elim
def wF(κ:Str->Addr->Prop)(put:D->aU->Option aU)(g:TG):Prop:=
 ∀ (d:D) (x:V) aF Z0 H0 α Z Ω ρ cf σ H (k:L2.St->Hp->Prop),b9 κ aF Z0 H0 α Z Ω ρ σ H->au α Z H d x->put d ρ=some cf->(∀ σ',b9 κ aF Z0 H0 α Z Ω cf σ' H->k σ' H)->g x σ H k
theorem mY{put:D->aU->Option aU}{g:TG}(hp:PassesOwn (model X.prog X.w) X.A X.env X.xe)(hc:X.calm=true)(hi:wt X κ Φ tg e mi)(hg:PG X tg g)(Qz:wF κ put g)(hb:ir X κ Φ tb cb)(hs:∀ x,foldedSetIterable e X.env x=pure x):km X κ Φ (.For tg e tb [] pos) (c_ put mi cb):=by
 intro aF Z0 H0 ρ Ω;have hb':gZ X tb (fun D σ H=>∃ α1 Z1 H1 cf ao,Cn κ Φ α1 Z1 H1 cb cf ao D σ H):=fun pins s σ H D I ⟨α1,Z1,H1,cf,ao,q⟩=>hb α1 Z1 H1 cf ao pins s σ H D I q
 refine PS.imp (Br hp hc (hi aF Z0 H0 ρ Ω) hg hb' hs) ?_;rintro E σ H ⟨α,Z,S,f⟩;refine⟨α,Z,S,?_⟩;simp only[c_]at f;cases qi:mi ρ Ω with
 | exc x ah=>rw[qi]at f;exact fun H1 α1 Z1 g s=>f H1 α1 Z1 (S.gr.trans g) s
 | bad=>rw[qi]at f;exact f.elim
 | ok src ah=>
  rw[qi]at f;have f:fg κ Φ aF Z0 H0 E (eH put src cb fuel 0 ρ ah):=f;intro J H1 α1 Z1 g1 s1 w1;have S1:=S.grow g1 s1;refine⟨fun i f σ H=>∃ α2 Z2 ρ Ω,b9 κ aF Z0 H0 α2 Z2 Ω ρ σ H/\bN α1 Z1 H1 α2 Z2 H/\fg κ Φ aF Z0 H0 E (eH put src cb f i ρ Ω),⟨fuel,α1,Z1,ρ,ah,S1,bN.refl s1.has,f⟩,?_⟩
  rintro i f Ia H2 ⟨α2,Z2,Oo,ay,S2,g2,f2⟩;cases f with
  | zero=>exact f2.elim
  | succ f=>
   simp only[eH]at f2;cases qs:iq src ay with
   | none=>rw[qs]at f2;exact f2.elim
   | some ds=>
    rw[qs]at f2;dsimp only at f2;obtain⟨Lj,Lk⟩:=w1 α2 Z2 ay H2 ds g2 S2.st qs;cases qd:ds[i]? with
    | none=>
     rw[qd]at f2;exact .inl ⟨Lk i (List.getElem?_eq_none_iff.mp qd),f2 Ia H2 α2 Z2 S2⟩
    | some d=>
     rw[qd]at f2;dsimp only at f2;obtain⟨hgo,hyl⟩:=Lj i d qd;cases qp:put d Oo with
     | none=>rw[qp]at f2;exact f2.elim
     | some II=>
      rw[qp]at f2;dsimp only at f2;refine .inr ⟨hgo,fun σ' H'=>∃ α3 Z3 ρ Ω,b9 κ aF Z0 H0 α3 Z3 Ω ρ σ' H'/\bN α1 Z1 H1 α3 Z3 H'/\fg κ Φ aF Z0 H0 E (eH put src cb f (i + 1) ρ Ω),fun σ' H' q=>⟨f,Nat.lt_succ_self f,q⟩,fun x H3 yl => ?_⟩
      obtain⟨Z3,g3,s3,rx⟩:=hyl x H3 yl;have S3:=S2.grow g3 s3;refine Qz d x aF Z0 H0 α2 Z3 ay Oo II Ia H3 _ S3 rx qp fun QA S4 => ?_
      have base:bN aF Z0 H0 α1 Z1 H1:=S1.gr;have gL:bN α1 Z1 H1 α2 Z3 H3:=g2.trans g3;have S5:b9 κ α1 Z1 H1 α2 Z3 ay II QA H3:=⟨S4.st,gL,S4.len,S4.val⟩;have out:∀ {α3 Z4 aP cf σ' H'},b9 κ α1 Z1 H1 α3 Z4 aP cf σ' H'->b9 κ aF Z0 H0 α3 Z4 aP cf σ' H':=fun S'=>⟨S'.st,base.trans S'.gr,S'.len,S'.val⟩
      refine⟨α1,Z1,H1,II,ay,α2,Z3,S5,?_⟩;cases q:cb II ay with
      | nx cf ao=>rw[q]at f2;exact fun σ' H' α' Z' S'=>⟨α',Z',cf,ao,out S',S'.gr,f2⟩
      | ct cf ao=>rw[q]at f2;exact fun σ' H' α' Z' S'=>⟨α',Z',cf,ao,out S',S'.gr,f2⟩
      | bk cf ao=>rw[q]at f2;exact fun σ' H' α' Z' S'=>f2 σ' H' α' Z' (out S')
      | rt d ao=>rw[q]at f2;exact fun v H' α' Z' g s r=>f2 v H' α' Z' (base.trans g) s r
      | exc x ao=>rw[q]at f2;exact fun H' α' Z' g s=>f2 H' α' Z' (base.trans g) s
      | bad=>rw[q]at f2;exact f2.elim
theorem wG(i:Nat):wF κ (bY i) (gF i):=fun d x aF Z0 H0 α Z Ω ρ cf σ H k S r e h=>by
 cases e;exact h _ (S.set r i)
theorem kq:∀ (is:List Nat) (ds:List D) (vs:List V) {ρ:aU} {σ:L2.St},aL (au α Z H) ds vs->ds.length=is.length->b9 κ aF Z0 H0 α Z Ω ρ σ H->∀ (k:L2.St->Hp->Prop),(∀ σ',b9 κ aF Z0 H0 α Z Ω (jq is ds ρ) σ' H->k σ' H)->iH is vs σ H k
 | [],[],vs,ρ,σ,r,_,S,k,h=>by rw[r.nil_inv];exact⟨rfl,h σ S⟩
 | i::is,d::ds,vs,ρ,σ,r,hl,S,k,h=>by
  obtain⟨v,ws,rfl,r1,r2⟩:=r.cons_inv;exact⟨v,ws,rfl,kq is ds ws r2 (by simpa using hl) (S.set r1 i) k h⟩
 | [],_::_,_,_,_,_,hl,_,_,_=>by simp at hl
 | _::_,[],_,_,_,_,hl,_,_,_=>by simp at hl
theorem wH{K:PySem.W.Frag}(is:List Nat):wF κ (kn is) (x_ K is.length (iH is)):=fun d x aF Z0 H0 α Z Ω ρ cf σ H k S r e h=>by
 cases d with
 | tup ds=>
  simp only[kn]at e;split at e
  ·rename_i hl
   cases e;obtain⟨a,vs,rfl,_,h1,h2⟩:=fx r;exact⟨a,vs,rfl,tD (.inl h1),by rw[h2.length];exact hl,kq is ds vs h2 hl S k h⟩
  ·cases e
 | _=>cases e
theorem zy{es:List Expr}{j:Nat}{p pos:Pos}{is:List Nat}(hg:PG X (.Tuple es j p) (x_ X.K is.length (iH is)))(hp:vT e=true)(h:bj X κ Φ e m):km X κ Φ (.Assign [.Tuple es j p] e pos) (Fx is m):=by
 intro aF Z0 H0 ρ Ω;refine PS.imp (Bo (h aF Z0 H0 ρ Ω) hg (by cases e<;>first | rfl | (cases hp)) (by cases e<;>first | rfl | (cases hp))) ?_
 rintro E σ H ⟨α,Z,S,f⟩;refine⟨α,Z,S,fg.use S f fun d ah v H1 α1 Z1 _ g S1 r f1 => ?_⟩
 split at f1
 ·rename_i cf hq
  exact wH (K:=X.K) is d v aF Z0 H0 α1 Z1 ah ρ cf σ H1 _ S1 r hq fun σ' S'=>f1 σ' H1 α1 Z1 S'
 ·exact f1.elim
end
abbrev bb:=List D->aD->av D
def cM(κ:Str->Addr->Prop)(F:bb):Sp:=fun vs H Q _=>∃ α Z Ω ds,bt κ α Z Ω H/\aL (au α Z H) ds vs/\bK κ i5 α Z H (F ds Ω) Q
noncomputable def wJ{β:Type}(r:av β):av β:=match r with
 | .ok d Ω=>.ok d Ω
 | _=>.bad
def aN(F:bb):bb:=fun xs Ω=>wJ (F xs Ω)
structure wK(X:Cx)(κ:Str->Addr->Prop)(k:Nat)(x:Str)(F:bb):Prop where
 ex:∃ (f:Addr) (fd:FuncData) (ps:List Str),X.mg x=some (.ref f)/\PySem.W.keepIn X.K (.ref f)=true/\Binds X.K fd ps []/\bO X.prog X.w X.K X.mg X.base dW k f fd ps (cM κ F)
noncomputable def E8(C:Str)(F:bb)(xs:List D)(Ω:aD):av D:=match F (.ref Ω.length::xs) (Ω++[.ins C []]) with
 | .ok .non ay=>.ok (.ref Ω.length) ay
 | _=>.bad
def Fz(x y v:D)(Ω:aD):Option aD:=match x with
 | .ref k=>match Ω[k]? with
  | some (.dK kvs)=>match Fs y with
   | some ky=>if small (kvs.length + 1) then some (Ω.set k (.dK (Fq kvs ky v))) else none
   | none=>none
  | some (.dT kvs)=>match Ft y with
   | some ky=>if small (kvs.length + 1) then some (Ω.set k (.dT (Fq kvs ky v))) else none
   | none=>none
  | some (.lst ds)=>match y with
   | .int i=>match L2.pN ds.length i with
    | some n=>some (Ω.set k (.lst (ds.set n v)))
    | none=>none
   | _=>none
  | _=>none
 | _=>none
def FA(md mk mv:EM):SM:=fun ρ Ω=>cL (mv ρ Ω) fun v ah=>cL (md ρ ah) fun x ay=>cL (mk ρ ay) fun y aP=>match Fz x y v aP with
 | some er=>.nx ρ er
 | none=>.bad
section
variable{X:Cx}{κ:Str->Addr->Prop}{Φ:fK}{α α' aF α1:List Addr}{Z Z' Z0 Z1:Addr->Prop}{Ω ao:aD}{H H' H0 H1:Hp}{ρ:aU}{σ:L2.St}{Q:VK}{E:Ends}{a b e ce o tg:Expr}{es:List Expr}{st:Stmt}{rest ta tb:List Stmt}{m mo mv ma md mk:EM}{as:AM}{ca cb:SM}{pos pos' p apos:Pos}{F:bb}{C:Str}
theorem bK.ok0{r:av D}(h:bK κ Φ α Z H (wJ r) Q):bK κ i5 α Z H r Q:=by
 cases r with
 | ok d Ω=>exact h
 | exc x Ω=>exact h.elim
 | bad=>exact h
theorem wL{k:Nat}{x:Str}(F0:wK X κ k x F)(hr:bJ k X.A)(hg:Gl X x)(hdb:(x == ("__debug__":Str))=false)
  (he:starEach (e::es) X.env=(false,eval e X.env)::starEach es X.env) (hpl:(backTo pos (starEach es X.env)).any (·.1)=false) (ha:qr X κ Φ (e::es) as) :
  bj X κ Φ (.Call (.Name x p) (e::es) [] pos) (mN (aN F) as):=by
 obtain⟨f,fd,ps,hm,hk,hb,F1⟩:=F0.ex;intro aF Z0 H0 ρ Ω;refine PE.imp (jj F1 hr hg hm hk hb .nil q_ (ha aF Z0 H0 ρ Ω) hdb he hpl) ?_;rintro σ H Q ⟨α,Z,S,g⟩;refine⟨α,Z,S,oJ.use g fun xs ah _ vs H1 α1 Z1 g1 s1 r1 k1 => ?_⟩
 show cM κ F (vs++[]) H1 Q E0
 rw[List.append_nil];exact⟨α1,Z1,ah,xs,s1,r1,bK.ok0 k1⟩
theorem t9{k:Nat}{x:Str}(F0:wK X κ k x F)(hr:bJ k X.A)(hg:Gl X x)(hdb:(x == ("__debug__":Str))=false):bj X κ Φ (.Call (.Name x p) [] [] pos) (mN (aN F) ag):=by
 obtain⟨f,fd,ps,hm,hk,hb,F1⟩:=F0.ex;intro aF Z0 H0 ρ Ω;refine PE.imp (uQ F1 hr hg hm hk hb .nil q_ hdb) ?_;rintro σ H Q ⟨α,Z,S,g⟩;exact⟨α,Z,Ω,[],S.st,.nil,bK.ok0 g⟩
def wM(K:PySem.W.Frag)(κ:Str->Addr->Prop)(Cs:List Str)(f:Str):Prop:=∀ C Ca,Cs.contains C=true->κ C Ca->DT K Ca/\fk K Ca f
structure FC(X:Cx)(κ:Str->Addr->Prop)(k:Nat)(C m:Str)(F:bb):Prop where
 ex:∃ (Ca f:Addr) (fd:FuncData) (ps:List Str),(∀ a,κ C a->a=Ca)/\DT X.K Ca/\Meth X.K Ca m f/\Binds X.K fd ps []/\bO X.prog X.w X.K X.mg X.base dW k f fd ps (cM κ F)
structure FD(X:Cx)(κ:Str->Addr->Prop)(k:Nat)(C:Str)(F:bb):Prop where
 ex:∃ (Ca f:Addr) (fd:FuncData) (ps:List Str),κ C Ca/\Mk X.K Ca f/\X.mg C=some (.ref Ca)/\Binds X.K fd ps []/\bO X.prog X.w X.K X.mg X.base dW k f fd ps (cM κ F)
noncomputable def aS(n:Nat)(ds:List D):aU:=ds.map some++List.replicate (n - ds.length) none
noncomputable def fy:gD->av D
 | .rt d Ω=>.ok d Ω
 | .nx _ Ω=>.ok .non Ω
 | .exc x Ω=>.exc x Ω
 | _=>.bad
def bu(n k:Nat)(c:SM):bb:=fun ds Ω=>if ds.length=k then fy (c (aS n ds) Ω) else .bad
theorem ei{ds:List D}{vs:List V}{N:List Str}(S:bt κ α Z Ω H)(r:aL (au α Z H) ds vs):b9 κ α Z H α Z Ω (aS N.length ds) (L2.start N vs) H where
 st:=S
 gr:=bN.refl S.has
 len:=by simp[aS,L2.start,r.length]
 val:=fun i d hi=>by
  unfold aS at hi
  by_cases h:i < ds.length
  ·rw[List.getElem?_append_left (by simpa using h),List.getElem?_map]at hi
   obtain⟨d',h1,h2⟩:=Option.map_eq_some_iff.mp hi;cases h2;obtain⟨v,h3,h4⟩:=r.get h1;refine⟨v,?_,h4⟩;unfold L2.start;rw[List.getElem?_append_left (by simpa[r.length] using h),List.getElem?_map,h3]
   rfl
  ·rw[List.getElem?_append_right (by simpa using h),List.getElem?_replicate]at hi
   split at hi<;>cases hi
end
structure oQ(P:Program)(w:World)(K:PySem.W.Frag)(mg:Str->Option Value)(base:Heap)(κ:Str->Addr->Prop)(k:Nat)(j:Nat)(F:List D->bb):Prop where
 run:∀ (X:Cx) (f:Addr) (vs:List V) (σ:L2.St) (H:Hp) (Q:VK) (α:List Addr) (Z:Addr->Prop) (Ω:aD) (mI ds:List D) (n:Nat),X.prog=P->X.w=w->X.K=K->X.mg=mg->X.base=base->bJ k X.A ->
  bt κ α Z Ω H->α[n]?=some f->Ω[n]?=some (.fn j mI)->aL (au α Z H) ds vs->bK κ i5 α Z H (F mI ds Ω) Q->EO X f vs σ H Q
theorem oQ.mono{P:Program}{w:World}{K:PySem.W.Frag}{mg:Str->Option Value}{base:Heap}{κ:Str->Addr->Prop}{k k' j:Nat}{F:List D->bb}(h:oQ P w K mg base κ k j F)(hk:k<=k'):oQ P w K mg base κ k' j F:=
 ⟨fun X f vs σ H Q α Z Ω mI ds n e1 e2 e3 e4 e5 hr=>h.run X f vs σ H Q α Z Ω mI ds n e1 e2 e3 e4 e5 (hr.mono hk)⟩
def QC(M:List (List D->bb))(n:Nat)(xs:List D)(Ω:aD):av D:=match Ω[n]? with
 | some (.fn j mI)=>match M[j]? with
  | some F=>aN (F mI) xs Ω
  | none=>.bad
 | _=>.bad
noncomputable def isFn(Ω:aD)(n:Nat):Bool:=match Ω[n]? with
 | some (.fn _ _)=>true
 | _=>false
def Co(M:List (List D->bb))(i:Nat)(as:AM):EM:=fun ρ Ω=>match ρ[i]? with
 | some (some (.ref n))=>if isFn Ω n=true then (as ρ Ω).bind fun xs ah=>QC M n xs ah else .bad
 | _=>.bad
section
variable{X:Cx}{κ:Str->Addr->Prop}{Φ:fK}{α α' aF:List Addr}{Z Z' Z0:Addr->Prop}{Ω ao:aD}{H H' H0:Hp}{ρ:aU}{σ:L2.St}
end
noncomputable def aa(i:Nat):EM:=fun ρ Ω=>match ρ[i]? with | some (some d)=>.ok d Ω | _=>.bad
noncomputable def ae(d:D):EM:=fun _ Ω=>.ok d Ω
noncomputable def o2{α β γ:Type}(x:Option α)(y:Option β)(k:α->β->γ):Option γ:=match x,y with
 | some a,some b=>some (k a b)
 | _,_=>none
theorem bp{α β γ:Type}{x:Option α}{y:Option β}{k:α->β->γ}{z:γ}(h:o2 x y k=some z):∃ a b,x=some a/\y=some b/\z=k a b:=by
 unfold o2 at h;split at h
 ·cases h;exact⟨_,_,rfl,rfl,rfl⟩
 ·cases h
theorem cg{α β:Type}{x:Option α}{k:α->β}{z:β}(h:x.map k=some z):∃ a,x=some a/\z=k a:=by
 cases x with
 | none=>cases h
 | some a=>cases h;exact⟨a,rfl,rfl⟩
structure aY where
 iu:List (Str×(List D->Out Rs)):=[]
 fn:List (Str×bb):=[]
 cst:List (Str×D):=[]
 met:List (Str×Str×bb):=[]
 cls:List (Str×bb):=[]
 fld:List (Str×List Str):=[]
 clo:List (List D->bb):=[]
 fz:List Str:=[]
 xt:Bool:=false
def mZ(T:aY)(sc:Scope)(N:List Str)(x:Str):Option EM:=
 match lF sc N x with
 | some i=>some (aa i)
 | none=>if oA sc x && okN x then (T.cst.lookup x).map ae else none
def kr:Const->Option EM
 | .none=>some (ae .non)
 | .bool b=>some (ae (.bl b))
 | .int i=>some (ae (.int i))
 | .str x=>some (ae (.str x))
 | _=>none
def dH(f:Expr->Option EM):List Expr->Option AM
 | []=>some ag
 | e::es=>o2 (f e) (dH f es) U
def QD(op:BoolOp)(a b:EM):EM:=match op with
 | .And=>cJ a b
 | .Or=>fh a b
def iv(f:Expr->Option EM)(op:BoolOp):List Expr->Option EM
 | []=>none
 | [a]=>f a
 | a::b::r=>o2 (f a) (iv f op (b::r)) (QD op)
def qz(f:Expr->Option EM):Option Expr->Option (Bool×EM)
 | none=>some (true,ae .non)
 | some e=>(f e).map fun m=>(false,m)
inductive BM where
 | append | clear | oR | index | join
noncomputable def BM.nm:BM->Str
 | .append=>"append" | .clear=>"clear" | .oR=>"pop" | .index=>"index" | .join=>"join"
noncomputable def BM.ar:BM->Nat
 | .append=>1 | .clear=>0 | .oR=>1 | .index=>1 | .join=>1
def BM.ty:BM->aD->D->Bool
 | .join=>wj
 | _=>fL
def BM.f:BM->D->List D->aD->av D
 | .append=>bB | .clear=>gf | .oR=>gh | .index=>cC | .join=>ki
def Cp(m:Str)(n:Nat):Option BM:=[BM.append,.clear,.oR,.index,.join].find? fun b=>b.nm == m && b.ar == n
def m4(T:aY)(m:Str)(n:Nat)(mo:EM)(as:AM):Option EM:=(Cp m n).map fun b=>bP b.ty b.f mo as
noncomputable def ku:Expr->Bool
 | .Name .. | .Attribute .. | .Constant (.str _) ..=>true
 | _=>false
def qA(x:Str):Option h8:=[h8.len,h8.all,h8.any,h8.list,h8.tuple,h8.int,h8.min].find? (fun b=>b.nm == x)
theorem zz{x:Str}{b:h8}(h:qA x=some b):x=b.nm/\b∈[h8.len,h8.all,h8.any,h8.list,h8.tuple,h8.int,h8.min]/\b.nm∈cZ:=by
 unfold qA at h;have h1:=List.find?_some h;have h2:=List.mem_of_find?_eq_some h;refine⟨(eq_of_beq h1).symm,h2,?_⟩;cases b<;>first | (simp at h2;done) | decide
def m5(T:aY)(sc:Scope)(f:Expr->Option EM)(x:Str)(args:List Expr):Option EM:=
 if oA sc x && okN x then
  match T.fn.lookup x,T.iu.lookup x,qA x with
  | some F,_,_=>(dH f args).map (mN (aN F))
  | none,some F,_=>if args.isEmpty then none else (dH f args).map (mN (aV F))
  | none,none,some b=>if args.isEmpty then none else (dH f args).map (mN (aW b))
  | none,none,none=>none
 else none
def jr(T:aY)(sc:Scope)(N:List Str)(f:Expr->Option EM)(x:Str)(args:List Expr):Option EM:=match lF sc N x with
 | some _=>none
 | none=>m5 T sc f x args
def wN(sc:Scope):List Expr->Option (Expr×Ty×Pos)
 | [a,.Name t p]=>match vP t with
  | some ty=>if oA sc t then some (a,ty,p) else none
  | none=>none
 | _=>none
theorem t_{sc:Scope}{args:List Expr}{a:Expr}{ty:Ty}{p:Pos}(h:wN sc args=some (a,ty,p)):args=[a,.Name ty.nm p]/\oA sc ty.nm=true/\ty.nm∈cZ:=by
 unfold wN at h;split at h
 ·split at h
  ·rename_i S7 hty
   split at h
   ·rename_i hg
    cases h;obtain⟨rfl,m⟩:=Fc hty;exact⟨rfl,hg,m⟩
   ·cases h
  ·cases h
 ·cases h
def oS(sc:Scope)(f:Expr->Option EM)(x:Str)(args:List Expr):Option EM:=if x == ("isinstance":Str) && oA sc x then match wN sc args with
 | some (a,ty,_)=>(f a).map (m1 (bG ty))
 | none=>none else none
def gi(f:Expr->Option EM)(sc:Scope)(iter:Expr):Option IM:=match iter with
 | .Call (.Name g _) args [] _=>if g == ("range":Str) then (if oA sc g then (match args with
   | [a]=>(dH f [a]).map bz
   | _=>none) else none) else (f iter).map cK
 | _=>(f iter).map cK
def wO(f:Expr->Option EM):List Expr->Option (Bool×EM)
 | []=>some (true,ae .non)
 | [c]=>(f c).map fun m=>(false,m)
 | _=>none
def cj(T:aY):Nat->Scope->List Str->Expr->Option EM
 | 0,_,_,_=>none
 | n + 1,sc,N,e=>match e with
  | .Name x _=>mZ T sc N x
  | .Constant c _ _=>kr c
  | .BinOp a op b _=>o2 (cj T n sc N a) (cj T n sc N b) (m2 (az op))
  | .UnaryOp .USub a _=>(cj T n sc N a).map (m1 qv)
  | .UnaryOp .Not a _=>(cj T n sc N a).map bX
  | .BoolOp op (a::b::r) _=>iv (cj T n sc N) op (a::b::r)
  | .Compare a [op] [b] _=>if isSet b then none else o2 (cj T n sc N a) (cj T n sc N b) (m2 (ax op))
  | .Compare a [op,op'] [b,c] _=>if isSet c then none else o2 (cj T n sc N a) (o2 (cj T n sc N b) (cj T n sc N c) Prod.mk) fun x y=>gC op op' x y.1 y.2
  | .IfExp t a b _=>o2 (cj T n sc N t) (o2 (cj T n sc N a) (cj T n sc N b) Prod.mk) fun x y=>DX x y.1 y.2
  | .Subscript a (.Slice lo hi none _) _=>o2 (cj T n sc N a) (o2 (qz (cj T n sc N) lo) (qz (cj T n sc N) hi) Prod.mk) fun x y=>br x y.1.1 y.1.2 y.2.1 y.2.2
  | .Subscript a b _=>if isSlice b then none else o2 (cj T n sc N a) (cj T n sc N b) (m2 aA)
  | .List es _=>(dH (cj T n sc N) es).map (mN cm)
  | .Tuple es _ _=>(dH (cj T n sc N) es).map (mN ik)
  | .Call (.Name x _) args [] _=>match oS sc (cj T n sc N) x args with
   | some m=>some m
   | none=>jr T sc N (cj T n sc N) x args
  | .Call (.Attribute o m p1) args [] p2=>if p1.endLine == p2.line && ku o && decide (args.length < 20) then (match cj T n sc N o,dH (cj T n sc N) args with
   | some mo,some as=>m4 T m args.length mo as
   | _,_=>none) else none
  | .ListComp elt gens scope _=>match j0 gens with
   | some (x,_,iter,ifs)=>if vQ scope sc x && !isSet iter then (match qo sc N (cS scope),gi (cj T n sc N) sc iter,cj T n (qk scope sc) (x::cS scope) elt,wO (cj T n (qk scope sc) (x::cS scope)) ifs with
    | some cap,some mi,some me,some (nc,mc)=>some (cp me nc mc mi 0 cap)
    | _,_,_,_=>none) else none
   | none=>none
  | _=>none
structure GoodO(X:Cx)(κ:Str->Addr->Prop)(T:aY)(k:Nat)(sc:Scope)(N:List Str):Prop where
 scope:X.env.scope=sc
 names:X.N=N
 calm:X.calm=true
 room:bJ k X.A
 cN:∀ x∈cZ,X.mg x=none
 iu:∀ x F,T.iu.lookup x=some F->E5 X k x F
 fn:∀ x F,T.fn.lookup x=some F->wK X κ k x F
 cst:∀ x d,T.cst.lookup x=some d->∃ v u,X.mg x=some u/\RelV v u/\eX d=some v
 met:∀ m C F,(m,C,F)∈T.met->FC X κ k C m F
 cls:∀ C F,T.cls.lookup C=some F->∃ j,j + 1<=k/\FD X κ j C F
 fld:∀ f Cs,T.fld.lookup f=some Cs->wM X.K κ Cs f
 clo:∀ j F,T.clo[j]?=some F->oQ X.prog X.w X.K X.mg X.base κ k j F
theorem GoodO.gl{X:Cx}{κ:Str->Addr->Prop}{T:aY}{k:Nat}{sc:Scope}{N:List Str}{x:Str}(G:GoodO X κ T k sc N)(h:oA sc x=true):Gl X x:=by
 unfold oA at h;have e:=eq_of_beq h
 show X.env.scope.names.lookup x=some .globalImplicit
 rw[G.scope];exact e
theorem GoodO.hu{X:Cx}{κ:Str->Addr->Prop}{T:aY}{k:Nat}{sc:Scope}{N:List Str}(G:GoodO X κ T k sc N):X.A.units + 64 < cLine:=G.room.units
theorem GoodO.blk{X:Cx}{κ:Str->Addr->Prop}{T:aY}{k:Nat}{sc:Scope}{N:List Str}(G:GoodO X κ T k sc N)(scope:Scope)(cl:List (Str×Addr))(C:Addr)(N':List Str)(s₀:Shared)(H₀:Hp)(fp:List Addr):GoodO (blk X scope cl C N' s₀ H₀ fp) κ T k (qk scope sc) N' where
 scope:=by rw[← G.scope];rfl
 names:=rfl
 calm:=G.calm
 room:=G.room
 cN:=G.cN
 iu:=fun x F h=>⟨(G.iu x F h).ex⟩
 fn:=fun x F h=>⟨(G.fn x F h).ex⟩
 cst:=G.cst
 met:=fun m C F h=>⟨(G.met m C F h).ex⟩
 cls:=fun C F h=>let ⟨j,h1,h2⟩:=G.cls C F h;⟨j,h1,⟨h2.ex⟩⟩
 fld:=G.fld
 clo:=G.clo
def kN(X:Cx)(κ:Str->Addr->Prop)(e:Expr)(m:EM):Prop:=(∀ Φ,bj X κ Φ e m)/\(∀ Φ,fX X κ Φ e m)/\isStar e=false
section
variable{X:Cx}{κ:Str->Addr->Prop}{T:aY}{k:Nat}{sc:Scope}{N:List Str}{f:Expr->Option EM}
theorem bT{e:Expr}{m:EM}(h:∀ Φ,bj X κ Φ e m)(hs:isStar e=false)(he:∀ whole,isTrue e X.env whole=(do let v ← whole;standAt e.pos;holding [v] (truthy v))):kN X κ e m:=⟨h,fun Φ=>zc (h Φ) he,hs⟩
theorem cT(hf:∀ e m,f e=some m->kN X κ e m):∀ {es:List Expr} {as:AM},dH f es=some as->(∀ Φ,qr X κ Φ es as)/\(∀ e∈es,isStar e=false)
 | [],as,h=>by cases h;exact⟨fun Φ=>mL,fun e he=>absurd he (by simp)⟩
 | e::es,as,h=>by
  obtain⟨m,as',h1,h2,rfl⟩:=bp h;obtain⟨p1,_,p3⟩:=hf e m h1;obtain⟨q1,q2⟩:=cT hf h2;refine⟨fun Φ=>ka (p1 Φ) (q1 Φ) (bV p3),fun z hz => ?_⟩
  rcases List.mem_cons.mp hz with rfl | hz
  ·exact p3
  ·exact q2 z hz
theorem wQ(G:GoodO X κ T k sc N){x:Str}{pos:Pos}{m:EM}(h:mZ T sc N x=some m):kN X κ (.Name x pos) m:=by
 unfold mZ at h;split at h
 ·rename_i i q
  cases h;obtain⟨h1,h2,h3,h4⟩:=rG q;exact bT (fun Φ=>yZ (by rw[G.names];exact h1) (by rw[G.scope];exact h2) h3 h4) rfl (fun _=>rfl)
 ·split at h
  ·rename_i hc
   simp only[Bool.and_eq_true]at hc;obtain⟨d,h3,rfl⟩:=cg h;obtain⟨v,u,e2,e3,e4⟩:=G.cst x d h3;obtain⟨n1,n2,n3⟩:=rH hc.2;exact bT (fun Φ=>ig (xW (G.gl hc.1) e2 e3 n1) e4) rfl (fun _=>rfl)
  ·cases h
theorem ua{q:Const}{j:Nat}{pos:Pos}{m:EM}(h:kr q=some m):kN X κ (.Constant q j pos) m:=by
 cases q<;>simp only[kr]at h<;>cases h
 ·exact bT (fun Φ=>ig uB rfl) rfl (fun _=>rfl)
 ·exact bT (fun Φ=>ig Ay rfl) rfl (fun _=>rfl)
 ·exact bT (fun Φ=>ig Bh rfl) rfl (fun _=>rfl)
 ·exact bT (fun Φ=>ig Bi rfl) rfl (fun _=>rfl)
theorem oU{op:BoolOp}{pos:Pos}(hf:∀ e m,f e=some m->kN X κ e m):∀ {es:List Expr} {m:EM},iv f op es=some m->(∀ Φ,bj X κ Φ (.BoolOp op es pos) m)/\(∀ Φ,AR X κ Φ (.BoolOp op es pos) m)
 | [],m,h=>by cases h
 | [a],m,h=>by
  obtain⟨p1,p2,p3⟩:=hf a m h;exact⟨fun Φ=>lO (p1 Φ),fun Φ=>zf (p2 Φ)⟩
 | a::b::r,m,h=>by
  simp only[iv]at h;obtain⟨ma,mb,h1,h2,rfl⟩:=bp h;obtain⟨p1,p2,p3⟩:=hf a ma h1;obtain⟨q1,q2⟩:=oU hf h2;cases op with
  | And=>exact⟨fun Φ=>rS (p1 Φ) (q1 Φ),fun Φ=>zg (p2 Φ) (q2 Φ)⟩
  | Or=>exact⟨fun Φ=>Cb (p1 Φ) (q1 Φ),fun Φ=>Cc (p2 Φ) (q2 Φ)⟩
theorem oV(hf:∀ e m,f e=some m->kN X κ e m){o:Option Expr}{n:Bool}{m:EM}{Φ:fK}(h:qz f o=some (n,m)):IG X κ Φ o n m:=by
 cases o with
 | none=>cases h;exact .inl ⟨rfl,rfl⟩
 | some e=>
  obtain⟨a,h1,h2⟩:=cg h;cases h2;exact .inr ⟨e,rfl,rfl,(hf e m h1).1 Φ⟩
theorem zA{m:Str}{n:Nat}{b:BM}(h:Cp m n=some b):m=b.nm/\n=b.ar:=by
 have:=List.find?_some h;simp only[Bool.and_eq_true,beq_iff_eq]at this;exact⟨this.1.symm,this.2.symm⟩
theorem iw{o:Expr}{n:Str}{env:Env}(h:ku o=true):attributeBase o n env (eval o env)=eval o env:=by
 cases o<;>first | rfl | (cases h)
theorem FE(hu:X.A.units + 64 < cLine)(b:BM){o:Expr}{es:List Expr}{mo:EM}{as:AM}{p1 p2:Pos}{Φ:fK}(hb:ku o=true)(hl:(p1.endLine == p2.line)=true)(hn:es.length=b.ar)(ho:bj X κ Φ o mo)(ha:dH f es=some as)(hf:∀ e m,f e=some m->kN X κ e m) :
  bj X κ Φ (.Call (.Attribute o b.nm p1) es [] p2) (bP b.ty b.f mo as):=by
 obtain⟨a1,a2⟩:=cT hf ha;have a1:=a1 Φ;cases b with
 | append=>
  match es,hn with
  | [e],_=>exact mU PySem.F.plainAttrs_list PySem.F.slot_list_append PySem.F.type_list_append lu (fun x v α Z Ω H S r h=>mT S r h) (fun x v xs vs α Z Ω H Q S r rs g=>tX S r rs g) (iw hb) hl ho a1 a2 (by simp)
 | clear=>
  match es,hn with
  | [],_=>cases ha;exact zp PySem.F.plainAttrs_list PySem.F.slot_list_clear PySem.F.type_list_clear uY (fun x v α Z Ω H S r h=>mT S r h) (fun x v xs vs α Z Ω H Q S r rs g=>wm S r rs g) (iw hb) hl ho
 | oR=>
  match es,hn with
  | [e],_=>exact mU PySem.F.plainAttrs_list PySem.F.slot_list_pop PySem.F.type_list_pop uW (fun x v α Z Ω H S r h=>mT S r h) (fun x v xs vs α Z Ω H Q S r rs g=>wo S r rs g) (iw hb) hl ho a1 a2 (by simp)
 | index=>
  match es,hn with
  | [e],_=>exact mU PySem.F.plainAttrs_list PySem.F.slot_list_index PySem.F.type_list_index (vG hu) (fun x v α Z Ω H S r h=>mT S r h) (fun x v xs vs α Z Ω H Q S r rs g=>wq S r rs g) (iw hb) hl ho a1 a2 (by simp)
 | join=>
  match es,hn with
  | [e],_=>exact mU PySem.F.plainAttrs_str PySem.F.slot_str_join PySem.F.type_str_join yK (fun x v α Z Ω H S r h=>zo S r h) (fun x v xs vs α Z Ω H Q S r rs g=>zq S r rs g) (iw hb) hl ho a1 a2 (by simp)
theorem wR(G:GoodO X κ T k sc N){o:Expr}{m:Str}{es:List Expr}{mo:EM}{as:AM}{p1 p2:Pos}{Φ:fK}{x:EM}(hb:ku o=true)(hl:(p1.endLine == p2.line)=true)(hlen:es.length < 20)(ho:bj X κ Φ o mo)(ha:dH f es=some as)(hf:∀ e m,f e=some m->kN X κ e m)
  (h:m4 T m es.length mo as=some x):bj X κ Φ (.Call (.Attribute o m p1) es [] p2) x:=by
 have one:∀ b,Cp m es.length=some b->bj X κ Φ (.Call (.Attribute o m p1) es [] p2) (bP b.ty b.f mo as):=fun b hbm=>by
  obtain⟨rfl,hn⟩:=zA hbm;exact FE G.hu b hb hl hn ho ha hf
 obtain⟨b,h1,rfl⟩:=cg h;exact one b h1
theorem wU(G:GoodO X κ T k sc N)(hf:∀ e m,f e=some m->kN X κ e m){x:Str}{args:List Expr}{m:EM}{p pos:Pos}(h:m5 T sc f x args=some m):kN X κ (.Call (.Name x p) args [] pos) m:=by
 refine bT (fun Φ => ?_) rfl (fun _=>rfl)
 unfold m5 at h;split at h
 ·rename_i hc
  simp only[Bool.and_eq_true]at hc;obtain⟨n1,n2,n3⟩:=rH hc.2;have hg:=G.gl hc.1;split at h
  ·rename_i F hF
   obtain⟨as,ha,rfl⟩:=cg h;obtain⟨q1,q2⟩:=cT hf ha;cases args with
   | nil=>cases ha;exact t9 (G.fn x F hF) G.room hg n1
   | cons a args=>exact wL (G.fn x F hF) G.room hg n1 (bV (q2 a (by simp))) (de fun z hz=>q2 z (by simp[hz])) (q1 Φ)
  ·rename_i F _ hF
   split at h
   ·cases h
   ·rename_i hne
    obtain⟨as,ha,rfl⟩:=cg h;obtain⟨q1,q2⟩:=cT hf ha;cases args with
    | nil=>exact absurd rfl hne
    | cons a args=>exact tU (G.iu x F hF) G.room hg n1 (bV (q2 a (by simp))) (de fun z hz=>q2 z (by simp[hz])) (q1 Φ)
  ·rename_i b _ _ hb
   split at h
   ·cases h
   ·rename_i hne
    obtain⟨as,ha,rfl⟩:=cg h;obtain⟨q1,q2⟩:=cT hf ha;obtain⟨rfl,b1,b2⟩:=zz hb;cases args with
    | nil=>exact absurd rfl hne
    | cons a args=>exact zl G.calm b1 hg (G.cN _ b2) (bV (q2 a (by simp))) (de fun z hz=>q2 z (by simp[hz])) (q1 Φ)
  ·cases h
 ·cases h
theorem wV(G:GoodO X κ T k sc N)(hf:∀ e m,f e=some m->kN X κ e m){x:Str}{args:List Expr}{m:EM}{p pos:Pos}(h:jr T sc N f x args=some m):kN X κ (.Call (.Name x p) args [] pos) m:=by
 unfold jr at h;cases hs:lF sc N x with
 | none=>rw[hs]at h;exact wU G hf h
 | some i=>
  rw[hs]at h;cases h
theorem zB(G:GoodO X κ T k sc N)(hf:∀ e m,f e=some m->kN X κ e m){x:Str}{args:List Expr}{m:EM}{p pos:Pos}(h:oS sc f x args=some m):kN X κ (.Call (.Name x p) args [] pos) m:=by
 unfold oS at h;split at h
 ·rename_i hx
  simp only[Bool.and_eq_true,beq_iff_eq]at hx;obtain⟨rfl,hg⟩:=hx;split at h
  ·rename_i a ty pt hi
   obtain⟨rfl,h1,h2⟩:=t_ hi;obtain⟨ma,h3,rfl⟩:=cg h;obtain⟨q1,_,q3⟩:=hf a ma h3;exact bT (fun Φ=>zm (G.gl hg) (G.cN _ (by decide)) (G.gl h1) (G.cN _ h2) (bV q3) (de (es:=[Expr.Name ty.nm pt]) fun z hz=>by simp at hz;subst hz;rfl) (q1 Φ)) rfl (fun _=>rfl)
  ·cases h
 ·cases h
theorem kz(G:GoodO X κ T k sc N)(hf:∀ e m,f e=some m->kN X κ e m){iter:Expr}{mi:IM}(h:gi f sc iter=some mi):∀ Φ tg,wt X κ Φ tg iter mi:=by
 intro Φ tg
 have dflt:∀ {mi},(f iter).map cK=some mi->wt X κ Φ tg iter mi:=fun {mi} h=>by
  obtain⟨m,h1,rfl⟩:=cg h;exact zv ((hf iter m h1).1 Φ)
 unfold gi at h;split at h
 ·rename_i g p args pos
  split at h
  ·rename_i hr
   obtain rfl:=eq_of_beq hr;split at h
   ·rename_i hg
    split at h
    ·rename_i a
     obtain⟨as,h1,rfl⟩:=cg h;obtain⟨q1,q2⟩:=cT hf h1;exact wx (G.gl hg) (G.cN _ (by decide)) (q1 Φ) (by rw[bV (q2 a (by simp))];rfl)
    ·cases h
   ·cases h
  ·exact dflt h
 ·exact dflt h
end
section
variable{κ:Str->Addr->Prop}{T:aY}{k:Nat}
theorem zC{X:Cx}{sc:Scope}{N:List Str}(G:GoodO X κ T k sc N){scope:Scope}{x:Str}{cap:List Nat}(hb:vQ scope sc x=true)(hc:qo sc N (cS scope)=some cap) :
  iX X scope [x] (cS scope) cap/\scope.names.lookup x=some .local/\([x]++cS scope).Nodup:=by
 simp only[vQ,Bool.and_eq_true,decide_eq_true_eq,List.all_eq_true,Bool.not_eq_true',beq_iff_eq,Bool.or_eq_true]at hb;obtain⟨⟨⟨⟨⟨h1,h2⟩,h3⟩,h4⟩,h5⟩,h6⟩:=hb;obtain⟨c1,c2⟩:=vS hc
 have fr:∀ y∈scope.names,y.2=.free->(sc.names.lookup y.1=some .cell\/sc.names.lookup y.1=some .free)/\scope.names.lookup y.1=some .free:=fun y hy hk=>by
  rcases h4 y hy with q | q
  ·rw[hk]at q;exact absurd q (by decide)
  ·exact q
 refine⟨⟨h1,fun y hy hk => ?_,fun y hy hk => ?_,fun y hy hk => ?_,c1,fun j i z e1 e2 => ?_⟩,h5,h6⟩
 ·have:=h2 y hy
  rw[hk]at this;exact absurd this (by decide)
 ·rcases h3 y hy with q | q
  ·rw[hk]at q;exact absurd q (by decide)
  ·exact q
 ·have:=(fr y hy hk).1
  show X.env.scope.names.lookup y.1=_\/X.env.scope.names.lookup y.1=_
  rw[G.scope];exact this
 ·refine⟨by rw[G.names];exact c2 j i z e1 e2,?_⟩
  have hm:z∈cS scope:=List.mem_of_getElem? e1;unfold cS at hm;obtain⟨y,hy,rfl⟩:=List.mem_map.mp hm;obtain⟨hy1,hy2⟩:=List.mem_filter.mp hy;exact(fr y hy1 (by simpa using hy2)).2
theorem kB{T:aY}{sc:Scope}{N:List Str}{n:Nat}{elt:Expr}{gens:List Comprehension}{scope:Scope}{pos:Pos}{m:EM}{P:Prop}(hg:j0 gens=none)(h:cj T (n + 1) sc N (.ListComp elt gens scope pos)=some m):P:=by
 replace h:(match j0 gens with
   | some (x,_,iter,ifs)=>if (vQ scope sc x && !isSet iter)=true then (match qo sc N (cS scope),gi (cj T n sc N) sc iter,cj T n (qk scope sc) (x::cS scope) elt,wO (cj T n (qk scope sc) (x::cS scope)) ifs with
    | some cap,some mi,some me,some (nc,mc)=>some (cp me nc mc mi 0 cap)
    | _,_,_,_=>none) else none
   | none=>none)=some m:=h
 rw[hg]at h;cases h
theorem i6{n:Nat}(hf:∀ (X:Cx) (sc:Scope) (N:List Str) (e:Expr) (m:EM),GoodO X κ T k sc N->cj T n sc N e=some m->kN X κ e m){X:Cx}{sc:Scope}{N:List Str}(G:GoodO X κ T k sc N){scope:Scope}{x:Str}{iter elt:Expr}{ifs:List Expr}{px pos:Pos}{m:EM}
  (h:cj T (n + 1) sc N (.ListComp elt [⟨.Name x px,iter,ifs,0⟩] scope pos)=some m):∃ me nc mc mi cap,m=cp me nc mc mi 0 cap/\iX X scope [x] (cS scope) cap/\scope.names.lookup x=some .local/\([x]++cS scope).Nodup /\
   (∀ z,foldedSetIterable iter X.env z=pure z)/\(∀ Φ,wt X κ Φ (.Name x px) iter mi) /\
   ∀ cl C s₀ H₀ fp,((ifs=[]/\nc=true)\/∃ c,ifs=[c]/\nc=false/\fX (blk X scope cl C ([x]++cS scope) s₀ H₀ fp) κ i5 c mc)/\bj (blk X scope cl C ([x]++cS scope) s₀ H₀ fp) κ i5 elt me:=by
 replace h:(if (vQ scope sc x && !isSet iter)=true then (match qo sc N (cS scope),gi (cj T n sc N) sc iter,cj T n (qk scope sc) (x::cS scope) elt,wO (cj T n (qk scope sc) (x::cS scope)) ifs with
    | some cap,some mi,some me,some (nc,mc)=>some (cp me nc mc mi 0 cap)
    | _,_,_,_=>none) else none)=some m:=h
 split at h
 ·rename_i hc
  simp only[Bool.and_eq_true,Bool.not_eq_true']at hc;split at h
  ·rename_i cap mi me nc mc h1 h2 h3 h4
   cases h;obtain⟨b1,b2,b3⟩:=zC G hc.1 h1;refine⟨me,nc,mc,mi,cap,rfl,b1,b2,b3,ib hc.2,fun Φ=>kz G (hf X sc N · · G) h2 Φ _,fun cl C s₀ H₀ fp => ?_⟩
   have G':=G.blk scope cl C ([x]++cS scope) s₀ H₀ fp;refine⟨?_,(hf _ _ _ elt me G' h3).1 i5⟩
   match ifs,h4 with
   | [],h4=>cases h4;exact .inl ⟨rfl,rfl⟩
   | [c'],h4=>
    obtain⟨a,q1,q2⟩:=cg h4;cases q2;exact .inr ⟨c',rfl,rfl,(hf _ _ _ c' mc G' q1).2.1 i5⟩
  ·cases h
 ·cases h
theorem ej:∀ (n:Nat) (X:Cx) (sc:Scope) (N:List Str) (e:Expr) (m:EM),GoodO X κ T k sc N->cj T n sc N e=some m->kN X κ e m:=by
 intro n
 induction n with
 | zero=>intro X sc N e m G h;cases h
 | succ n ih=>
  intro X sc N e m G h;have hf:∀ e m,cj T n sc N e=some m->kN X κ e m:=fun e m q=>ih X sc N e m G q
  cases e with
  | Name x pos=>exact wQ G h
  | Constant c j pos=>exact ua h
  | BinOp a op b pos=>
   obtain⟨ma,mb,h1,h2,rfl⟩:=bp h;exact bT (fun Φ=>y6 ((hf a ma h1).1 Φ) ((hf b mb h2).1 Φ)) rfl (fun _=>rfl)
  | UnaryOp op a pos=>
   cases op with
   | USub=>
    obtain⟨ma,h1,rfl⟩:=cg h;exact bT (fun Φ=>y8 ((hf a ma h1).1 Φ)) rfl (fun _=>rfl)
   | Not=>
    obtain⟨ma,h1,rfl⟩:=cg h;exact⟨fun Φ=>zd ((hf a ma h1).1 Φ),fun Φ=>ze ((hf a ma h1).2.1 Φ),rfl⟩
   | _=>cases h
  | BoolOp op vs pos=>
   match vs,h with
   | a::b::r,h=>
    obtain⟨q1,q2⟩:=oU (pos:=pos) hf (show iv (cj T n sc N) op (a::b::r)=some m from h)
    exact⟨q1,fun Φ=>(q2 Φ).pt,rfl⟩
   | [_],h=>cases h
   | [],h=>cases h
  | Compare a ops cs pos=>
   match ops,cs,h with
   | [op],[b],h=>
    replace h:(if isSet b=true then none else o2 (cj T n sc N a) (cj T n sc N b) (m2 (ax op)))=some m:=h
    split at h
    ·cases h
    ·rename_i hs
     obtain⟨ma,mb,h1,h2,rfl⟩:=bp h;have hm:=oB (op:=op) (b:=b) (by simpa using hs)
     exact⟨fun Φ=>(mS G.hu hm ((hf a ma h1).1 Φ) ((hf b mb h2).1 Φ)).1,fun Φ=>(mS G.hu hm ((hf a ma h1).1 Φ) ((hf b mb h2).1 Φ)).2,rfl⟩
   | [op,op'],[b,c'],h=>
    replace h:(if isSet c'=true then none else o2 (cj T n sc N a) (o2 (cj T n sc N b) (cj T n sc N c') Prod.mk) fun x y=>gC op op' x y.1 y.2)=some m:=h
    split at h
    ·cases h
    ·rename_i hs
     obtain⟨ma,S8,h1,FF,rfl⟩:=bp h;obtain⟨mb,mc,h2,h3,rfl⟩:=bp FF;have hm:lastMarks [op,op'] [b,c']=false:=oB (op:=op') (b:=c') (by simpa using hs)
     exact⟨fun Φ=>zj G.hu hm ((hf _ _ h1).1 Φ) ((hf _ _ h2).1 Φ) ((hf _ _ h3).1 Φ),fun Φ=>zk G.hu hm ((hf _ _ h1).1 Φ) ((hf _ _ h2).1 Φ) ((hf _ _ h3).1 Φ),rfl⟩
   | [],_,h=>cases h
   | [_],[],h=>cases h
   | [_],_::_::_,h=>cases h
   | [_,_],[],h=>cases h
   | [_,_],[_],h=>cases h
   | [_,_],_::_::_::_,h=>cases h
   | _::_::_::_,[],h=>cases h
   | _::_::_::_,[_],h=>cases h
   | _::_::_::_,_::_::_,h=>cases h
  | IfExp t a b pos=>
   obtain⟨mt,S9,h1,FF,rfl⟩:=bp h;obtain⟨ma,mb,h2,h3,rfl⟩:=bp FF;exact⟨fun Φ=>zh ((hf _ _ h1).2.1 Φ) ((hf _ _ h2).1 Φ) ((hf _ _ h3).1 Φ),fun Φ=>zi ((hf _ _ h1).2.1 Φ) ((hf _ _ h2).2.1 Φ) ((hf _ _ h3).2.1 Φ),rfl⟩
  | Subscript a s pos=>
   have gen:∀ b,isSlice b=false->o2 (cj T n sc N a) (cj T n sc N b) (m2 aA)=some m->kN X κ (.Subscript a b pos) m:=fun b hb h=>by
    obtain⟨ma,mb,h1,h2,rfl⟩:=bp h;refine bT (fun Φ=>za (by have:=G.hu;omega) (fun o i => ?_) ((hf _ _ h1).1 Φ) ((hf _ _ h2).1 Φ)) rfl (fun _=>rfl)
    cases b<;>first | rfl | (cases hb)
   cases s with
   | Slice lo hi st p2=>
    cases st with
    | none=>
     obtain⟨ma,S_,h1,FF,rfl⟩:=bp h;obtain⟨⟨nl,ml⟩,⟨nh,mh⟩,h2,h3,rfl⟩:=bp FF;exact bT (fun Φ=>zb ((hf _ _ h1).1 Φ) (oV hf h2) (oV hf h3)) rfl (fun _=>rfl)
    | some e=>
     cases lo with
     | none=>
      cases hi with
      | none=>
       exact nomatch (show(none:Option EM)=some m from h)
      | some _=>exact nomatch (show(none:Option EM)=some m from h)
     | some _=>exact nomatch (show(none:Option EM)=some m from h)
   | _=>exact gen _ rfl h
  | List es pos=>
   obtain⟨as,h1,rfl⟩:=cg h;exact bT (fun Φ=>y0 ((cT hf h1).1 Φ)) rfl (fun _=>rfl)
  | Tuple es j pos=>
   obtain⟨as,h1,rfl⟩:=cg h;exact bT (fun Φ=>y4 ((cT hf h1).1 Φ)) rfl (fun _=>rfl)
  | Call f args kws pos=>
   cases f with
   | Name x p=>
    cases kws with
    | nil=>
     replace h:(match oS sc (cj T n sc N) x args with | some m=>some m | none=>jr T sc N (cj T n sc N) x args)=some m:=h
     cases hi:oS sc (cj T n sc N) x args with
     | some m'=>
      rw[hi]at h;cases h;exact zB G hf hi
     | none=>
      rw[hi]at h;exact wV G hf h
    | cons _ _=>cases h
   | Attribute o mm p1=>
    cases kws with
    | nil=>
     replace h:(if (p1.endLine == pos.line && ku o && decide (args.length < 20))=true then (match cj T n sc N o,dH (cj T n sc N) args with
   | some mo,some as=>m4 T mm args.length mo as
   | _,_=>none) else none)=some m:=h
     split at h
     ·rename_i hc
      simp only[Bool.and_eq_true,decide_eq_true_eq]at hc;split at h
      ·rename_i mo as h1 h2
       exact bT (fun Φ=>wR G hc.1.2 hc.1.1 hc.2 ((hf o mo h1).1 Φ) h2 hf h) rfl (fun _=>rfl)
      ·cases h
     ·cases h
    | cons _ _=>cases h
   | _=>cases h
  | ListComp elt gens scope pos=>
   cases hg:j0 gens with
   | none=>exact kB hg h
   | some q=>
    obtain⟨x,px,iter,ifs⟩:=q;obtain rfl:=lG hg;obtain⟨me,nc,mc,mi,cap,rfl,b1,b2,b3,b4,b5,b6⟩:=i6 (fun X sc N e m G q=>ih X sc N e m G q) G h
    exact bT (fun Φ=>wy G.calm b1 b4 (b5 Φ) b2 b3 b6) rfl (fun _=>rfl)
  | _=>cases h
end
structure df(X:Cx)(κ:Str->Addr->Prop)(T:aY)(k:Nat)(sc:Scope)(N:List Str):Prop extends GoodO X κ T k sc N where
 own:PassesOwn (model X.prog X.w) X.A X.env X.xe
 DY:∀ x,vO sc x=true->T.fz.contains x=false->(X.fn x=true\/X.env.scope.names.lookup x=some .local)
 nL:N.Nodup
 kind:sc.kind=.function
 iT:T.xt=false->∀ e s,¬ X.xe e s
def cq(f:Stmt->Option SM):List Stmt->Option SM
 | []=>some ai
 | s::r=>o2 (f s) (cq f r) aj
def m8(f:Expr->Option EM)(sc:Scope)(iter:Expr):Option IM:=match iter with
 | .Call (.Name g _) [a] [] _=>if g == ("enumerate":Str) then (if oA sc g then (f a).map tY else none) else gi f sc iter
 | _=>gi f sc iter
def iy(T:aY)(sc:Scope)(N:List Str)(x:Str):Option Nat:=if T.fz.contains x then none else oC sc N x
def kC(T:aY)(sc:Scope)(N:List Str)(nms:List (Str×Pos)):Option (List Nat):=if nms.any (fun y=>T.fz.contains y.1) then none else j2 sc N nms
def qB(T:aY)(td:List Str)(k:Nat)(sc:Scope)(N:List Str)(x:Str)(px:Pos)(e:Expr)(pos:Pos):Option SM:=match iy T sc N x with
   | some i=>(match cj T k sc N e with
    | some m=>if oE sc x px e then (if pos.line == px.line then some (aw i m) else none) else some (aw i m)
    | none=>none)
   | none=>none
def qD(T:aY)(k:Nat)(sc:Scope)(N:List Str)(es:List Expr)(e:Expr):Option SM:=match d_ es with
   | some nms=>match kC T sc N nms,cj T k sc N e with
    | some is,some m=>if vT e then some (Fx is m) else none
    | _,_=>none
   | none=>none
def gU(T:aY)(td:List Str)(k:Nat)(sc:Scope)(N:List Str):Nat->Stmt->Option SM
 | 0,_=>none
 | n + 1,st=>match st with
  | .Return (some e) _=>some (match cj T k sc N e with
   | some m=>aQ m
   | none=>mV)
  | .Assign [.Name x px] e pos=>qB T td k sc N x px e pos
  | .Assign [.Tuple es _ _] e _=>qD T k sc N es e
  | .Expr e _=>if qq e then none else (cj T k sc N e).map eh
  | .If c a b _=>o2 (cj T k sc N c) (o2 (cq (gU T td k sc N n) a) (cq (gU T td k sc N n) b) Prod.mk) fun x y=>cW x y.1 y.2
  | .While c b [] _=>o2 (cj T k sc N c) (cq (gU T td k sc N n) b) qy
  | .For (.Name x _) it b [] _=>if isSet it then none else o2 (iy T sc N x) (o2 (gi (cj T k sc N) sc it) (cq (gU T td k sc N n) b) Prod.mk) fun i y=>c_ (bY i) y.1 y.2
  | .For (.Tuple es _ _) it b [] _=>if isSet it then none else match d_ es with
   | some nms=>o2 (kC T sc N nms) (o2 (m8 (cj T k sc N) sc it) (cq (gU T td k sc N n) b) Prod.mk) fun is y=>c_ (kn is) y.1 y.2
   | none=>none
  | _=>none
section
variable{X:Cx}{κ:Str->Addr->Prop}{Φ:fK}{T:aY}{td:List Str}{k:Nat}{sc:Scope}{N:List Str}{α α' aF α1:List Addr}{Z Z' Z0 Z1:Addr->Prop}{Ω ao:aD}{H H' H0 H1:Hp}
theorem zD{es:List Expr}{x1:Nat}{tpos p pos:Pos}{a:Expr}{m:EM}(hg:Gl X "enumerate")(hm:X.mg "enumerate"=none)(hs:starEach [a] X.env=[(false,eval a X.env)])(ha:bj X κ Φ a m) :
  wt X κ Φ (.Tuple es x1 tpos) (.Call (.Name "enumerate" p) [a] [] pos) (tY m):=by
 intro aF Z0 H0 ρ Ω;refine PI.imp (vM hg hm (di (ha aF Z0 H0 ρ Ω) iE hs) hs) ?_;rintro σ H R ⟨α,Z,S,g⟩;refine⟨α,Z,S,qx.use g fun x ah _ v H1 α1 Z1 g1 s1 r1 k1 => ?_⟩
 have fin:∀ {α2:List Addr} {Z2:Addr->Prop} {ay:aD} {H2:Hp} {i:Nat} {v:V} {d':D},bt κ α2 Z2 ay H2->au α2 Z2 H2 d' v->∀ p,H2 p=none->∃ Z3,bN α2 Z2 H2 α2 Z3 (upd H2 p (.tup [.int i,v]))/\bt κ α2 Z3 ay (upd H2 p (.tup [.int i,v]))/\au α2 Z3 (upd H2 p (.tup [.int i,v])) (.tup [.int (0 + i:Nat),d']) (.ref p):=fun {α2 Z2 ay H2 i v d'} s2 rv p hp=>by
  obtain⟨s3,g3⟩:=s2.wa (p:=p) (o:=.tup [.int i,v]) hp True;simp only[if_true]at s3 g3;refine⟨Zp Z2 p,g3,s3,?_⟩;simp only[au];refine⟨p,_,rfl,.inr rfl,bo,a_.mpr (.cons ?_ (.one (s2.dw g3 rv)))⟩;simp only[au];simp
 cases hq:et ah x with
 | none=>simp only[hq]at k1;exact k1.elim
 | some Ta=>
  simp only[hq]at k1
  by_cases ht:∃ es,x=.tup es
  ·obtain⟨es',rfl⟩:=ht
   have r1':=r1;simp only[au]at r1;obtain⟨a,AS,rfl,z1,q1,q2⟩:=r1;refine⟨a,rfl,.inr ⟨⟨AS,fH.of q1⟩,k1 _ H1 α1 Z1 (bN.refl s1.has) s1 ?_⟩⟩;intro α2 Z2 ay H2 ds g2 s2 hs2;have hs2:some (cY 0 es')=some ds:=hs2;cases hs2;have r2:=s1.dw g2 r1';simp only[au]at r2;obtain⟨a',vs,e,z3,h3,h4⟩:=r2;cases e;have h4:=a_.mp h4;refine⟨fun i d hd => ?_,fun i hi=>by rw[h_]at hi;exact⟨vs,fH.of h3,by rw[h4.length];exact hi⟩⟩
   obtain⟨d',hd',rfl⟩:=jl es' 0 i d hd;obtain⟨v,hv,rv⟩:=h4.get hd';refine⟨⟨vs,v,fH.of h3,hv⟩,fun y H3 hy => ?_⟩
   obtain⟨p,rfl,hp,hy⟩:=hy;obtain⟨w,hw,rfl⟩:=hy vs (fH.of h3);rw[hv]at hw;cases hw
   exact fin s2 rv p hp
  ·have hseq:∀ Ω,et Ω x=c9 Ω x:=fun Ω=>by
    cases x with
    | tup es=>exact absurd ⟨es,rfl⟩ ht
    | _=>rfl
   rw[hseq]at hq;have r1':=r1;obtain⟨a,AS,rfl,q1,q2⟩:=bx s1 r1 hq;refine⟨a,rfl,.inl ⟨⟨AS,jb q1⟩,k1 _ H1 α1 Z1 (bN.refl s1.has) s1 ?_⟩⟩;intro α2 Z2 ay H2 ds g2 s2 hs2;obtain⟨es2,h2,rfl⟩:=cg hs2;rw[hseq]at h2;have r2:=s1.dw g2 r1';obtain⟨a',vs,e,h3,h4⟩:=bx s2 r2 h2;cases e;refine⟨fun i d hd => ?_,fun i hi=>by rw[h_]at hi;exact⟨vs,jb h3,by rw[h4.length];exact hi⟩⟩
   obtain⟨d',hd',rfl⟩:=jl es2 0 i d hd;obtain⟨v,hv,rv⟩:=h4.get hd';refine⟨⟨vs,v,jb h3,hv⟩,fun y H3 hy => ?_⟩
   obtain⟨p,rfl,hp,hy⟩:=hy;obtain⟨w,hw,rfl⟩:=hy vs (jb h3);rw[hv]at hw;cases hw
   exact fin s2 rv p hp
theorem zE(G:GoodO X κ T k sc N){f:Expr->Option EM}(hf:∀ e m,f e=some m->kN X κ e m){iter:Expr}{mi:IM}(h:m8 f sc iter=some mi){es:List Expr}{j:Nat}{tp:Pos}:∀ Φ,wt X κ Φ (.Tuple es j tp) iter mi:=by
 intro Φ;unfold m8 at h;split at h
 ·rename_i g p a pos
  split at h
  ·rename_i hr
   obtain rfl:=eq_of_beq hr;split at h
   ·rename_i hc
    obtain⟨ca,e,rfl⟩:=cg h;obtain⟨p1,_,p4⟩:=hf a ca e;exact zD (G.gl hc) (G.cN _ (by decide)) (by rw[bV p4];rfl) (p1 Φ)
   ·cases h
  ·exact kz G hf h Φ _
 ·exact kz G hf h Φ _
theorem uc(G:df X κ T k sc N){x:Str}{i:Nat}(h:oC sc N x=some i):X.N[i]?=some x/\Loc X.env.scope x:=by
 unfold oC at h;split at h
 ·rename_i hc
  simp only[Bool.and_eq_true]at hc;refine⟨by rw[G.names];exact vR h,?_⟩
  rw[G.scope];have hv:=hc.1;unfold vO at hv;unfold L2.Loc;split at hv
  ·rename_i q;exact .inl q
  ·rename_i q;exact .inr q
  ·cases hv
 ·cases h
theorem dA{f:Stmt->Option SM}(hf:∀ s c,f s=some c->km X κ Φ s c):∀ {ss:List Stmt} {c:SM},cq f ss=some c->ir X κ Φ ss c
 | [],c,h=>by cases h;exact mW
 | s::ss,c,h=>by
  obtain⟨a,b,h1,h2,rfl⟩:=bp h;exact ko (hf s a h1) (dA hf h2)
theorem gq(G:df X κ T k sc N){x:Str}{i:Nat}(h:iy T sc N x=some i):X.N[i]?=some x/\Loc X.env.scope x/\(X.fn x=true\/X.env.scope.names.lookup x=some .local):=by
 unfold iy at h;split at h
 ·cases h
 ·rename_i hz
  obtain⟨a,b⟩:=uc G h;refine⟨a,b,G.DY x ?_ (by simpa using hz)⟩
  unfold oC at h;split at h
  ·rename_i hc;simp only[Bool.and_eq_true]at hc;exact hc.1
  ·cases h
theorem kD(G:df X κ T k sc N):∀ {nms:List (Str×Pos)} {is:List Nat},(∀ y∈nms,T.fz.contains y.1=false)->j2 sc N nms=some is->is.length=nms.length/\∀ (j i:Nat) (x:Str×Pos),is[j]?=some i->nms[j]?=some x->X.N[i]?=some x.1/\Loc X.env.scope x.1/\(X.fn x.1=true\/X.env.scope.names.lookup x.1=some .local)
 | [],is,_,h=>by cases h;exact⟨rfl,fun j i x e=>by simp at e⟩
 | x::xs,is,hz,h=>by
  simp only[j2,Option.bind_eq_bind]at h;obtain⟨i,h1,h⟩:=Option.bind_eq_some_iff.mp h;obtain⟨is',h2,h⟩:=Option.bind_eq_some_iff.mp h;cases h;obtain⟨q1,q2⟩:=kD G (fun y hy=>hz y (by simp[hy])) h2
  refine⟨by rw[List.length_cons,List.length_cons,q1],fun j i' y e1 e2 => ?_⟩
  cases j with
  | zero=>
   simp at e1 e2;subst e1 e2
   exact gq G (by unfold iy;rw[if_neg (by rw[hz x (by simp)];simp)];exact h1)
  | succ j=>exact q2 j i' y (by simpa using e1) (by simpa using e2)
theorem oW(G:df X κ T k sc N){es:List Expr}{j:Nat}{p:Pos}{nms:List (Str×Pos)}{is:List Nat}(h1:d_ es=some nms)(h2:kC T sc N nms=some is):PG X (.Tuple es j p) (x_ X.K is.length (iH is)):=by
 obtain rfl:=iZ h1
 have h2':(∀ y∈nms,T.fz.contains y.1=false)/\j2 sc N nms=some is:=by
  unfold kC at h2;split at h2
  ·cases h2
  ·rename_i hz
   refine⟨fun y hy => ?_,h2⟩
   cases q:T.fz.contains y.1 with
   | false=>rfl
   | true=>exact absurd (List.any_eq_true.mpr ⟨y,hy,q⟩) hz
 obtain⟨q1,q2⟩:=kD G h2'.1 h2'.2;obtain⟨t1,t2⟩:=lH X.env nms;exact Bm G.calm (lB (nms:=nms) (by rw[G.names];exact G.nL) is nms q1 q2) (by rw[t1,q1]) t2
theorem oX{elt:Expr}{gens:List Comprehension}{scope:Scope}{p px:Pos}{x:Str}{l:Nat}(G:df X κ T k sc N) :
  swapsWith (.ListComp elt gens scope p) (some (.Name x px)) l X.env=pure (oE sc x px (.ListComp elt gens scope p)):=by
 have hk:X.env.blockKind=.function:=by
  show(if X.env.scope.kind.isAnnotationScope=true then ScopeKind.function else X.env.scope.kind)=_
  rw[G.scope,G.kind];rfl
 show pure (X.env.blockKind == .function && X.env.kindOf x == some .local && px.line == p.line && !(scope.names.any fun (n,k)=>n == x && (k == .local || k == .cell)))=_
 rw[hk]
 show pure (true && X.env.scope.names.lookup x == some .local && px.line == p.line && !(scope.names.any fun (n,k)=>n == x && (k == .local || k == .cell)))=_
 rw[G.scope];rfl
theorem rX(G:df X κ T k sc N){n i:Nat}{x:Str}{px pos:Pos}{e:Expr}{m:EM}(hi:iy T sc N x=some i)(h:cj T n sc N e=some m)(hs:oE sc x px e=true->pos.line=px.line):km X κ Φ (.Assign [.Name x px] e pos) (aw i m):=by
 obtain⟨s1,s2,s3⟩:=gq G hi;have hN:X.N.Nodup:=by rw[G.names];exact G.nL
 have E:=ej n X sc N e m G.toGoodO h;have plain:swapsWith e (some (.Name x px)) pos.line X.env=pure false->km X κ Φ (.Assign [.Name x px] e pos) (aw i m):=fun q=>rV hN s1 s2 s3 q (E.1 Φ)
 cases e with
 | ListComp elt gens scope p=>
  cases hb:oE sc x px (.ListComp elt gens scope p) with
  | false=>exact plain (by rw[oX G,hb])
  | true=>
   cases n with
   | zero=>cases h
   | succ n=>
   cases hg:j0 gens with
   | none=>exact kB hg h
   | some q=>
    obtain⟨y,py,iter,ifs⟩:=q;obtain rfl:=lG hg;obtain⟨me,nc,mc,mi,cap,rfl,b1,b2,b3,b4,b5,b6⟩:=i6 (fun X sc N e m G q=>ej n X sc N e m G q) G.toGoodO h
    have hl:X.env.scope.names.lookup x=some .local:=by
     rw[G.scope];unfold oE at hb;simp only[Bool.and_eq_true,beq_iff_eq]at hb;exact hb.1.1
    exact wz hN s1 hl (by rw[oX G,hb]) G.calm b1 b4 (iY 1 (by decide)) (kj (cap:=cap) (b5 Φ) b2 b3 b6) (hs hb)
 | SetComp=>cases n<;>cases h
 | DictComp=>cases n<;>cases h
 | _=>exact plain rfl
theorem Cq{e:Expr}{t:Option Expr}{l:Nat}{env:Env}(h:qq e=false):swapsWith e t l env=pure false:=by
 cases e<;>first | rfl | (cases h)
theorem jt(G:df X κ T k sc N):∀ (n:Nat) (kk:Nat) (st:Stmt) (c:SM),gU T td kk sc N n st=some c->km X κ Φ st c:=by
 intro n kk;have E:∀ e m,cj T kk sc N e=some m->kN X κ e m:=fun e m q=>ej kk X sc N e m G.toGoodO q
 induction n with
 | zero=>intro st c h;cases h
 | succ n ih=>
  intro st c h;have B:∀ ss c,cq (gU T td kk sc N n) ss=some c->ir X κ Φ ss c:=fun ss c q=>dA ih q
  have hN:X.N.Nodup:=by rw[G.names];exact G.nL
  cases st with
  | Return v pos=>
   cases v with
   | none=>cases h
   | some e=>
    replace h:some (match cj T kk sc N e with
   | some m=>aQ m
   | none=>mV)=some c:=h
    cases h;split
    ·rename_i m h1
     exact mX ((E e m h1).1 Φ)
    ·exact t8
  | Assign ts e pos=>
   cases ts with
   | nil=>cases h
   | cons t r=>
   cases r with
   | cons t2 r=>cases t<;>cases h
   | nil=>
   cases t with
   | Name x px=>
    replace h:qB T td kk sc N x px e pos=some c:=h;unfold qB at h;split at h
    ·rename_i i hi
     ·split at h
      ·rename_i m hm
       split at h
       ·split at h
        ·rename_i hs hl
         cases h;exact rX G hi hm fun _=>eq_of_beq hl
        ·cases h
       ·rename_i hs
        cases h;exact rX G hi hm fun q=>absurd q hs
      ·cases h
    ·cases h
   | Tuple es j p=>
    replace h:qD T kk sc N es e=some c:=h;unfold qD at h;split at h
    ·rename_i nms hn
     split at h
     ·rename_i is m h1 h2
      split at h
      ·rename_i hp
       cases h;exact zy (oW G hn h1) hp ((E e m h2).1 Φ)
      ·cases h
     ·cases h
    ·cases h
   | _=>cases h
  | Expr e pos=>
   replace h:(if qq e=true then none else (cj T kk sc N e).map eh)=some c:=h
   split at h
   ·cases h
   ·rename_i hc
    obtain⟨m,h1,rfl⟩:=cg h;exact rW (Cq (by simpa using hc)) ((E e m h1).1 Φ)
  | If c0 a b pos=>
   obtain⟨m,y,h1,h2,rfl⟩:=bp h;obtain⟨ca,cb,h3,h4,rfl⟩:=bp h2;exact wD ((E c0 m h1).2.1 Φ) (B a ca h3) (B b cb h4)
  | While c0 b e pos=>
   cases e with
   | nil=>
    obtain⟨m,cb,h1,h2,rfl⟩:=bp h;exact lP G.own ((E c0 m h1).2.1 Φ) (B b cb h2)
   | cons _ _=>cases h
  | For tg it b e pos=>
   cases e with
   | nil=>
    cases tg with
    | Name x px=>
     replace h:(if isSet it=true then none else o2 (iy T sc N x) (o2 (gi (cj T kk sc N) sc it) (cq (gU T td kk sc N n) b) Prod.mk) fun i y=>c_ (bY i) y.1 y.2)=some c:=h
     split at h
     ·cases h
     ·rename_i hs
      obtain⟨i,y,h1,h2,rfl⟩:=bp h;obtain⟨mi,cb,h3,h4,rfl⟩:=bp h2;obtain⟨s1,s2,s3⟩:=gq G h1;exact mY G.own G.calm (kz G.toGoodO E h3 Φ _) (ji hN s1 s2 s3) (wG i) (B b cb h4) (ib (by simpa using hs))
    | Tuple es j p=>
     replace h:(if isSet it=true then none else match d_ es with
   | some nms=>o2 (kC T sc N nms) (o2 (m8 (cj T kk sc N) sc it) (cq (gU T td kk sc N n) b) Prod.mk) fun is y=>c_ (kn is) y.1 y.2
   | none=>none)=some c:=h
     split at h
     ·cases h
     ·rename_i hs
      split at h
      ·rename_i nms hn
       obtain⟨is,y,h1,h2,rfl⟩:=bp h;obtain⟨mi,cb,h3,h4,rfl⟩:=bp h2;exact mY G.own G.calm (zE G.toGoodO E h3 Φ) (oW G hn h1) (wH is) (B b cb h4) (ib (by simpa using hs))
      ·cases h
    | _=>cases h
   | cons _ _=>cases tg<;>cases h
  | _=>cases h
def bh(mg:Str->Option Value):Str->Addr->Prop:=fun C a=>mg C=some (.ref a)
structure bA(P:Program)(w:World)(K:PySem.W.Frag)(mg:Str->Option Value)(base:Heap)(T:aY)(k:Nat):Prop where
 cN:∀ x∈cZ,mg x=none
 iu:∀ x F,T.iu.lookup x=some F->∃ (f:Addr) (fd:FuncData) (ps:List Str),mg x=some (.ref f)/\PySem.W.keepIn K (.ref f)=true/\Binds K fd ps []/\bO P w K mg base dW k f fd ps (jU F)
 fn:∀ x F,T.fn.lookup x=some F->∃ (f:Addr) (fd:FuncData) (ps:List Str),mg x=some (.ref f)/\PySem.W.keepIn K (.ref f)=true/\Binds K fd ps []/\bO P w K mg base dW k f fd ps (cM (bh mg) F)
 cst:∀ x d,T.cst.lookup x=some d->∃ v u,mg x=some u/\RelV v u/\eX d=some v
 met:∀ m C F,(m,C,F)∈T.met->∃ (Ca f:Addr) (fd:FuncData) (ps:List Str),(∀ a,bh mg C a->a=Ca)/\DT K Ca/\Meth K Ca m f/\Binds K fd ps []/\bO P w K mg base dW k f fd ps (cM (bh mg) F)
 cls:∀ C F,T.cls.lookup C=some F->∃ j,j + 1<=k/\∃ (Ca f:Addr) (fd:FuncData) (ps:List Str),bh mg C Ca/\Mk K Ca f/\mg C=some (.ref Ca)/\Binds K fd ps []/\bO P w K mg base dW j f fd ps (cM (bh mg) F)
 fld:∀ f Cs,T.fld.lookup f=some Cs->wM K (bh mg) Cs f
 clo:∀ j F,T.clo[j]?=some F->oQ P w K mg base (bh mg) k j F
def cU(T:aY)(td:List Str)(st:Stmt)(N:List Str):Option SM:=cq (gU T td 60 (af st) N 30) (aT st)
end
section
variable{P:Program}{w:World}{K:PySem.W.Frag}{mg:Str->Option Value}{base:Heap}{T:aY}{k:Nat}
theorem bL(W:bA P w K mg base T k){x qual:Str}{st:Stmt}{f:Addr}{fd:FuncData}(F:tj K x qual st f fd){N ps td:List Str}{c:SM}(hs:bD N ps (af st)=true)(hc:cU T td st N=some c) :
    bO P w K mg base dW (k + 1) f fd ps (cM (bh mg) (bu N.length ps.length c)):=by
  refine F.ok (dP hs) (fun vs H Q E h => ?_) fun cdv A outer s H vs Q E hr h => ?_
  · obtain⟨α,Z,Ω,ds,S,r,g⟩:=h
    rw[r.length];unfold bu at g;split at g
    · rename_i hl;exact hl
    · exact g.elim
  · obtain⟨α,Z,Ω,ds,S,r,g⟩:=h
    have Sc:=dP hs
    have G:df (bW dW P w K mg base N qual (af st) f cdv A outer s H E).iT (bh mg) T k (af st) N:=
      { scope:=rfl,names:=rfl,calm:=rfl,room:=hr,cN:=W.cN,own:=PassesOwn.never,DY:=fun _ _ _=>.inl rfl,nL:=Sc.nd,kind:=Sc.kind,iT:=fun _ _ _ h=>h,fld:=W.fld,cst:=W.cst
        iu:=fun x F h=>⟨W.iu x F h⟩,fn:=fun x F h=>⟨W.fn x F h⟩,met:=fun m C F h=>⟨W.met m C F h⟩,cls:=fun C F h=>let ⟨j,h1,h2⟩:=W.cls C F h;⟨j,h1,⟨h2⟩⟩,clo:=W.clo }
    refine⟨Cn (bh mg) i5 α Z H c (aS N.length ds) Ω,dA (jt G 30 60) hc α Z H (aS N.length ds) Ω,α,Z,ei S r,?_⟩;unfold bu at g;split at g
    · cases q:c (aS N.length ds) Ω with
      | rt d ao=>rw[q]at g;exact fun v H' α' Z' gr st r=>g v H' α' Z' gr st r
      | nx ρ ao=>rw[q]at g;exact fun σ H' α' Z' S'=>g .non H' α' Z' S'.gr S'.st (aX rfl)
      | bk ρ ao=>rw[q]at g;exact g.elim
      | ct ρ ao=>rw[q]at g;exact g.elim
      | exc x ao=>rw[q]at g;exact g
      | bad=>rw[q]at g;exact g.elim
    · exact g.elim
theorem zF{F:bb}{ao:aD}{H:Hp}{a:Addr}{ns:List Int}{κ:Str->Addr->Prop}(hR:Rd H a (.lst (ns.map V.int)))(h:F [.lst (ns.map D.int)] []=.ok (.bl true) ao):cM κ F [.ref a] H (fun v _=>v=.bl true) E0:=by
 refine⟨[],fun b=>b=a,[],[.lst (ns.map D.int)],⟨List.nodup_nil,.nil,fun _ h=>by simp at h,fun b e => ?_⟩,.one ?_,?_⟩
 ·subst e
  rcases hR with e | ⟨o,e⟩<;>rw[e]<;>simp
 ·simp only[au]
  refine⟨a,ns.map V.int,rfl,rfl,hR,?_⟩;clear h hR
  induction ns with
  | nil=>exact a_.mpr .nil
  | cons n ns ih=>exact a_.mpr (.cons (by simp only[au]) (a_.mp ih))
 ·rw[h]
  intro v H' α' Z' g s r;simpa only [au] using r
theorem bA.mono(W:bA P w K mg base T k){j:Nat}(h:k<=j):bA P w K mg base T j:=
 ⟨W.cN,fun x F q=>let ⟨f,fd,ps,a,b,c,d⟩:=W.iu x F q;⟨f,fd,ps,a,b,c,d.mono h⟩,fun x F q=>let ⟨f,fd,ps,a,b,c,d⟩:=W.fn x F q;⟨f,fd,ps,a,b,c,d.mono h⟩,W.cst,
  fun m C F q=>let ⟨Ca,f,fd,ps,a,b,c,d,e⟩:=W.met m C F q;⟨Ca,f,fd,ps,a,b,c,d,e.mono h⟩,fun C F q=>let ⟨j',h1,h2⟩:=W.cls C F q;⟨j',Nat.le_trans h1 h,h2⟩,W.fld,fun j F q=>(W.clo j F q).mono h⟩
end
noncomputable def aY.k_(T:aY)(x:Str)(F:List D->Out Rs):aY:={ T with iu:=(x,F)::T.iu }
noncomputable def aY.cu(T:aY)(x:Str)(F:bb):aY:={ T with fn:=(x,F)::T.fn }
noncomputable def aY.zG(T:aY)(x:Str)(d:D):aY:={ T with cst:=(x,d)::T.cst }
theorem iO{β:Type}{x y:Str}{F G:β}{l:List (Str×β)}(h:((x,F)::l).lookup y=some G):(y=x/\G=F)\/l.lookup y=some G:=by
 rw[List.lookup_cons]at h;cases e:y == x with
 | true=>rw[e]at h;cases h;exact .inl ⟨eq_of_beq e,rfl⟩
 | false=>rw[e]at h;exact .inr h
section
variable{P:Program}{w:World}{K:PySem.W.Frag}{mg:Str->Option Value}{base:Heap}{T:aY}{k:Nat}
theorem bA.start(nb:∀ x∈cZ,mg x=none):bA P w K mg base {} 0:=
 ⟨nb,fun x F h=>(by cases h),fun x F h=>(by cases h),fun x d h=>(by cases h),fun m C F h=>(by cases h),fun C F h=>(by cases h),fun f Cs h=>(by cases h),fun j F h=>(by cases h)⟩
theorem bA.k_(W:bA P w K mg base T k){x:Str}{F:List D->Out Rs}{f:Addr}{fd:FuncData}{ps:List Str}{j:Nat}(hm:mg x=some (.ref f))(hk:PySem.W.keepIn K (.ref f)=true)(hb:Binds K fd ps [])(h:bO P w K mg base dW j f fd ps (jU F))(hj:j<=k) :
  bA P w K mg base (T.k_ x F) k:=
 ⟨W.cN,fun y G q=>by
  rcases iO q with ⟨rfl,rfl⟩ | q
  ·exact⟨f,fd,ps,hm,hk,hb,h.mono hj⟩
  ·exact W.iu y G q,W.fn,W.cst,W.met,W.cls,W.fld,W.clo⟩
theorem bA.cu(W:bA P w K mg base T k){x:Str}{F:bb}{f:Addr}{fd:FuncData}{ps:List Str}(hm:mg x=some (.ref f))(hk:PySem.W.keepIn K (.ref f)=true)(hb:Binds K fd ps [])(h:bO P w K mg base dW (k + 1) f fd ps (cM (bh mg) F)) :
  bA P w K mg base (T.cu x F) (k + 1):=by
 have W':=W.mono (Nat.le_succ k)
 exact⟨W'.cN,W'.iu,fun y G q=>by
  rcases iO q with ⟨rfl,rfl⟩ | q
  ·exact⟨f,fd,ps,hm,hk,hb,h⟩
  ·exact W'.fn y G q,W'.cst,W'.met,W'.cls,W'.fld,W'.clo⟩
theorem bA.zG(W:bA P w K mg base T k){x:Str}{d:D}{v:V}{u:Value}(h1:mg x=some u)(h2:RelV v u)(h3:eX d=some v):bA P w K mg base (T.zG x d) k:=
 ⟨W.cN,W.iu,W.fn,fun y G q=>by
  rcases iO q with ⟨rfl,rfl⟩ | q
  ·exact⟨v,u,h1,h2,h3⟩
  ·exact W.cst y G q,W.met,W.cls,W.fld,W.clo⟩
end
def FG(F:bb):Sp:=fun vs H Q E=>∀ κ,cM κ F vs H Q E
end Mir
namespace Mir
open PySem
theorem all1{p:List Value->Prop}(h:∀ a,p [a]):∀ us:List Value,us.length=1->p us
 | [a],_=>h a
theorem Cr{p:List Value->Prop}{n:Nat}(h:∀ a us,us.length=n->p (a::us))(us:List Value)(hl:us.length=n + 1):p us:=by
 cases us with
 | nil=>exact absurd hl (Nat.zero_ne_add_one n)
 | cons a r=>exact h a r (Nat.succ.inj hl)
theorem all2{p:List Value->Prop}(h:∀ a b,p [a,b]):∀ us:List Value,us.length=2->p us:=Cr fun a=>all1 (h a)
theorem ud{p:List Value->Prop}(h:∀ a b c,p [a,b,c]):∀ us:List Value,us.length=3->p us:=Cr fun a=>all2 (h a)
theorem Ln{p:List Value->Prop}(h:∀ a b c d,p [a,b,c,d]):∀ us:List Value,us.length=4->p us:=Cr fun a=>ud (h a)
open PySem.Spec PyProof.Rows L2
structure cV(K:PySem.W.Frag)(x:Str)(st:Stmt)(f:Addr)(fd:FuncData):Prop where
 ns:PySem.W.nsIn K mainGlobals x=some (some (.ref f))
 fn:tj K x x st f fd
theorem kF{K:PySem.W.Frag}{x:Str}{st:Stmt}{f:Addr}{oc:Value}{od an:Option Addr}{osl:Array (Option Value)}{kV doc pm cdv ct:Value}(a:PySem.W.nsIn K mainGlobals x=some (some (.ref f)))
  (l:K.lookup f=some ⟨oc,od,.func (PySem.W.fnOf x x (bQ st) (aT st) (af st) .none kV doc pm an cdv ct),osl⟩) (c:PySem.W.codeIn K cdv x=true) (k:PySem.W.keepIn K (.ref f)=true):cV K x st f (PySem.W.fnOf x x (bQ st) (aT st) (af st) .none kV doc pm an cdv ct):=⟨a,jM l c k⟩
def Ct:D->Bool
 | .lst ds=>ds.all eG
 | d=>eG d
section
variable{α:List Addr}{Z Z1:Addr->Prop}{H H1:Hp}
theorem rY{d:D}{v:V}(hf:eG d=true)(r:Rep Z H d v):au α Z1 H1 d v:=by
 cases d with
 | lst _=>cases hf
 | tup _=>cases hf
 | ref _=>cases hf
 | dct _ _=>cases hf
 | _=>simp only[Rep]at r;simp only[au];exact r
theorem ue{d:D}{v:V}(hf:eG d=true)(r:au α Z1 H1 d v):Rep Z H d v:=by
 cases d with
 | lst _=>cases hf
 | tup _=>cases hf
 | ref _=>cases hf
 | dct _ _=>cases hf
 | _=>simp only[au]at r;simp only[Rep];exact r
theorem oY:∀ {ds:List D} {vs:List V},ds.all eG=true->aR Z H ds vs->dv α Z1 H1 ds vs
 | [],vs,_,r=>by simp only[aR]at r;simp only[dv];exact r
 | d::ds,vs,h,r=>by
  simp only[List.all_cons,Bool.and_eq_true]at h;simp only[aR]at r;obtain⟨v,r',e,h1,h2⟩:=r;simp only[dv];exact⟨v,r',e,rY h.1 h1,oY h.2 h2⟩
theorem FH{d:D}{v:V}(h:Ct d=true)(r:Rep Z H d v):au α Z H d v:=by
 cases d with
 | lst ds=>
  simp only[Rep]at r;obtain⟨a,vs,e,z,hr,rs⟩:=r;simp only[au];exact⟨a,vs,e,z,hr,oY h rs⟩
 | tup _=>cases h
 | ref _=>cases h
 | dct _ _=>cases h
 | _=>exact rY rfl r
theorem wW:∀ {ds:List D} {vs:List V},ds.all Ct=true->aR Z H ds vs->aL (au α Z H) ds vs
 | [],vs,_,r=>by simp only[aR]at r;subst r;exact .nil
 | d::ds,vs,h,r=>by
  simp only[List.all_cons,Bool.and_eq_true]at h;simp only[aR]at r;obtain⟨v,r',rfl,h1,h2⟩:=r;exact .cons (FH h.1 h1) (wW h.2 h2)
end
variable [aJ]
def pureOf(O:bb):List D->Out Rs:=fun ds=>if ds.all Ct=true then (match O ds [] with
  | .ok d _=>if eG d=true then .ok (false,d) else .bad
  | _=>.bad) else .bad
section
variable{P:Program}{w:World}{K:PySem.W.Frag}{mg:Str->Option Value}{base:Heap}{k:Nat}{f:Addr}{fd:FuncData}{ps:List Str}{O:bb}
theorem ju(h:bO P w K mg base dW k f fd ps (cM (bh mg) O)):bO P w K mg base dW k f fd ps (jU (pureOf O)):=h.imp fun vs H Q E q=>by
 obtain⟨Z,ds,own,d,dom,r,e,g⟩:=q;unfold pureOf at e
 by_cases q1:ds.all Ct=true
 ·rw[if_pos q1]at e
  refine⟨[],Z,[],ds,⟨List.nodup_nil,.nil,fun a ha=>by simp at ha,dom⟩,wW q1 r,?_⟩
  cases q2:O ds [] with
  | exc x Ω=>rw[q2]at e;cases e
  | bad=>rw[q2]at e;cases e
  | ok d1 Ω=>
   rw[q2]at e;dsimp only at e
   by_cases hf:eG d1=true
   ·rw[if_pos hf]at e
    cases e;intro v H' α' Z' gr st rv;refine g v H' Z ⟨fun b o hb=>gr.frm b o hb (by simp),fun _ h=>h,fun _ h=>.inl h,fun a ha => ?_⟩ (.rep (ue hf rv))
    cases q3:H a with
    | none=>exact absurd q3 (dom a ha)
    | some o=>rw[gr.frm a o q3 (by simp)];simp
   ·rw[if_neg hf]at e;cases e
 ·rw[if_neg q1]at e;cases e
end
section
variable{P:Program}{w:World}{K:PySem.W.Frag}{mg:Str->Option Value}{base:Heap}{T:aY}{k:Nat}
end
end Mir
namespace Mir
open PySem PySem.Spec PyProof.Rows L2
section
variable{X:Cx}{pins:List (Addr×Obj)}{σ:L2.St}{s:Shared}
end
variable [aJ]
section
variable{κ:Str->Addr->Prop}{α aF:List Addr}{Z Z0:Addr->Prop}{Ω:aD}{H H0 H2:Hp}{ρ:aU}{σ:L2.St}
end
section
variable{P:Program}{w:World}{K:PySem.W.Frag}{mg:Str->Option Value}{base:Heap}{T T2:aY}{k:Nat}
end
section
variable{P:Program}{w:World}{K:PySem.W.Frag}{mg:Str->Option Value}{base:Heap}{T:aY}{k:Nat}
end
end Mir
namespace Mir
open PySem L2
section
variable{α β:Type}{Ω ao:aD}{ρ:aU}{d x y:D}{ma mb mc mi:EM}{as:AM}{a b:SM}
@[simp] theorem aO{a:α}{f:α->aD->av β}:(av.ok a Ω).bind f=f a Ω:=rfl
@[simp] theorem Lo{f:α->aD->av β}:(av.exc x Ω:av α).bind f=.exc x Ω:=rfl
@[simp] theorem Lp{f:α->aD->av β}:(av.bad:av α).bind f=.bad:=rfl
@[simp] theorem gM{a:α}{k:α->aD->gD}:cL (.ok a Ω) k=k a Ω:=rfl
@[simp] theorem Lq{k:α->aD->gD}:cL (.exc x Ω:av α) k=.exc x Ω:=rfl
@[simp] theorem Lr{k:α->aD->gD}:cL (.bad:av α) k=.bad:=rfl
@[simp] theorem Oq{b:av D}:kM (.ok d Ω) b=.ok d Ω:=rfl
@[simp] theorem Ls{b:av D}:kM (.exc d Ω) b=.exc d Ω:=rfl
@[simp] theorem Lu{b:av D}:kM .bad b=b:=rfl
@[simp] theorem AX{f:D->aD->av D}:m1 f ma ρ Ω=(ma ρ Ω).bind f:=rfl
@[simp] theorem cF{f:D->D->aD->av D}:m2 f ma mb ρ Ω=(ma ρ Ω).bind fun x ah=>(mb ρ ah).bind fun y ay=>f x y ay:=rfl
@[simp] theorem AY{f:List D->aD->av D}:mN f as ρ Ω=(as ρ Ω).bind f:=rfl
@[simp] theorem jv:ag ρ Ω=.ok [] Ω:=rfl
@[simp] theorem c8:U ma as ρ Ω=(ma ρ Ω).bind fun x ah=>(as ρ ah).bind fun xs ay=>.ok (x::xs) ay:=rfl
noncomputable def vr:Option (Option D)->aD->av D
 | some (some d),Ω=>.ok d Ω
 | _,_=>.bad
@[simp] theorem m9:vr (some (some d)) Ω=.ok d Ω:=rfl
@[simp] theorem m_{i:Nat}:aa i ρ Ω=vr ρ[i]? Ω:=by
 unfold aa;cases ρ[i]? with
 | none=>rfl
 | some o=>cases o<;>rfl
@[simp] theorem IJ:ae d ρ Ω=.ok d Ω:=rfl
@[simp] theorem dS{c:Cell}:mJ Ω c=.ok (.ref Ω.length) (Ω++[c]):=rfl
noncomputable def tb(Ω:aD):Option Bool->av Bool
 | some b=>.ok b Ω
 | none=>.bad
@[simp] theorem rZ{t:Bool}:tb Ω (some t)=.ok t Ω:=rfl
@[simp] theorem r_:dQ (.ok d Ω)=tb Ω (eS Ω d):=by simp only[dQ];cases eS Ω d<;>rfl
@[simp] theorem dm{t:Bool}:eS Ω (.bl t)=some t:=rfl
@[simp] theorem FI:eS Ω .non=some false:=rfl
@[simp] theorem FJ{i:Int}:eS Ω (.int i)=some (i != 0):=rfl
noncomputable def DQ(t:Option Bool)(a b:av D):av D:=match t with
 | some true=>a
 | some false=>b
 | none=>.bad
@[simp] theorem sd{a b:av D}:Mir.DQ (some true) a b=a:=rfl
@[simp] theorem sg{a b:av D}:Mir.DQ (some false) a b=b:=rfl
@[simp] theorem jw:cJ ma mb ρ Ω=(ma ρ Ω).bind fun x ah=>Mir.DQ (eS ah x) (mb ρ ah) (.ok x ah):=by
 unfold cJ;cases ma ρ Ω with
 | ok x ah=>
  simp only[aO];cases eS ah x with
  | none=>rfl
  | some t=>cases t<;>rfl
 | exc x ah=>rfl
 | bad=>rfl
@[simp] theorem ng:fh ma mb ρ Ω=(ma ρ Ω).bind fun x ah=>Mir.DQ (eS ah x) (.ok x ah) (mb ρ ah):=by
 unfold fh;cases ma ρ Ω with
 | ok x ah=>
  simp only[aO];cases eS ah x with
  | none=>rfl
  | some t=>cases t<;>rfl
 | exc x ah=>rfl
 | bad=>rfl
@[simp] theorem sh:bX ma ρ Ω=(dQ (ma ρ Ω)).bind fun t ah=>.ok (.bl (!t)) ah:=rfl
@[simp] theorem Cu:DX mc ma mb ρ Ω=(dQ (mc ρ Ω)).bind fun t ah=>if t=true then ma ρ ah else mb ρ ah:=rfl
@[simp] theorem zH{f g:D->aD->av D}:B7 f g x Ω=kM (f x Ω) (g x Ω):=rfl
@[simp] theorem gu{f g:D->D->aD->av D}:fc f g x y Ω=kM (f x y Ω) (g x y Ω):=rfl
@[simp] theorem IK{f g:List D->aD->av D}{xs:List D}:tV f g xs Ω=kM (f xs Ω) (g xs Ω):=rfl
@[simp] theorem IL{f g:EM}:mK f g ρ Ω=kM (f ρ Ω) (g ρ Ω):=rfl
@[simp] theorem IP{n:Nat}:eR Ω n .non=some .non:=by cases n<;>rfl
@[simp] theorem Cv{n:Nat}{t:Bool}:eR Ω n (.bl t)=some (.bl t):=by cases n<;>rfl
@[simp] theorem zI{n:Nat}{i:Int}:eR Ω n (.int i)=some (.int i):=by cases n<;>rfl
@[simp] theorem ni{n:Nat}{z:Str}:eR Ω n (.str z)=some (.str z):=by cases n<;>rfl
@[simp] theorem Lv{f:α->Option β}:bE f []=some []:=rfl
noncomputable def oc:Option α->Option (List α)->Option (List α)
 | some y,some ys=>some (y::ys)
 | _,_=>none
@[simp] theorem IQ{y:α}{ys:List α}:oc (some y) (some ys)=some (y::ys):=rfl
@[simp] theorem nj{f:α->Option β}{x:α}{xs:List α}:bE f (x::xs)=oc (f x) (bE f xs):=by
 simp only[bE];cases f x<;>cases bE f xs<;>rfl
theorem nk{γ:Type}{f:β->Option γ}{g:α->β}{h:α->γ}(e:∀ x,f (g x)=some (h x)):∀ xs:List α,bE f (xs.map g)=some (xs.map h)
 | []=>rfl
 | x::xs=>by rw[List.map_cons,nj,e,nk e xs];rfl
@[simp] theorem zJ{n:Nat}{xs:List Str}:bE (eR Ω n) (xs.map .str)=some (xs.map .str):=nk (fun _=>ni) xs
@[simp] theorem zK{n:Nat}{xs:List Int}:bE (eR Ω n) (xs.map .int)=some (xs.map .int):=nk (fun _=>zI) xs
theorem zL{n:Nat}{ds es:List D}(h:bE (eR Ω n) ds=some es):eR Ω (n + 1) (.lst ds)=some (.lst es):=by simp only[eR,h,Option.map_some]
theorem nq{n k:Nat}{ds es:List D}(hk:Ω[k]?=some (.lst ds))(h:bE (eR Ω n) ds=some es):eR Ω (n + 1) (.ref k)=some (.lst es):=by simp only[eR,hk,h,Option.map_some]
theorem dB{n k:Nat}{xs:List Str}(hk:Ω[k]?=some (.lst (xs.map .str))):eR Ω (n + 1) (.ref k)=some (L1 xs):=nq hk zJ
@[simp] theorem Lw{n:Nat}{ns:List Int}:eR Ω (n + 1) (SC ns)=some (SC ns):=zL zK
@[simp] theorem IS{o:Bool}{i:Int}:fb Ω (.ok (o,.int i))=.ok (.int i) Ω:=rfl
@[simp] theorem wX{o:Bool}{t:Bool}:fb Ω (.ok (o,.bl t))=.ok (.bl t) Ω:=rfl
@[simp] theorem zM{o:Bool}{z:Str}:fb Ω (.ok (o,.str z))=.ok (.str z) Ω:=rfl
@[simp] theorem IT{o:Bool}:fb Ω (.ok (o,.non))=.ok .non Ω:=rfl
@[simp] theorem IU:fb Ω .bad=.bad:=rfl
def vN(Ω:aD)(f:List D->Out Rs):Option (List D)->av D
 | some ds=>fb Ω (f ds)
 | none=>.bad
@[simp] theorem sj{f:List D->Out Rs}{ds:List D}:vN Ω f (some ds)=fb Ω (f ds):=rfl
@[simp] theorem jx{f:List D->Out Rs}{xs:List D}:aV f xs Ω=vN Ω f (bE (eR Ω 8) xs):=by unfold aV;cases bE (eR Ω 8) xs<;>rfl
def v1(Ω:aD)(f:D->Out Rs):Option D->av D
 | some d=>fb Ω (f d)
 | none=>.bad
@[simp] theorem IV{f:D->Out Rs}:v1 Ω f (some d)=fb Ω (f d):=rfl
@[simp] theorem IW{f:D->Out Rs}:iM f x Ω=v1 Ω f (eR Ω 8 x):=by unfold iM;cases eR Ω 8 x<;>rfl
def v2(Ω:aD)(f:D->D->Out Rs):Option D->Option D->av D
 | some d,some e=>fb Ω (f d e)
 | _,_=>.bad
@[simp] theorem iz{f:D->D->Out Rs}{e:D}:v2 Ω f (some d) (some e)=fb Ω (f d e):=rfl
@[simp] theorem jy{f:D->D->Out Rs}:fw f x y Ω=v2 Ω f (eR Ω 8 x) (eR Ω 8 y):=by unfold fw;cases eR Ω 8 x<;>cases eR Ω 8 y<;>rfl
@[simp] theorem FK{z:Str}:oM .len [.str z]=if small z.length=true then .ok (false,.int z.length) else .bad:=rfl
@[simp] theorem wY{xs:List D}:oM .all [.lst xs]=BZ (fun bs=>bs.all id) (gy xs):=rfl
@[simp] theorem FL{xs:List D}:oM .any [.lst xs]=BZ (fun bs=>bs.any id) (gy xs):=rfl
@[simp] theorem FO{i:Int}:oM .int [.int i]=.ok (false,.int i):=rfl
@[simp] theorem IX{k:Bool}:oM .int [.bl k]=.ok (false,.int (if k then 1 else 0)):=rfl
@[simp] theorem FP{i j:Int}:oM .min [.int i,.int j]=.ok (false,.int (if j < i then j else i)):=rfl
@[simp] theorem FQ{F:bb}{xs:List D}:aN F xs Ω=wJ (F xs Ω):=rfl
@[simp] theorem Lx:wJ (.ok d Ω)=.ok d Ω:=rfl
@[simp] theorem nr{op:CmpOp}:b_ op x y Ω=v2 Ω (fun x y=>do let r ← dY op x y;Out.ok (false,D.bl r)) (eR Ω 8 x) (eR Ω 8 y):=by unfold b_;rw[jy]
@[simp] theorem jz:ax .Eq x y Ω=b_ .Eq x y Ω:=rfl
@[simp] theorem sk:ax .NotEq x y Ω=b_ .NotEq x y Ω:=rfl
@[simp] theorem zN:ax .Lt x y Ω=b_ .Lt x y Ω:=rfl
@[simp] theorem IY:ax .LtE x y Ω=b_ .LtE x y Ω:=rfl
@[simp] theorem IZ:ax .Gt x y Ω=b_ .Gt x y Ω:=rfl
@[simp] theorem I_:ax .GtE x y Ω=b_ .GtE x y Ω:=rfl
@[simp] theorem jA:ax .In x y Ω=kM (b_ .In x y Ω) (gT false x y Ω):=rfl
@[simp] theorem gW:ax .NotIn x y Ω=kM (b_ .NotIn x y Ω) (gT true x y Ω):=rfl
@[simp] theorem Ja:ax .Is x y Ω=kM (eT false x y Ω) (b_ .Is x y Ω):=rfl
@[simp] theorem Cw:ax .IsNot x y Ω=kM (eT true x y Ω) (b_ .IsNot x y Ω):=rfl
@[simp] theorem FR{n:Bool}{k:Nat}:eT n (.ref k) .non Ω=.ok (.bl n) Ω:=rfl
@[simp] theorem DZ{n:Bool}{i:Int}:eT n (.int i) y Ω=.bad:=rfl
@[simp] theorem D1{n:Bool}:eT n .non y Ω=.bad:=rfl
@[simp] theorem FT{n:Bool}{t:Bool}:eT n (.bl t) y Ω=.bad:=rfl
@[simp] theorem D2{n:Bool}{z:Str}:eT n (.str z) y Ω=.bad:=rfl
@[simp] theorem oZ:az .Add x y Ω=kM (qu x y Ω) (kM (mM x y Ω) (fw (eW .Add) x y Ω)):=rfl
@[simp] theorem FU{i:Int}:mM (.int i) y Ω=.bad:=rfl
@[simp] theorem FV{z:Str}:mM (.str z) y Ω=.bad:=rfl
@[simp] theorem FW{k:Nat}:mM (.ref k) y Ω=.bad:=rfl
@[simp] theorem FX{xs ys:List D}:mM (.tup xs) (.tup ys) Ω=if small (xs.length + ys.length) then .ok (.tup (xs++ys)) Ω else .bad:=rfl
@[simp] theorem FY:az .Sub x y Ω=fw (eW .Sub) x y Ω:=rfl
@[simp] theorem D3:az .Mult x y Ω=fw (eW .Mult) x y Ω:=rfl
@[simp] theorem FZ:az .Mod x y Ω=fw (eW .Mod) x y Ω:=rfl
@[simp] theorem Jb:az .FloorDiv x y Ω=fw (eW .FloorDiv) x y Ω:=rfl
@[simp] theorem Jc{i:Int}:c9 Ω (.int i)=none:=rfl
@[simp] theorem Jd{z:Str}:c9 Ω (.str z)=none:=rfl
@[simp] theorem Je{ds:List D}:c9 Ω (.tup ds)=none:=rfl
@[simp] theorem Jf{ds:List D}:c9 Ω (.lst ds)=some ds:=rfl
theorem aM{k:Nat}{ds:List D}(h:Ω[k]?=some (.lst ds)):c9 Ω (.ref k)=some ds:=by simp only[c9,h]
theorem nu{k:Nat}{ds:List D}(h:Ω[k]?=some (.lst ds)):qw Ω (.ref k)=some (k,ds):=by simp only[qw,h]
def ct(Ω:aD):Option (List D)->Option (List D)->av D
 | some xs,some ys=>if small (xs.length + ys.length) then .ok (.ref Ω.length) (Ω++[.lst (xs++ys)]) else .bad
 | _,_=>.bad
@[simp] theorem sm{xs ys:List D}:ct Ω (some xs) (some ys)=if small (xs.length + ys.length) then .ok (.ref Ω.length) (Ω++[.lst (xs++ys)]) else .bad:=rfl
@[simp] theorem Ot{o:Option (List D)}:ct Ω none o=.bad:=rfl
@[simp] theorem sr:qu x y Ω=ct Ω (c9 Ω x) (c9 Ω y):=by unfold qu;cases c9 Ω x<;>cases c9 Ω y<;>rfl
@[simp] theorem zO{ds:List D}:et Ω (.tup ds)=some ds:=rfl
@[simp] theorem bg{k:Nat}:et Ω (.ref k)=c9 Ω (.ref k):=rfl
@[simp] theorem Jg{ds:List D}:et Ω (.lst ds)=some ds:=rfl
def ixs(Ω:aD):Option (List D)->D->av D
 | some ds,.int i=>match L2.iD ds i with
  | some d=>.ok d Ω
  | none=>.bad
 | _,_=>.bad
theorem jB:y9 x y Ω=ixs Ω (et Ω x) y:=by unfold y9;cases et Ω x<;>cases y<;>rfl
theorem qE{ds:List D}{i:Int}(h:L2.iD ds i=some d):ixs Ω (some ds) (.int i)=.ok d Ω:=by simp only[ixs,h]
theorem bq{k:Nat}{ds:List D}{i:Int}(h:Ω[k]?=some (.lst ds))(hi:L2.iD ds i=some d):aA (.ref k) (.int i) Ω=.ok d Ω:=by
 unfold aA;rw[gu,jB,bg,aM h,qE hi];rfl
theorem ek{ds:List D}{i:Int}(hi:L2.iD ds i=some d):aA (.tup ds) (.int i) Ω=.ok d Ω:=by
 unfold aA;rw[gu,jB,zO,qE hi];rfl
@[simp] theorem Jh{xs:List D}:cm xs Ω=if small xs.length then .ok (.ref Ω.length) (Ω++[.lst xs]) else .bad:=rfl
@[simp] theorem Ji{xs:List D}:ik xs Ω=if small xs.length then .ok (.tup xs) Ω else .bad:=rfl
def fl(Ω:aD)(Cs:List Str)(f:Str):Option (Nat×Str×List (Str×D))->av D
 | some (_,C,fs)=>if Cs.contains C then (match fs.lookup f with
  | some d=>.ok d Ω
  | none=>.bad) else .bad
 | none=>.bad
noncomputable def sq(r:gD)(b:SM):gD:=match r with
 | .nx cf ao=>b cf ao
 | r=>r
@[simp] theorem aI:sq (.nx ρ Ω) b=b ρ Ω:=rfl
@[simp] theorem F4:sq (.rt d Ω) b=.rt d Ω:=rfl
@[simp] theorem Ou:sq (.bk ρ Ω) b=.bk ρ Ω:=rfl
@[simp] theorem Ov:sq (.ct ρ Ω) b=.ct ρ Ω:=rfl
@[simp] theorem Ly:sq (.exc d Ω) b=.exc d Ω:=rfl
@[simp] theorem Lz:sq .bad b=.bad:=rfl
@[simp] theorem ak:aj a b ρ Ω=sq (a ρ Ω) b:=by unfold aj;cases a ρ Ω<;>rfl
@[simp] theorem o3:ai ρ Ω=.nx ρ Ω:=rfl
@[simp] theorem cB{i:Nat}:aw i ma ρ Ω=cL (ma ρ Ω) fun d ah=>.nx (ρ.set i (some d)) ah:=rfl
@[simp] theorem fA:eh ma ρ Ω=cL (ma ρ Ω) fun _ ah=>.nx ρ ah:=rfl
@[simp] theorem dn:aQ ma ρ Ω=cL (ma ρ Ω) fun d ah=>.rt d ah:=rfl
@[simp] theorem fB:cW ma a b ρ Ω=cL (dQ (ma ρ Ω)) fun t ah=>if t=true then a ρ ah else b ρ ah:=rfl
@[simp] theorem AZ{ds:List D}:jq [] ds ρ=ρ:=by cases ds<;>rfl
@[simp] theorem zP:fy (.rt d Ω)=.ok d Ω:=rfl
@[simp] theorem Jj:fy (.nx ρ Ω)=.ok .non Ω:=rfl
theorem bF{n k:Nat}{c:SM}{ds:List D}(h:ds.length=k):bu n k c ds Ω=fy (c (aS n ds) Ω):=by unfold bu;rw[if_pos h]
@[simp] theorem fC:cK ma ρ Ω=(ma ρ Ω).bind fun x ah=>srcOf ah x:=rfl
theorem cE{ds:List D}(h:et Ω x=some ds):srcOf Ω x=.ok (.seq x) Ω:=by unfold srcOf;rw[h]
@[simp] theorem F5:bz as ρ Ω=(as ρ Ω).bind rT:=rfl
@[simp] theorem Jk{j:Int}:rT [.int j] Ω=if gx j then .ok (.ints 0 j.toNat) Ω else .bad:=rfl
@[simp] theorem eI:iq (.seq x) Ω=et Ω x:=rfl
@[simp] theorem F6{lo:Int}{n:Nat}:iq (.ints lo n) Ω=some (intsFrom lo n):=rfl
@[simp] theorem fD{put:D->aU->Option aU}{mi:IM}:c_ put mi b ρ Ω=cL (mi ρ Ω) fun s ah=>eH put s b fuel 0 ρ ah:=rfl
def A0(r:gD)(I:aU->aD->Prop)(R:gD->Prop):Prop:=match r with
 | .nx ρ Ω=>I ρ Ω
 | .ct ρ Ω=>I ρ Ω
 | .bk ρ Ω=>R (.nx ρ Ω)
 | r=>R r
theorem dC{put:D->aU->Option aU}{src:Src}{b:SM}{ds:List D}(I:Nat->aU->aD->Prop){R:gD->Prop}(LA:∀ i ρ Ω,I i ρ Ω->iq src Ω=some ds)
  (h:∀ (i:Nat) (d:D) ρ Ω,ds[i]?=some d->I i ρ Ω->∃ xR,put d ρ=some xR/\A0 (b xR Ω) (I (i + 1)) R) (hR:∀ ρ Ω,I ds.length ρ Ω->R (.nx ρ Ω)) :
  ∀ (f i:Nat) ρ Ω,ds.length - i < f->i<=ds.length->I i ρ Ω->R (eH put src b f i ρ Ω):=by
 intro f
 induction f with
 | zero=>intro i ρ Ω hf;omega
 | succ f ih=>
  intro i ρ Ω hf hi h0;simp only[eH,LA i ρ Ω h0]
  by_cases hlt:i < ds.length
  ·have hd:ds[i]?=some ds[i]:=List.getElem?_eq_getElem hlt
   rw[hd];dsimp only;obtain⟨xR,e1,e2⟩:=h i ds[i] ρ Ω hd h0;rw[e1];dsimp only;cases q:b xR Ω with
   | nx cf ao=>rw[q]at e2;exact ih (i + 1) cf ao (by omega) hlt e2
   | ct cf ao=>rw[q]at e2;exact ih (i + 1) cf ao (by omega) hlt e2
   | bk cf ao=>rw[q]at e2;exact e2
   | rt d ao=>rw[q]at e2;exact e2
   | exc x ao=>rw[q]at e2;exact e2
   | bad=>rw[q]at e2;exact e2
  ·have hd:ds[i]?=none:=List.getElem?_eq_none (by omega)
   rw[hd];have:i=ds.length:=by omega
   subst this;exact hR ρ Ω h0
theorem zQ{nc:Bool}{mc me:EM}{τ:aU}{src:Src}{ds:List D}{p:D->Bool}{g:D->D}(hs:iq src Ω=some ds)(hc:∀ d∈ds,iN nc mc ([some d]++τ) Ω=.ok (p d) Ω)(he:∀ d∈ds,p d=true->me ([some d]++τ) Ω=.ok (g d) Ω) :
  ∀ (f i:Nat) (acc:List D),ds.length - i < f->i<=ds.length->acc.length + ds.length<=100000 + i->uv nc mc me 0 τ src f i acc Ω=.ok (acc++((ds.drop i).filter p).map g) Ω:=by
 intro f
 induction f with
 | zero=>intro i acc hf;omega
 | succ f ih=>
  intro i acc hf hi ha;simp only[uv,hs]
  by_cases hlt:i < ds.length
  ·have hd:ds[i]?=some ds[i]:=List.getElem?_eq_getElem hlt
   have hm:ds[i]∈ds:=List.getElem_mem hlt;rw[hd];have ht:oO 0 ds[i]=some [some ds[i]]:=rfl;simp only[ht];rw[if_pos (bc (n:=acc.length + 1) (by omega)),hc _ hm,List.drop_eq_getElem_cons hlt,List.filter_cons]
   cases hp:p ds[i] with
   | true=>
    dsimp only;rw[he _ hm hp];dsimp only;rw[ih (i + 1) _ (by omega) hlt (by rw[List.length_append];simp;omega)]
    simp
   | false=>
    dsimp only;rw[ih (i + 1) _ (by omega) hlt (by omega)]
    simp
  ·have hd:ds[i]?=none:=List.getElem?_eq_none (by omega)
   rw[hd,List.drop_of_length_le (by omega)]
   simp
theorem dE{me mc:EM}{nc:Bool}{mi:IM}{cap:List Nat}{src:Src}{ds:List D}{p:D->Bool}{g:D->D}(hi:mi ρ Ω=.ok src ao)(hs:iq src ao=some ds)(hc:∀ d∈ds,iN nc mc ([some d]++dR cap ρ) ao=.ok (p d) ao)(he:∀ d∈ds,p d=true->me ([some d]++dR cap ρ) ao=.ok (g d) ao)(hl:ds.length<=90000) :
  cp me nc mc mi 0 cap ρ Ω=.ok (.ref ao.length) (ao++[.lst ((ds.filter p).map g)]):=by
 unfold cp;rw[hi];dsimp only;rw[zQ hs hc he fuel 0 [] (by unfold fuel;omega) (Nat.zero_le _) (by simp;omega)]
 rfl
theorem su{k:Nat}{c:Cell}{l:aD}(h:Ω[k]?=some c):(Ω++l)[k]?=some c:=by rw[List.getElem?_append_left (List.getElem?_eq_some_iff.mp h).1];exact h
theorem aE{c:Cell}{l:aD}:(Ω++c::l)[Ω.length]?=some c:=by rw[List.getElem?_append_right (Nat.le_refl _)];simp
theorem gX{j k:Nat}{c e:Cell}(h:Ω[k]?=some c)(hn:k≠j):(Ω.set j e)[k]?=some c:=by rw[List.getElem?_set_ne (Ne.symm hn)];exact h
theorem cR{k:Nat}{c e:Cell}(h:Ω[k]?=some c):(Ω.set k e)[k]?=some e:=List.getElem?_set_self (List.getElem?_eq_some_iff.mp h).1
theorem dg{k:Nat}{c:Cell}(h:Ω[k]?=some c):k < Ω.length:=(List.getElem?_eq_some_iff.mp h).1
structure aq(fp:List Nat)(Ω ao:aD):Prop where
 len:Ω.length<=ao.length
 get:∀ k c,Ω[k]?=some c->k∉fp->ao[k]?=some c
theorem aq.refl{fp:List Nat}:aq fp Ω Ω:=⟨Nat.le_refl _,fun _ _ h _=>h⟩
theorem aq.trans{fp:List Nat}{ah ay aP:aD}(h:aq fp ah ay)(h':aq fp ay aP):aq fp ah aP:=⟨Nat.le_trans h.len h'.len,fun k c q n=>h'.get k c (h.get k c q n) n⟩
theorem aq.app{fp:List Nat}{l:aD}:aq fp Ω (Ω++l):=⟨by simp,fun k c h _=>su h⟩
theorem aq.set{fp:List Nat}{j:Nat}{c:Cell}(h:j∈fp):aq fp Ω (Ω.set j c):=⟨by simp,fun k e q n=>gX q fun z=>n (z▸h)⟩
theorem aq.sub{fp fq:List Nat}(h:aq fp Ω ao)(hs:∀ k∈fp,k∈fq):aq fq Ω ao:=⟨h.len,fun k c q n=>h.get k c q fun z=>n (hs k z)⟩
end
section
variable{Ω ao:aD}{ρ:aU}{d x y:D}{k:Nat}{ws:List Str}{w:Str}{L:List (List Str)}{rs:List Nat}
theorem cP{ds:List D}(h:Ω[k]?=some (.lst ds)):aW .len [.ref k] Ω=.ok (.int ds.length) Ω:=by
 show kM (we [.ref k] Ω) _=_
 simp only[we,bg,aM h];rfl
theorem dh{ds:List D}{d:D}(h:Ω[k]?=some (.lst ds))(hs:ds.length<=1000):bB (.ref k) [d] Ω=.ok .non (Ω.set k (.lst (ds++[d]))):=by
 simp only[bB,nu h];rw[if_pos (bc (by omega))]
theorem dq{ds:List D}(h:Ω[k]?=some (.lst ds)):fL Ω (.ref k)=true:=by simp only[fL,aM h];rfl
theorem nv(h:Ω[k]?=some (.lst (ws.map .str))):ax .In (.str w) (.ref k) Ω=.ok (.bl (decide (w∈ws))) Ω:=by
 simp[dB (n:=7) h]
theorem nz(h:Ω[k]?=some (.lst (ws.map .str))):ax .NotIn (.str w) (.ref k) Ω=.ok (.bl (!decide (w∈ws))) Ω:=by
 simp[dB (n:=7) h]
theorem F7{α β:Type}[BEq α][LawfulBEq α]{f:α->β}{p:β->Bool}{a:α}(hp:∀ b,p (f b)=(b == a)):∀ (xs:List α),a∈xs->(xs.map f).findIdx? p=some (xs.idxOf a)
 | [],h=>by simp at h
 | b::xs,h=>by
  rw[List.map_cons,List.findIdx?_cons,hp,List.idxOf_cons];cases e:b == a with
  | true=>rfl
  | false=>
   have hm:a∈xs:=by
    rcases List.mem_cons.mp h with z | z
    ·rw[z,beq_self_eq_true]at e;cases e
    ·exact z
   simp[F7 hp xs hm]
theorem qF(h:w∈ws):mx .index (.lst (ws.map .str)) (.tup [.str w])=.ok (false,.int (ws.idxOf w:Nat)):=by
 have e:(ws.map D.str).findIdx? (fun y=>dJ y (.str w))=some (ws.idxOf w):=F7 (fun b=>rfl) ws h
 unfold mx;simp only[mH 8 ws,e];rfl
theorem iP(h:Ω[k]?=some (.lst (ws.map .str)))(hw:w∈ws):cC (.ref k) [.str w] Ω=.ok (.int (ws.idxOf w:Nat)) Ω:=by
 have:=qF hw;simp only[cC,jy,dB (n:=7) h,ni,iz,L1,this];rfl
theorem gj{n:Nat}(hk:Ω[k]?=some (.lst (rs.map .ref)))(h:aL (fun j row=>Ω[j]?=some (.lst (row.map .str))) rs L):eR Ω (n + 2) (.ref k)=some (LL L):=by
 refine nq (es:=L.map L1) hk ?_;clear hk
 induction h with
 | nil=>rfl
 | cons h1 h2 ih=>rw[List.map_cons,nj,dB h1,ih];rfl
theorem F8{mc me:EM}{τ:aU}{src:Src}{ds:List D}{g:D->D}(I:aD->Prop)(hs:∀ Ω,I Ω->iq src Ω=some ds)(he:∀ d∈ds,∀ Ω,I Ω->∃ ao,me ([some d]++τ) Ω=.ok (g d) ao/\I ao) :
  ∀ (f i:Nat) (acc:List D) Ω,I Ω->ds.length - i < f->i<=ds.length->acc.length + ds.length<=100000 + i->∃ ao,uv true mc me 0 τ src f i acc Ω=.ok (acc++(ds.drop i).map g) ao/\I ao:=by
 intro f
 induction f with
 | zero=>intro i acc Ω h0 hf;omega
 | succ f ih=>
  intro i acc Ω h0 hf hi ha;simp only[uv,hs Ω h0]
  by_cases hlt:i < ds.length
  ·have hd:ds[i]?=some ds[i]:=List.getElem?_eq_getElem hlt
   have hm:ds[i]∈ds:=List.getElem_mem hlt;rw[hd];have ht:oO 0 ds[i]=some [some ds[i]]:=rfl;obtain⟨ah,e1,h1⟩:=he _ hm Ω h0;have hc:iN true mc ([some ds[i]]++τ) Ω=.ok true Ω:=rfl;simp only[ht];rw[if_pos (bc (n:=acc.length + 1) (by omega)),hc,List.drop_eq_getElem_cons hlt]
   dsimp only;rw[e1];dsimp only;obtain⟨ay,e2,h2⟩:=ih (i + 1) (acc++[g ds[i]]) ah h1 (by omega) hlt (by rw[List.length_append];simp;omega)
   exact⟨ay,by rw[e2,List.append_assoc];rfl,h2⟩
  ·have hd:ds[i]?=none:=List.getElem?_eq_none (by omega)
   rw[hd,List.drop_of_length_le (by omega)]
   exact⟨Ω,by simp,h0⟩
theorem Cy{me mc:EM}{mi:IM}{cap:List Nat}{src:Src}{ds:List D}{g:D->D}(I:aD->Prop)(hi:mi ρ Ω=.ok src ao)(h0:I ao)(hs:∀ Ω,I Ω->iq src Ω=some ds)(he:∀ d∈ds,∀ Ω,I Ω->∃ ao,me ([some d]++dR cap ρ) Ω=.ok (g d) ao/\I ao)(hl:ds.length<=90000) :
  ∃ ay,cp me true mc mi 0 cap ρ Ω=.ok (.ref ay.length) (ay++[.lst (ds.map g)])/\I ay:=by
 obtain⟨ay,e2,h2⟩:=F8 (mc:=mc) I hs he fuel 0 [] ao h0 (by unfold fuel;omega) (Nat.zero_le _) (by simp;omega)
 refine⟨ay,?_,h2⟩;unfold cp;rw[hi];dsimp only;rw[e2];rfl
theorem dI{xQ:aD->D->Bool}{f:D->List D->aD->av D}{mo:EM}{as:AM}(ho:mo ρ Ω=.ok x ao)(h:xQ ao x=true):bP xQ f mo as ρ Ω=(as ρ ao).bind fun xs ay=>f x xs ay:=by
 unfold bP;rw[ho]
 show(if xQ ao x=true then _ else _)=_
 rw[if_pos h]
end
variable [aJ]
section
variable{Ω ao ah ay:aD}{ρ:aU}{k q:Nat}{x y:D}
theorem aq.new{fp:List Nat}(h:aq [] Ω ah)(h':aq fp ah ay)(hf:∀ j∈fp,Ω.length<=j):aq [] Ω ay:=⟨Nat.le_trans h.len h'.len,fun k c e _=>h'.get k c (h.get k c e (by simp)) fun z=>by have:=hf k z;have:=dg e;omega⟩
theorem kG.up{fp:List Nat}(h:aq [] Ω ao):aq fp Ω ao:=h.sub (by simp)
@[simp] theorem F9{z:Str}:aA (.str z) y Ω=v2 Ω pU (some (.str z)) (eR Ω 8 y):=by
 unfold aA;rw[gu,gu,jB,jy];simp[et,c9,ixs,Fu,B9]
@[simp] theorem F_{z:Str}{l h:Option Int}:ey (.str z) l h Ω=fb Ω (vi (.str z) l h):=rfl
@[simp] theorem wZ{ma ml mh:EM}{nl nh:Bool}:br ma nl ml nh mh ρ Ω=(ma ρ Ω).bind fun x ah=>(f9 nl ml ρ ah).bind fun l ay=>(f9 nh mh ρ ay).bind fun h aP=>ey x l h aP:=rfl
@[simp] theorem zR{m:EM}:f9 true m ρ Ω=.ok none Ω:=rfl
noncomputable def Ow(Ω:aD):D->av (Option Int)
 | .int i=>.ok (some i) Ω
 | _=>.bad
@[simp] theorem zS{m:EM}:f9 false m ρ Ω=(m ρ Ω).bind fun d ah=>Ow ah d:=by
 simp only[f9,Bool.false_eq_true,if_false]
 congr 1
@[simp] theorem zT{i:Int}:Ow Ω (.int i)=.ok (some i) Ω:=rfl
end
def nC:EM:=cp (m2 aA (aa 2) (m2 (az .Mod) (m2 (az .Add) (aa 1) (m2 (az .Mult) (aa 0) (aa 3))) (ae (.int 26)))) true (ae .non) (bz (U (ae (.int 8)) ag)) 0 [4,3,5]
def nD:EM:=cp (br (aa 1) true (ae .non) false (m2 (az .Add) (aa 0) (ae (.int 1)))) true (ae .non) (bz (U (aa 2) ag)) 0 [6]
section
variable{Ω:aD}{F:List D->Out Rs}{δ:List Int->Int->Int->Int}{ns:List Int}
end
section
variable{κ β:Type}[DecidableEq κ]
end
section
variable{Ω ao:aD}{F:List D->Out Rs}{δ:List Int->Int->Int->Int}{ns:List Int}{t:Nat}{kvs:List (List Key×D)}
def tB(F:List D->Out Rs):SM:=(aj (aw 8 (mN (aV F) (U (aa 0) (U (m2 (az .Add) (m2 (az .Add) (aa 1) (ae (.int 1))) (mN (aW .len) (U (aa 4) ag))) (U (m2 (az .Mult) (ae (.int 2)) (aa 5)) ag)))))
 (aj (FA (aa 4) (mN ik (U (aa 6) (U (aa 7) ag))) (m2 aA (mN cm (U (ae (.int 1)) (U (ae (.int 2)) (U (ae (.int 0)) ag)))) (mN (aW .min) (U (ae (.int 2)) (U (aa 8) ag)))))
 ai))
end
theorem gv{O:bb}{ds:List D}{d:D}{ao:aD}(h1:ds.all Ct=true)(h:O ds []=.ok d ao)(hf:eG d=true):pureOf O ds=.ok (false,d):=by
 unfold pureOf;rw[if_pos h1,h];dsimp only;rw[if_pos hf]
def Ga:SM:=(aj (aw 3 (m2 (az .FloorDiv) (aa 3) (ae (.int 840)))) ai)
def Gb:SM:=(cW (cJ (m2 (ax .Eq) (m2 (az .Mod) (aa 0) (ae (.int 2))) (ae (.int 1))) (m2 (ax .Gt) (aa 0) (m2 (az .Pow) (ae (.int 10)) (ae (.int 18)))))
 (aj (c_ (bY 4) (bz (U (aa 1) ag)) Ga)
 (aj (aQ (m2 (az .Mod) (m2 (az .Mod) (aa 3) (ae (.int 840))) (aa 2)))
 ai))
 ai)
def Ox:SM:=(aj (aw 5 (mN cm (U (ae (.int 48271)) (U (ae (.int 69621)) (U (ae (.int 40692)) (U (ae (.int 39373)) (U (ae (.int 16807)) (U (ae (.int 30323)) (U (ae (.int 21403)) (U (ae (.int 62089)) (U (ae (.int 45742)) (U (ae (.int 37907)) (U (ae (.int 53611)) (U (ae (.int 28411)) (U (ae (.int 59393)) (U (ae (.int 33391)) ag))))))))))))))))
 (aj (aw 6 (m2 (az .Mod) (m2 (az .Mult) (m2 (az .Add) (m2 (az .Mod) (aa 0) (ae (.int 1000000007))) (ae (.int 11))) (m2 aA (aa 5) (m2 (az .Mod) (aa 1) (ae (.int 14))))) (ae (.int 2147483629))))
 (aj (aw 7 (m2 (az .Mod) (m2 (az .Mult) (aa 6) (m2 (az .Add) (aa 6) (aa 1))) (ae (.int 1999999973))))
 (aj (aQ (m2 (az .Mod) (m2 (az .FloorDiv) (m2 (az .Mod) (m2 (az .Mult) (aa 7) (ae (.int 16807))) (ae (.int 998244353))) (ae (.int 1000))) (aa 2)))
 ai))))
def lQ:SM:=
 (aj (aw 3 (m2 (az .FloorDiv) (aa 0) (ae (.int 2))))
 (aj Gb Ox))
@[simp] theorem Gd{x y:D}{Ω:aD}:az .Pow x y Ω=fw (eW .Pow) x y Ω:=rfl
theorem zU{c t m:Int}(ht:0<=t)(ht':t < 100000)(hm:0 < m):∃ r,0<=r/\r < m/\pureOf (bu 8 3 lQ) [.int c,.int t,.int m]=.ok (false,.int r):=by
 have key:∃ r ao,0<=r/\r < m/\bu 8 3 lQ [.int c,.int t,.int m] []=.ok (.int r) ao:=by
  rw[bF (by rfl)]
  have e0:aS 8 [D.int c,.int t,.int m]=[some (.int c),some (.int t),some (.int m),none,none,none,none,none]:=rfl;rw[e0];unfold lQ;have r1:(aw 3 (m2 (az .FloorDiv) (aa 0) (ae (.int 2)))) [some (.int c),some (.int t),some (.int m),none,none,none,none,none] []=.nx [some (.int c),some (.int t),some (.int m),some (.int (c / 2)),none,none,none,none] []:=by simp
  rw[ak,r1,aI,ak]
  by_cases hc:c % 2=1/\1000000000000000000 < c
  ·have hin:gx t=true:=dj (by omega) (by omega)
   have hL:∃ x s4,eH (bY 4) (.ints 0 t.toNat) Ga fuel 0 [some (.int c),some (.int t),some (.int m),some (.int (c / 2)),none,none,none,none] []=.nx [some (.int c),some (.int t),some (.int m),some (.int x),s4,none,none,none] []:=by
    refine dC (R:=fun r=>∃ x s4,r=.nx [some (.int c),some (.int t),some (.int m),some (.int x),s4,none,none,none] []) (ds:=intsFrom 0 t.toNat) (fun _ ρ Ω=>∃ x s4,ρ=[some (.int c),some (.int t),some (.int m),some (.int x),s4,none,none,none]/\Ω=[]) (fun _ _ _ _=>rfl) ?_ ?_ fuel 0 _ _ (by rw[bS];unfold fuel;omega) (Nat.zero_le _) ⟨_,_,rfl,rfl⟩
    ·rintro i d ρ Ω hd ⟨x,s4,rfl,rfl⟩
     refine⟨_,rfl,?_⟩;have e:Ga [some (.int c),some (.int t),some (.int m),some (.int x),some d,none,none,none] []=.nx [some (.int c),some (.int t),some (.int m),some (.int (x / 840)),some d,none,none,none] []:=by simp[Ga]
     show A0 (Ga [some (.int c),some (.int t),some (.int m),some (.int x),some d,none,none,none] []) _ _
     rw[e];exact⟨_,_,rfl,rfl⟩
    ·rintro ρ Ω ⟨x,s4,rfl,rfl⟩
     exact⟨x,s4,rfl⟩
   obtain⟨x,s4,hL⟩:=hL;refine⟨x % 840 % m,[],Int.emod_nonneg _ (by omega),Int.emod_lt_of_pos _ hm,?_⟩
   simp[Gb,hc.1,hc.2,hin,hL,hm]
  ·obtain⟨d,hd,e⟩:=B1 (xs:=[D.int 48271,.int 69621,.int 40692,.int 39373,.int 16807,.int 30323,.int 21403,.int 62089,.int 45742,.int 37907,.int 53611,.int 28411,.int 59393,.int 33391]) (i:=t % 14) (Int.emod_nonneg _ (by omega)) (Int.emod_lt_of_pos _ (by omega))
   obtain⟨v,rfl⟩:∃ v,d=.int v:=by
    simp only[List.mem_cons,List.not_mem_nil,or_false]at hd;rcases hd with h | h | h | h | h | h | h | h | h | h | h | h | h | h<;>exact⟨_,h⟩
   have hg:([]++[Cell.lst [D.int 48271,.int 69621,.int 40692,.int 39373,.int 16807,.int 30323,.int 21403,.int 62089,.int 45742,.int 37907,.int 53611,.int 28411,.int 59393,.int 33391]]:aD)[0]?=some (.lst [D.int 48271,.int 69621,.int 40692,.int 39373,.int 16807,.int 30323,.int 21403,.int 62089,.int 45742,.int 37907,.int 53611,.int 28411,.int 59393,.int 33391]):=rfl;have hx:=bq hg e;have i1:kW (c % 1000000007 + 11)=true:=jm (by omega) (by omega)
   have i2:kW ((c % 1000000007 + 11) * v % 2147483629)=true:=jm (by omega) (by omega)
   have i3:kW ((c % 1000000007 + 11) * v % 2147483629 * ((c % 1000000007 + 11) * v % 2147483629 + t) % 1999999973)=true:=jm (by omega) (by omega)
   have rI:Gb [some (.int c),some (.int t),some (.int m),some (.int (c / 2)),none,none,none,none] []=.nx [some (.int c),some (.int t),some (.int m),some (.int (c / 2)),none,none,none,none] []:=by
    by_cases h1:c % 2=1
    ·have h2:¬ 1000000000000000000 < c:=fun z=>hc ⟨h1,z⟩
     simp[Gb,h1,h2]
    ·have hb:(c % 2 == 1)=false:=by simpa using h1
     simp[Gb,hb]
   refine⟨(c % 1000000007 + 11) * v % 2147483629 * ((c % 1000000007 + 11) * v % 2147483629 + t) % 1999999973 * 16807 % 998244353 / 1000 % m,([]++[Cell.lst [D.int 48271,.int 69621,.int 40692,.int 39373,.int 16807,.int 30323,.int 21403,.int 62089,.int 45742,.int 37907,.int 53611,.int 28411,.int 59393,.int 33391]]:aD),Int.emod_nonneg _ (by omega),Int.emod_lt_of_pos _ hm,?_⟩
   rw[rI,aI];have r5:(aw 5 (mN cm (U (ae (.int 48271)) (U (ae (.int 69621)) (U (ae (.int 40692)) (U (ae (.int 39373)) (U (ae (.int 16807)) (U (ae (.int 30323)) (U (ae (.int 21403)) (U (ae (.int 62089)) (U (ae (.int 45742)) (U (ae (.int 37907)) (U (ae (.int 53611)) (U (ae (.int 28411)) (U (ae (.int 59393)) (U (ae (.int 33391)) ag)))))))))))))))) [some (.int c),some (.int t),some (.int m),some (.int (c / 2)),none,none,none,none] []=.nx [some (.int c),some (.int t),some (.int m),some (.int (c / 2)),none,some (.ref 0),none,none] ([]++[Cell.lst [D.int 48271,.int 69621,.int 40692,.int 39373,.int 16807,.int 30323,.int 21403,.int 62089,.int 45742,.int 37907,.int 53611,.int 28411,.int 59393,.int 33391]]):=rfl;unfold Ox;rw[ak,r5,aI];generalize ([]++[Cell.lst [D.int 48271,.int 69621,.int 40692,.int 39373,.int 16807,.int 30323,.int 21403,.int 62089,.int 45742,.int 37907,.int 53611,.int 28411,.int 59393,.int 33391]]:aD)=ah at hx;simp[hx,i1,i2,i3,hm]
 obtain⟨r,ao,h0,h1,e⟩:=key;exact⟨r,h0,h1,gv rfl e rfl⟩
section
variable{Ω ao:aD}{ρ:aU}{σ:Str->Int}{t kl:Nat}{kvs:List (List Key×D)}{line:List Str}{w x:Str}
theorem sv{ds:List D}{n:Nat}:cQ ds none (some (n:Int))=ds.take n:=vW ds n
theorem nB{n:Nat}(h:Ω[kl]?=some (.lst (line.map .str))):ey (.ref kl) none (some (n:Int)) Ω=.ok (.ref Ω.length) (Ω++[.lst ((line.take n).map .str)]):=by
 simp only[ey,aM h,dS,sv,List.map_take]
@[simp] theorem Jl{ty:Ty}{ds:List D}:bG ty (.tup ds) Ω=.ok (.bl (ty == .tuple)) Ω:=rfl
@[simp] theorem Jm{ty:Ty}{z:Str}:bG ty (.str z) Ω=.ok (.bl (ty == .str)) Ω:=rfl
@[simp] theorem Jn{ty:Ty}:bG ty .non Ω=.ok (.bl false) Ω:=rfl
@[simp] theorem Ge{ds:List D}:aW .len [.tup ds] Ω=.ok (.int ds.length) Ω:=rfl
end
section
variable{Ω ao:aD}{ρ:aU}
end
section
variable{Ω ao:aD}{ρ:aU}{σ:Str->Int}{kl fn b:Nat}{line ys:List Str}{w:Str}{M:List (List D->bb)}{fp:List Nat}{I:List Str->aD->Prop}
theorem sx{k j:Nat}{us vs:List Str}(h:Ω[k]?=some (.lst (us.map .str)))(h':Ω[j]?=some (.lst (vs.map .str))):ax .Eq (.ref k) (.ref j) Ω=.ok (.bl (decide (us=vs))) Ω:=by
 rw[jz,nr,dB (n:=7) h,dB (n:=7) h',iz]
 have e:dY .Eq (L1 us) (L1 vs)=.ok (decide (us=vs)):=by
  rw[vV,vY 7,vY 7]
  show(if (true && true)=true then Out.ok (dX (us.map .str) (vs.map .str)) else .bad)=_
  rw[rL];rfl
 rw[e];rfl
def wB(M:List (List D->bb)):SM:=(aj (cW (fh (m2 (ax .NotEq) (br (aa 0) false (aa 5) false (m2 (az .Add) (aa 5) (ae (.int 1)))) (mN cm (U (aa 6) ag))) (m2 (ax .NotEq) (Co M 2 (U (aa 6) (U (aa 1) ag))) (ae (.int 0))))
 (aj (aQ (aa 5))
 ai)
 ai)
 ai)
theorem Cz{i:Nat}{us:List Str}(h:Ω[kl]?=some (.lst (us.map .str))):ey (.ref kl) (some (i:Int)) none Ω=.ok (.ref Ω.length) (Ω++[.lst ((us.drop i).map .str)]):=by
 simp only[ey,aM h,dS,j4,List.map_drop]
end
open PySem.Spec PyProof.Rows
section
variable{P:Program}{w:World}{K:PySem.W.Frag}{mg:Str->Option Value}{base:Heap}{T:aY}{k:Nat}
end
section
variable{P:Program}{w:World}{K:PySem.W.Frag}{mg:Str->Option Value}{base:Heap}{k:Nat}
end
section
variable{P:Program}{w:World}{K:PySem.W.Frag}{mg:Str->Option Value}{base:Heap}{k:Nat}
end
structure CA(K:PySem.W.Frag)(x qual:Str)(st:Stmt)(dV:Value)(f:Addr)(fd:FuncData):Prop where
 ex:∃ (oc:Value) (od:Option Addr) (kV doc pm:Value) (an:Option Addr) (cdv ct:Value) (osl:Array (Option Value)),
  fd=PySem.W.fnOf x qual (bQ st) (aT st) (af st) dV kV doc pm an cdv ct/\K.lookup f=some ⟨oc,od,.func fd,osl⟩/\PySem.W.codeIn K cdv qual=true
 kp:PySem.W.keepIn K (.ref f)=true
section
variable{P:Program}{w:World}{K:PySem.W.Frag}{mg:Str->Option Value}{base:Heap}{T:aY}{k:Nat}
theorem nE(W:bA P w K mg base T k){x qual:Str}{st:Stmt}{dV:Value}{f:Addr}{fd:FuncData}(F:CA K x qual st dV f fd){N ps td:List Str}{c:SM}(hs:bD N ps (af st)=true)(hc:cU T td st N=some c) :
    bO P w K mg base dW (k + 1) f fd ps (cM (bh mg) (bu N.length ps.length c)):=by
  obtain⟨oc,od,kV,doc,pm,an,cdv,ct,osl,rfl,lk,hcd⟩:=F.ex;have Sc:=dP hs;refine uR lk hcd Sc (fun vs H Q E h => ?_) fun A outer s H vs Q E hr h => ?_
  · obtain⟨α,Z,Ω,ds,S,r,g⟩:=h
    rw[r.length];unfold bu at g;split at g
    · rename_i hl;exact hl
    · exact g.elim
  · obtain⟨α,Z,Ω,ds,S,r,g⟩:=h
    have G:df (bW dW P w K mg base N qual (af st) f cdv A outer s H E).iT (bh mg) T k (af st) N:=
      { scope:=rfl,names:=rfl,calm:=rfl,room:=hr,cN:=W.cN,own:=PassesOwn.never,DY:=fun _ _ _=>.inl rfl,nL:=Sc.nd,kind:=Sc.kind,iT:=fun _ _ _ h=>h,fld:=W.fld,cst:=W.cst
        iu:=fun x F h=>⟨W.iu x F h⟩,fn:=fun x F h=>⟨W.fn x F h⟩,met:=fun m C F h=>⟨W.met m C F h⟩,cls:=fun C F h=>let ⟨j,h1,h2⟩:=W.cls C F h;⟨j,h1,⟨h2⟩⟩,clo:=W.clo }
    refine⟨Cn (bh mg) i5 α Z H c (aS N.length ds) Ω,(dA (jt G 30 60) hc α Z H (aS N.length ds) Ω).iT,α,Z,ei S r,?_⟩;unfold bu at g;split at g
    · cases q:c (aS N.length ds) Ω with
      | rt d ao=>rw[q]at g;exact fun v H' α' Z' gr st r=>g v H' α' Z' gr st r
      | nx ρ ao=>rw[q]at g;exact fun σ H' α' Z' S'=>g .non H' α' Z' S'.gr S'.st (aX rfl)
      | bk ρ ao=>rw[q]at g;exact g.elim
      | ct ρ ao=>rw[q]at g;exact g.elim
      | exc x ao=>rw[q]at g;exact g
      | bad=>rw[q]at g;exact g.elim
    · exact g.elim
end
noncomputable def eD(C fld:Str)(d:D):D:=.tup [.str C,.str fld,d]
def nF(C fld:Str)(mv:EM)(m:EM):SM:=fun ρ Ω=>cL (m ρ Ω) fun d ah=>match mv [none,some d] ah with
 | .ok d' ay=>.exc (eD C fld d') ay
 | _=>.bad
def gE(κ:Str->Addr->Prop)(E:XK):fK:=fun x Ω α Z H=>∃ C fld d,x=eD C fld d/\∀ Ca v dd,κ C Ca->au α Z H d v->H dd=none->E (.ref Ca) (some dd) (upd H dd (.xd [(fld,v)]))
def kH(κ:Str->Addr->Prop)(F:bb):Sp:=fun vs H Q E=>∃ α Z Ω ds,bt κ α Z Ω H/\aL (au α Z H) ds vs/\bK κ (gE κ E) α Z H (F ds Ω) Q
def sy(R:List Stmt->Option SM)(T:aY)(td:List Str)(k:Nat)(sc:Scope)(N:List Str)(st:Stmt):Option SM:=match st with
 | .If c a b _=>o2 (cj T k sc N c) (o2 (R a) (R b) Prod.mk) fun x y=>cW x y.1 y.2
 | .While c b [] _=>o2 (cj T k sc N c) (R b) qy
 | .For (.Name x _) it b [] _=>if isSet it then none else o2 (iy T sc N x) (o2 (gi (cj T k sc N) sc it) (R b) Prod.mk) fun i y=>c_ (bY i) y.1 y.2
 | _=>gU T td k sc N 1 st
def je(hk:Stmt->Option SM)(T:aY)(td:List Str)(k:Nat)(sc:Scope)(N:List Str):Nat->Stmt->Option SM
 | 0,_=>none
 | n + 1,st=>match hk st with
  | some c=>some c
  | none=>sy (cq (je hk T td k sc N n)) T td k sc N st
section
variable{X:Cx}{κ:Str->Addr->Prop}{Φ:fK}{T:aY}{k:Nat}{sc:Scope}{N td:List Str}{hk:Stmt->Option SM}
theorem sD(G:df X κ T k sc N)(hh:∀ st c,hk st=some c->km X κ Φ st c):∀ (n kk:Nat) (st:Stmt) (c:SM),je hk T td kk sc N n st=some c->km X κ Φ st c:=by
 intro n kk;have E:∀ e m,cj T kk sc N e=some m->kN X κ e m:=fun e m q=>ej kk X sc N e m G.toGoodO q
 induction n with
 | zero=>intro st c h;cases h
 | succ n ih=>
  intro st c h;have B:∀ ss c,cq (je hk T td kk sc N n) ss=some c->ir X κ Φ ss c:=fun ss c q=>dA ih q
  have hN:X.N.Nodup:=by rw[G.names];exact G.nL
  cases hq:hk st with
  | some c'=>
   replace h:(match hk st with | some c=>some c | none=>sy (cq (je hk T td kk sc N n)) T td kk sc N st)=some c:=h
   rw[hq]at h;cases h;exact hh _ _ hq
  | none=>
   have D:gU T td kk sc N 1 st=some c->km X κ Φ st c:=fun q=>jt G 1 kk st c q
   replace h:(match hk st with | some c=>some c | none=>sy (cq (je hk T td kk sc N n)) T td kk sc N st)=some c:=h
   rw[hq]at h;replace h:sy (cq (je hk T td kk sc N n)) T td kk sc N st=some c:=h;cases st with
   | If c0 a b pos=>
    obtain⟨m,y,h1,h2,rfl⟩:=bp h;obtain⟨ca,cb,h3,h4,rfl⟩:=bp h2;exact wD ((E c0 m h1).2.1 Φ) (B a ca h3) (B b cb h4)
   | While c0 b e pos=>
    cases e with
    | nil=>
     obtain⟨m,cb,h1,h2,rfl⟩:=bp h;exact lP G.own ((E c0 m h1).2.1 Φ) (B b cb h2)
    | cons _ _=>exact D h
   | For tg it b e pos=>
    cases e with
    | nil=>
     cases tg with
     | Name x px=>
      replace h:(if isSet it=true then none else o2 (iy T sc N x) (o2 (gi (cj T kk sc N) sc it) (cq (je hk T td kk sc N n) b) Prod.mk) fun i y=>c_ (bY i) y.1 y.2)=some c:=h
      split at h
      ·cases h
      ·rename_i hs
       obtain⟨i,y,h1,h2,rfl⟩:=bp h;obtain⟨mi,cb,h3,h4,rfl⟩:=bp h2;obtain⟨s1,s2,s3⟩:=gq G h1;exact mY G.own G.calm (kz G.toGoodO E h3 Φ _) (ji hN s1 s2 s3) (wG i) (B b cb h4) (ib (by simpa using hs))
     | _=>exact D h
    | cons _ _=>cases tg<;>exact D h
   | _=>exact D h
end
section
variable{P:Program}{w:World}{K:PySem.W.Frag}{mg:Str->Option Value}{base:Heap}{T:aY}{k:Nat}
theorem bA.toXt(W:bA P w K mg base T k):bA P w K mg base { T with xt:=true } k:=⟨W.cN,W.iu,W.fn,W.cst,W.met,W.cls,W.fld,W.clo⟩
theorem uf{κ:Str->Addr->Prop}{N:List Str}{qual:Str}{scope:Scope}{f:Addr}{cd:Value}{A:Around}{outer:List Env}{s0:Shared}{H0:Hp}{E:XK}
  {C N0 fI c:Addr} {LB:FuncData} {stI:Stmt} {fQ fld sf pn cn:Str} {ve arg:Expr} {np cpos pos:Pos} {m mv:EM} (D:vb K mg C N0 fI c LB stI fQ fld sf pn ve) (hr:bJ (k + 2) (A.deeper (envOfC qual scope s0.heap.objs.size f cd)))
  (hg:Gl (bW (iV P w) P w K mg base N qual scope f cd A outer s0 H0 E) cn) (hm:mg cn=some (.ref C)) (nN:κ cn C)
  (harg:bj (bW (iV P w) P w K mg base N qual scope f cd A outer s0 H0 E) κ (gE κ E) arg m)
  (yw:∀ (A':Around) (ot:List Env) (s':Shared) (e:Addr) (H1:Hp) (E':XK),bJ k (A'.deeper (envOfC fQ (af stI) s'.heap.objs.size fI (.ref c)))->bj ((bW dW P w K mg base [sf,pn] fQ (af stI) fI (.ref c) A' ot s' H1 E').iT.mk1 e) κ i5 ve mv)
  (hst:starEach [arg] (envOfC qual scope s0.heap.objs.size f cd)=[(false,eval arg (envOfC qual scope s0.heap.objs.size f cd))]) (hdb:(cn == ("__debug__":Str))=false) :
  km (bW (iV P w) P w K mg base N qual scope f cd A outer s0 H0 E) κ (gE κ E) (.Raise (some (.Call (.Name cn np) [arg] [] cpos)) none pos) (nF cn fld mv m):=by
 intro aF Z0 Jo ρ Ω pins s σ H Dn I hF;obtain⟨α,Z,S,hF⟩:=hF
 refine vd (k:=k) (te:=tO κ (gE κ E) aF Z0 Jo m ρ Ω) (Arg:=fun v0 H1=>∃ d ah d' ay α1 Z1,mv [none,some d] ah=.ok d' ay/\bN aF Z0 Jo α1 Z1 H1/\bt κ α1 Z1 ah H1/\au α1 Z1 H1 d v0/\(∀ H2 α2 Z2,bN aF Z0 Jo α2 Z2 H2->bt κ α2 Z2 ay H2->gE κ E (eD cn fld d') ay α2 Z2 H2))
  (fP:=fun v0 H1 v H2=>∃ d' ay α2 Z2,bt κ α2 Z2 ay H2/\au α2 Z2 H2 d' v/\gE κ E (eD cn fld d') ay α2 Z2 H2) D hr hg hm (harg aF Z0 Jo ρ Ω) (fun v0 H1 hA A' ot s' e E' hr' => ?_) hst hdb pins s σ H Dn I ⟨α,Z,S,?_⟩
 ·obtain⟨d,ah,d',ay,α1,Z1,e1,g1,s1,r1,h1⟩:=hA
  refine⟨_,yw A' ot s' e H1 E' hr' α1 Z1 H1 [none,some d] ah,α1,Z1,⟨s1,bN.refl s1.has,rfl,fun i dd hi => ?_⟩,?_⟩
  ·match i with
   | 0=>cases hi
   | 1=>cases hi;exact⟨v0,rfl,r1⟩
   | i + 2=>cases hi
  ·rw[e1]
   intro v H2 α2 Z2 g2 s2 r2;exact⟨d',ay,α2,Z2,s2,r2,h1 H2 α2 Z2 (g1.trans g2) s2⟩
 ·refine fg.use S hF fun d ah v H1 α1 Z1 e1 g1 S1 r1 f1 => ?_
  cases hv:mv [none,some d] ah with
  | ok d' ay=>
   rw[hv]at f1;refine⟨⟨d,ah,d',ay,α1,Z1,hv,S1.gr,S1.st,r1,fun H2 α2 Z2 g2 s2=>f1 H2 α2 Z2 g2 s2⟩,?_⟩
   rintro v' H2 dd ⟨d2,aP,α2,Z2,s2,r2,hp⟩ hdd;obtain⟨C',QE,d3,e3,h3⟩:=hp;simp only[eD,Mir.D.tup.injEq,List.cons.injEq,Mir.D.str.injEq,and_true]at e3;obtain⟨rfl,rfl,rfl⟩:=e3;exact h3 C v' dd nN r2 hdd
  | exc x ay=>rw[hv]at f1;exact f1.elim
  | bad=>rw[hv]at f1;exact f1.elim
theorem zV(W:bA P w K mg base T k)(QF:T.xt=true){x qual:Str}{st:Stmt}{dV:Value}{f:Addr}{fd:FuncData}(F:CA K x qual st dV f fd){N ps td:List Str}{c:SM}{hk:Stmt->Option SM}(hs:bD N ps (af st)=true)(hc:cq (je hk T td 60 (af st) N 30) (aT st)=some c)
    (hh:∀ (cdv:Value) (A:Around) (outer:List Env) (s:Shared) (H:Hp) (E:XK),bJ (k + 2) (A.deeper (envOfC qual (af st) s.heap.objs.size f cdv))->GoodO (bW (iV P w) P w K mg base N qual (af st) f cdv A outer s H E) (bh mg) T k (af st) N ->
      ∀ st' c',hk st'=some c'->km (bW (iV P w) P w K mg base N qual (af st) f cdv A outer s H E) (bh mg) (gE (bh mg) E) st' c') :
    bO P w K mg base (iV P w) (k + 3) f fd ps (kH (bh mg) (bu N.length ps.length c)):=by
  obtain⟨oc,od,kV,doc,pm,an,cdv,ct,osl,rfl,lk,hcd⟩:=F.ex;have Sc:=dP hs;refine uR lk hcd Sc (fun vs H Q E h => ?_) fun A outer s H vs Q E hr h => ?_
  · obtain⟨α,Z,Ω,ds,S,r,g⟩:=h
    rw[r.length];unfold bu at g;split at g
    · rename_i hl;exact hl
    · exact g.elim
  · obtain⟨α,Z,Ω,ds,S,r,g⟩:=h
    have G0:GoodO (bW (iV P w) P w K mg base N qual (af st) f cdv A outer s H E) (bh mg) T k (af st) N:=
      { scope:=rfl,names:=rfl,calm:=rfl,room:=hr.mono (by omega),cN:=W.cN,fld:=W.fld,cst:=W.cst
        iu:=fun x F h=>⟨W.iu x F h⟩,fn:=fun x F h=>⟨W.fn x F h⟩,met:=fun m C F h=>⟨W.met m C F h⟩,cls:=fun C F h=>let ⟨j,h1,h2⟩:=W.cls C F h;⟨j,h1,⟨h2⟩⟩,clo:=W.clo }
    have G:df (bW (iV P w) P w K mg base N qual (af st) f cdv A outer s H E) (bh mg) T k (af st) N:=
      { toGoodO:=G0,own:=PassesOwn.leaving,DY:=fun _ _ _=>.inl rfl,nL:=Sc.nd,kind:=Sc.kind,iT:=fun q=>by rw[QF]at q;cases q }
    refine⟨Cn (bh mg) (gE (bh mg) E) α Z H c (aS N.length ds) Ω,dA (sD G (hh cdv A outer s H E hr G0) 30 60) hc α Z H (aS N.length ds) Ω,α,Z,ei S r,?_⟩;unfold bu at g;split at g
    · cases q:c (aS N.length ds) Ω with
      | rt d ao=>rw[q]at g;exact fun v H' α' Z' gr st r=>g v H' α' Z' gr st r
      | nx ρ ao=>rw[q]at g;exact fun σ H' α' Z' S'=>g .non H' α' Z' S'.gr S'.st (aX rfl)
      | bk ρ ao=>rw[q]at g;exact g.elim
      | ct ρ ao=>rw[q]at g;exact g.elim
      | exc x ao=>rw[q]at g;exact g
      | bad=>rw[q]at g;exact g.elim
    · exact g.elim
end
section
variable{X:Cx}{κ:Str->Addr->Prop}{e:Expr}{es:List Expr}{as:AM}{p pos:Pos}
theorem ug{k:Nat}{x:Str}{G:bb}{f:Addr}{fd:FuncData}{ps:List Str}{E:XK}(F:bO X.prog X.w X.K X.mg X.base (iV X.prog X.w) k f fd ps (kH κ G))(hr:bJ k X.A)(hg:Gl X x)(hm:X.mg x=some (.ref f))(hk:PySem.W.keepIn X.K (.ref f)=true)(hb:Binds X.K fd ps [])(hx:Passes (iV X.prog X.w) X E)(hdb:(x == ("__debug__":Str))=false)
  (he:starEach (e::es) X.env=(false,eval e X.env)::starEach es X.env) (hpl:(backTo pos (starEach es X.env)).any (·.1)=false) (ha:qr X κ (gE κ E) (e::es) as) :
  bj X κ (gE κ E) (.Call (.Name x p) (e::es) [] pos) (mN G as):=by
 intro aF Z0 H0 ρ Ω;refine PE.imp (jj F hr hg hm hk hb .nil hx (ha aF Z0 H0 ρ Ω) hdb he hpl) ?_;rintro σ H Q ⟨α,Z,S,g⟩;refine⟨α,Z,S,oJ.use g fun xs ah _ vs H1 α1 Z1 g1 s1 r1 k1 => ?_⟩
 show kH κ G (vs++[]) H1 Q E
 rw[List.append_nil];exact⟨α1,Z1,ah,xs,s1,r1,k1⟩
end
def nG(n l:Nat)(b:SM)(cr:SM)(hnd:D->aD->av D):bb:=fun ds Ω=>if ds.length=l then (match b (aS n ds) Ω with
 | .nx ρ ah=>fy (cr ρ ah)
 | .exc x ah=>wJ (hnd x ah)
 | _=>.bad) else .bad
section
variable{P:Program}{w:World}{K:PySem.W.Frag}{mg:Str->Option Value}{base:Heap}{T:aY}{k:Nat}
theorem o4(W:bA P w K mg base T k){x qual bn cn fld:Str}{nm:Option Str}{st b0:Stmt}{f c C N0 fI B0:Addr}{fd:FuncData}{N ps td:List Str}{i:Nat}{cb cr:SM}{hnd:D->aD->av D}{R:V->Hp->VK->Prop}
    (F:tj K x qual st f fd) (hcv:fd.code=.ref c) (hs:bD N ps (af st)=true) {body suite rest:List Stmt} {hp hpos pos:Pos}
    (hbd:aT st=.Try body [.ExceptHandler (some (.Name bn hp)) nm (b0::suite) hpos] [] [] pos::rest) (hrest:cq (gU T td 60 (af st) N 30) rest=some cr)
    (QG:mg cn=some (.ref C)) (Tx:mr K C N0 fI) (is:Kr K C) (hmb:mg bn=some (.ref B0)) (hex:PySem.W.exmOne K (.ref C) (.ref B0)=some true) (sb:(af st).names.lookup bn=some .globalImplicit)
    (hi:∀ n,nm=some n->N[i]?=some n) (se:∀ n,nm=some n->(af st).names.lookup n=some .local) (hdb:(bn == ("__debug__":Str))=false)
    (hbody:∀ (A:Around) (outer:List Env) (s:Shared) (H:Hp) (E:XK) (xe:Value->Shared->Prop) (E':XK),bJ k (A.deeper (envOfC qual (af st) s.heap.objs.size f (.ref c))) ->
      GoodO ((bW dW P w K mg base N qual (af st) f (.ref c) A outer s H E).wish xe) (bh mg) T k (af st) N->Passes (iV P w) ((bW dW P w K mg base N qual (af st) f (.ref c) A outer s H E).wish xe) E' ->
      ir ((bW dW P w K mg base N qual (af st) f (.ref c) A outer s H E).wish xe) (bh mg) (gE (bh mg) E') body cb)
    (hx:∀ x Ω,(∃ d,x=eD cn fld d)\/hnd x Ω=.bad)
    (LF:∀ (X:Cx) (e d:Addr) (oe:Obj),X.env.scope=af st->X.mg=mg->X.K=K->X.N=N->AG X e C oe d N0 fI->∃ t,gZ X (b0::suite) t/\∀ (D:Ends) (σ:L2.St) (H:Hp) (v:V),(nm.isSome=true->σ[i]?=some (some (.ref e)))->H d=some (.xd [(fld,v)])->R v H D.rt->t D σ H)
    (hR:∀ (α:List Addr) (Z:Addr->Prop) (Ω:aD) (H:Hp) (d:D) (v:V) (r:D) (ay:aD) (Q:VK),bt (bh mg) α Z Ω H->au α Z H d v->hnd (eD cn fld d) Ω=.ok r ay->(∀ v' H' α' Z',bN α Z H α' Z' H'->bt (bh mg) α' Z' ay H'->au α' Z' H' r v'->Q v' H')->R v H Q) :
    bO P w K mg base dW (k + 1) f fd ps (cM (bh mg) (nG N.length ps.length cb cr hnd)):=by
  have Sc:=dP hs;refine F.P1 hcv Sc (fun vs H Q E h => ?_) fun A outer s s1 H vs Q E hr h I => ?_
  · obtain⟨α,Z,Ω,ds,S,r,g⟩:=h
    rw[r.length];unfold nG at g;split at g
    · rename_i hl;exact hl
    · exact g.elim
  obtain⟨α,Z,Ω,ds,S0,r,g⟩:=h;unfold nG at g;split at g
  rotate_left
  · exact g.elim
  rw[hbd];have S1:b9 (bh mg) α Z H α Z Ω (aS N.length ds) (L2.start N vs) H:=ei S0 r;refine wpAny_execs_cons (wpAny_Try_except ?_);generalize hX:(bW dW P w K mg base N qual (af st) f (.ref c) A outer s H E).iT=X at *;have eP:X.prog=P:=by subst hX;rfl
  have ew:X.w=w:=by subst hX;rfl
  have eA:X.A=A.deeper (envOfC qual (af st) s.heap.objs.size f (.ref c)):=by subst hX;rfl
  have ee:X.env=envOfC qual (af st) s.heap.objs.size f (.ref c):=by subst hX;rfl
  have eN:X.N=N:=by subst hX;rfl
  have em:X.mg=mg:=by subst hX;rfl
  have eK:X.K=K:=by subst hX;rfl
  have ex:X.xe=fun _ _=>False:=by subst hX;rfl
  have est:X.stack=X.env::X.outer:=by subst hX;rfl
  have QH:X.env.frame=some X.env.locals:=by subst hX;rfl
  rw[← eP,← ew,← eA,← ee]
  have G:df X (bh mg) T k (af st) N:=by
    subst hX
    exact
      { scope:=rfl,names:=rfl,calm:=rfl,room:=hr,cN:=W.cN,own:=PassesOwn.never,DY:=fun _ _ _=>.inl rfl,nL:=Sc.nd,kind:=Sc.kind,iT:=fun _ _ _ h=>h,fld:=W.fld,cst:=W.cst
        iu:=fun x F h=>⟨W.iu x F h⟩,fn:=fun x F h=>⟨W.fn x F h⟩,met:=fun m C F h=>⟨W.met m C F h⟩,cls:=fun C F h=>let ⟨j,h1,h2⟩:=W.cls C F h;⟨j,h1,⟨h2⟩⟩,clo:=W.clo }
  let E':XK:=fun cls QI IF=>∃ dd v H' α' Z' ah dD,cb (aS N.length ds) Ω=.exc (eD cn fld dD) ah/\cls=.ref C/\QI=some dd/\IF=upd H' dd (.xd [(fld,v)])/\H' dd=none/\bN α Z H α' Z' H'/\bt (bh mg) α' Z' ah H'/\au α' Z' H' dD v
  generalize QJ:(fun (e:Value) (s₁:Shared)=>wpAny (model X.prog X.w) X.A (noteFrame e X.env) (fun _ s₂=>wpAny (model X.prog X.w) X.A (setFlight e none) (fun _ s₃=>wpAny (model X.prog X.w) X.A (handleBy e X.env [.ExceptHandler (some (.Name bn hp)) nm (b0::suite) hpos]) (fun fl s'=>match fl with
    | .next=>wpAny (model X.prog X.w) X.A (execs rest X.env) (fun fl s'=>∃ xs v u σ' H',(fl=.ret u\/fl=.next/\u=Value.none)/\Inv (X.fz xs) [] σ' H' s'/\RelV v u/\Q v H') (fun _ _=>False) s'
    | fl=>∃ xs v u σ' H',(fl=.ret u\/fl=.next/\u=Value.none)/\Inv (X.fz xs) [] σ' H' s'/\RelV v u/\Q v H') (fun _ _=>False) s₃) (fun _ _=>False) s₂) (fun _ _=>False) s₁)=xe
  have w9:Passes (iV P w) (X.wish xe) E':=by
    intro pins σ' H1 Gf e s2 I1 hT;obtain⟨e,C',d,H2,rfl,Th,hE⟩:=hT;obtain⟨dd,v,H',α',Z',ah,dD,hcb,e1,e2,rfl,hdd,g1,Gg,r1⟩:=hE;cases e1;cases e2;rw[hcb]at g;replace g:bK (bh mg) i5 α Z H (wJ (hnd (eD cn fld dD) ah)) Q:=g
    show xe (.ref e) s2
    rw[← QJ];have I2:Inv X [] σ' H1 Gf:=I1.eO.u7;rw[← eP,← ew]at Th;refine vf I2 Th est QH bo (by show X.env.scope.names.lookup bn=_;rw[G.scope];exact sb) (by rw[em];exact hmb) (by rw[eK];exact hex) (by rw[eN];exact Sc.nd) (fun n e=>by rw[eN];exact hi n e) (fun n e=>by rw[G.scope];exact se n e) (fun oe s4 c1 c2 c3 J4 => ?_) hdb
    have J5:=J4.yx;have D4:AG ((X.oa e).yx e oe) e C oe d N0 fI:=⟨by simp[Cx.yx],c1,c2,c3,by show mr X.K C N0 fI;rw[eK];exact Tx,by show Kr X.K C;rw[eK];exact is⟩
    obtain⟨t,ht,hq⟩:=LF ((X.oa e).yx e oe) e d oe G.scope em eK eN D4;obtain⟨a1,a2⟩:=Gg.wa (p:=d) (o:=.xd [(fld,v)]) hdd False
    have hrun:=ht [] s4 _ _ { nx:=fun _ _=>False,rt:=Q } J5 (hq _ _ _ v (fun hz=>by
      obtain⟨n,rfl⟩:=Option.isSome_iff_exists.mp hz
      have hlen:i < σ'.length:=by
        rw[I2.len,eN];exact(List.getElem?_eq_some_iff.mp (hi n rfl)).1
      rw[if_pos hz,List.getElem?_set_self hlen]) bo ?_)
    · refine wpAny_mono hrun (fun fl Tb hs => ?_) (fun _ _ z=>z)
      cases fl with
      | ret u=>
        obtain⟨v',ET,H5,J,rv,hQ⟩:=hs;refine⟨ET,H5,J.EU,fun Ib s6 J6 => ?_⟩
        exact⟨[],v',u,_,_,.inl rfl,by rw[Cx.pS];exact J6,rv,hQ⟩
      | next=>obtain⟨_,_,_,z⟩:=hs;exact z.elim
      | brk=>obtain⟨_,_,_,z⟩:=hs;exact z.elim
      | cont=>obtain⟨_,_,_,z⟩:=hs;exact z.elim
    · cases hn:hnd (eD cn fld dD) ah with
      | ok r2 ay=>
        rw[hn]at g;refine hR _ _ ah _ dD v r2 ay Q a1 (Gg.dw a2 r1) hn fun v' H5 IH Z5 g5 s5 r5 => ?_
        exact g v' H5 IH Z5 ((g1.trans a2).trans g5) s5 r5
      | exc y ay=>rw[hn]at g;exact g.elim
      | bad=>rw[hn]at g;exact g.elim
  have G':GoodO (X.wish xe) (bh mg) T k (af st) N:=by
    subst hX
    exact
      { scope:=rfl,names:=rfl,calm:=rfl,room:=hr,cN:=W.cN,fld:=W.fld,cst:=W.cst
        iu:=fun x F h=>⟨W.iu x F h⟩,fn:=fun x F h=>⟨W.fn x F h⟩,met:=fun m C F h=>⟨W.met m C F h⟩,cls:=fun C F h=>let ⟨j,h1,h2⟩:=W.cls C F h;⟨j,h1,⟨h2⟩⟩,clo:=W.clo }
  have hB:ir (X.wish xe) (bh mg) (gE (bh mg) E') body cb:=by
    subst hX;exact hbody A outer s H E xe E' hr G' w9
  refine wpAny_mono (hB α Z H (aS N.length ds) Ω [] s1 _ H { nx:=fun σ' H'=>∃ ρ ah α' Z',cb (aS N.length ds) Ω=.nx ρ ah/\b9 (bh mg) α Z H α' Z' ah ρ σ' H',rt:=fun _ _=>False } (I.wish xe) ⟨α,Z,S1,?_⟩) (fun fl s2 hs => ?_) (fun e s2 z=>z)
  · cases hcb:cb (aS N.length ds) Ω with
    | nx ρ ah=>exact fun σ' H' α' Z' S'=>⟨ρ,ah,α',Z',rfl,S'⟩
    | exc y ah=>
      rcases hx y ah with ⟨dD,rfl⟩ | hb
      rotate_left
      · rw[hcb]at g
        replace g:bK (bh mg) i5 α Z H (wJ (hnd y ah)) Q:=g;rw[hb]at g;exact g.elim
      intro H' α' Z' g1 Gf;refine⟨cn,fld,dD,rfl,fun Ca v dd hk r1 hdd=>⟨dd,v,H',α',Z',ah,dD,hcb,?_,rfl,rfl,hdd,g1,Gf,r1⟩⟩
      have:mg cn=some (.ref Ca):=hk;rw[QG]at this;cases this;rfl
    | bk ρ ah=>rw[hcb]at g;exact g.elim
    | ct ρ ah=>rw[hcb]at g;exact g.elim
    | rt d ah=>rw[hcb]at g;exact g.elim
    | bad=>rw[hcb]at g;exact g.elim
  · cases fl with
    | next=>
      obtain⟨σ',H',J,ρ,ah,α',Z',hcb,S'⟩:=hs;rw[hcb]at g;replace g:bK (bh mg) i5 α Z H (fy (cr ρ ah)) Q:=g;have J:=J.eO;refine wpAny_execs_nil ?_;have hr2:=dA (Φ:=i5) (jt (td:=td) G 30 60) hrest α Z H ρ ah [] s2 σ' H' { nx:=fun _ H'=>Q .non H',rt:=Q } J ⟨α',Z',S',?_⟩
      · rw[ex]at hr2
        refine wpAny_mono hr2 (fun fl s3 hs => ?_) (fun _ _ z=>z)
        cases fl with
        | ret u=>
          obtain⟨v,pD,H3,J3,rv,hQ⟩:=hs;exact⟨[],v,u,pD,H3,.inl rfl,by rw[Cx.pS];exact J3,rv,hQ⟩
        | next=>
          obtain⟨pD,H3,J3,hQ⟩:=hs;exact⟨[],.non,.none,pD,H3,.inr ⟨rfl,rfl⟩,by rw[Cx.pS];exact J3,rfl,hQ⟩
        | brk=>obtain⟨_,_,_,z⟩:=hs;exact z.elim
        | cont=>obtain⟨_,_,_,z⟩:=hs;exact z.elim
      · cases q:cr ρ ah with
        | rt d ao=>rw[q]at g;exact fun v H' α' Z' gr st r=>g v H' α' Z' gr st r
        | nx ρ ao=>rw[q]at g;exact fun σ H' α' Z' S'=>g .non H' α' Z' S'.gr S'.st (aX rfl)
        | bk ρ ao=>rw[q]at g;exact g.elim
        | ct ρ ao=>rw[q]at g;exact g.elim
        | exc x ao=>rw[q]at g;exact g
        | bad=>rw[q]at g;exact g.elim
    | ret u=>obtain⟨_,_,_,_,_,z⟩:=hs;exact z.elim
    | brk=>obtain⟨_,_,_,z⟩:=hs;exact z.elim
    | cont=>obtain⟨_,_,_,z⟩:=hs;exact z.elim
end
def uh(x:D)(Ω:aD):av D:=match c9 Ω x with
 | some ds=>mJ Ω (.lst ds.reverse)
 | none=>.bad
def eJ(x:D):Out Rs:=match x with
 | .lst ds=>(match eF ds with
  | some xs=>if xs.length<=1000 then .ok (false,.int (unlike xs)) else .bad
  | none=>.bad)
 | _=>.bad
section
variable{X:Cx}{κ:Str->Addr->Prop}{Φ:fK}{e:Expr}{m:EM}{p p' pos pos':Pos}
theorem zW(hc:X.calm=true)(hg:Gl X "list")(hm:X.mg "list"=none)(hg':Gl X "reversed")(hm':X.mg "reversed"=none)(hs:starEach [e] X.env=[(false,eval e X.env)])(he:bj X κ Φ e m) :
  bj X κ Φ (.Call (.Name "list" p) [.Call (.Name "reversed" p') [e] [] pos'] [] pos) (m1 uh m):=
 ie (r:=fun x H1 Q=>∃ l xs,x=.ref l/\L2.Rd H1 l (.lst xs)/\∀ p,H1 p=none->Q (.ref p) (upd H1 p (.lst xs.reverse))) (fun ta pa=>p_ hc hg hm hg' hm' hs pa) he fun dx x α Z Ω H Q S rx g=>by
  unfold uh at g;split at g
  ·rename_i ds hd
   obtain⟨a,ws,rfl,q1,q2⟩:=bx S rx hd;exact⟨a,ws,rfl,q1,f7 S q2.reverse g⟩
  ·exact g.elim
theorem qG(hc:X.calm=true)(hg:Gl X "len")(hm:X.mg "len"=none)(hg':Gl X "set")(hm':X.mg "set"=none)(hs:starEach [e] X.env=[(false,eval e X.env)])(he:bj X κ Φ e m) :
  bj X κ Φ (.Call (.Name "len" p) [.Call (.Name "set" p') [e] [] pos'] [] pos) (m1 (iM eJ) m):=
 ie (r:=fun x H1 Q=>∃ Z ds xs,Now Z H1 (.lst ds) x/\eF ds=some xs/\xs.length<=1000/\Q (.int (unlike xs)) H1) (fun ta pa=>tP hc hg hm hg' hm' hs pa) he fun dx x α Z Ω H Q S rx g=>by
  obtain⟨d,own,d',n1,e1,k⟩:=j_ (bw:=false) S rx g;unfold eJ at e1;split at e1
  ·rename_i ds
   split at e1
   ·rename_i xs hx
    split at e1
    ·rename_i hl
     cases e1;exact⟨_,ds,xs,n1,hx,hl,k _ H _ (dO.refl (cA S)) (.rep (dZ rfl))⟩
    ·cases e1
   ·cases e1
  ·cases e1
end
section
variable{P:Program}{w:World}{K:PySem.W.Frag}{mg:Str->Option Value}{base:Heap}{T:aY}{k:Nat}
theorem sE(W:bA P w K mg base T k){x qual:Str}{st:Stmt}{f:Addr}{fd:FuncData}(F:tj K x qual st f fd){N ps td:List Str}{c:SM}{hk:Stmt->Option SM}(hs:bD N ps (af st)=true)(hc:cq (je hk T td 60 (af st) N 30) (aT st)=some c)
    (hh:∀ (X:Cx),GoodO X (bh mg) T k (af st) N->(∀ x∈cZ,X.mg x=none)->∀ st' c',hk st'=some c'->km X (bh mg) i5 st' c') :
    bO P w K mg base dW (k + 1) f fd ps (cM (bh mg) (bu N.length ps.length c)):=by
  refine F.ok (dP hs) (fun vs H Q E h => ?_) fun cdv A outer s H vs Q E hr h => ?_
  · obtain⟨α,Z,Ω,ds,S,r,g⟩:=h
    rw[r.length];unfold bu at g;split at g
    · rename_i hl;exact hl
    · exact g.elim
  · obtain⟨α,Z,Ω,ds,S,r,g⟩:=h
    have Sc:=dP hs
    have G:df (bW dW P w K mg base N qual (af st) f cdv A outer s H E).iT (bh mg) T k (af st) N:=
      { scope:=rfl,names:=rfl,calm:=rfl,room:=hr,cN:=W.cN,own:=PassesOwn.never,DY:=fun _ _ _=>.inl rfl,nL:=Sc.nd,kind:=Sc.kind,iT:=fun _ _ _ h=>h,fld:=W.fld,cst:=W.cst
        iu:=fun x F h=>⟨W.iu x F h⟩,fn:=fun x F h=>⟨W.fn x F h⟩,met:=fun m C F h=>⟨W.met m C F h⟩,cls:=fun C F h=>let ⟨j,h1,h2⟩:=W.cls C F h;⟨j,h1,⟨h2⟩⟩,clo:=W.clo }
    refine⟨Cn (bh mg) i5 α Z H c (aS N.length ds) Ω,dA (sD G (hh _ G.toGoodO W.cN) 30 60) hc α Z H (aS N.length ds) Ω,α,Z,ei S r,?_⟩;unfold bu at g;split at g
    · cases q:c (aS N.length ds) Ω with
      | rt d ao=>rw[q]at g;exact fun v H' α' Z' gr st r=>g v H' α' Z' gr st r
      | nx ρ ao=>rw[q]at g;exact fun σ H' α' Z' S'=>g .non H' α' Z' S'.gr S'.st (aX rfl)
      | bk ρ ao=>rw[q]at g;exact g.elim
      | ct ρ ao=>rw[q]at g;exact g.elim
      | exc x ao=>rw[q]at g;exact g
      | bad=>rw[q]at g;exact g.elim
    · exact g.elim
end
section
variable{X:Cx}{κ:Str->Addr->Prop}{Φ:fK}{e:Expr}{es:List Expr}{as:AM}{p pos:Pos}{T:aY}{k:Nat}{sc:Scope}{N:List Str}
theorem ui{j:Nat}{x:Str}{F:bb}{f:Addr}{fd:FuncData}{ps:List Str}{ds:List Value}{qT:List V}{Dd:List D}(F1:bO X.prog X.w X.K X.mg X.base dW j f fd ps (cM κ F))(hr:bJ j X.A)(hg:Gl X x)(hm:X.mg x=some (.ref f))(hk:PySem.W.keepIn X.K (.ref f)=true)(hb:Binds X.K fd ps ds)(hd:Vals qT ds)(hD:∀ α Z H,aL (au α Z H) Dd qT)(hdb:(x == ("__debug__":Str))=false)
  (he:starEach (e::es) X.env=(false,eval e X.env)::starEach es X.env) (hpl:(backTo pos (starEach es X.env)).any (·.1)=false) (ha:qr X κ Φ (e::es) as) :
  bj X κ Φ (.Call (.Name x p) (e::es) [] pos) (mN (fun xs Ω=>aN F (xs++Dd) Ω) as):=by
 intro aF Z0 H0 ρ Ω;refine PE.imp (jj F1 hr hg hm hk hb hd q_ (ha aF Z0 H0 ρ Ω) hdb he hpl) ?_;rintro σ H Q ⟨α,Z,S,g⟩;refine⟨α,Z,S,oJ.use g fun xs ah _ vs H1 α1 Z1 g1 s1 r1 k1 => ?_⟩
 exact⟨α1,Z1,ah,xs++Dd,s1,r1.append (hD _ _ _),bK.ok0 k1⟩
noncomputable def CB:Stmt->Option Expr
 | .Return (some e) _=>some e
 | _=>none
theorem o5{st:Stmt}{x:Expr}(h:CB st=some x):∃ p,st=.Return (some x) p:=by
 cases st with
 | Return v p=>
  cases v with
  | none=>cases h
  | some e=>cases h;exact⟨p,rfl⟩
 | _=>cases h
def LG(f:Expr)(p:Pos)(as:List Expr)(ks:List Keyword):Option (Str×Expr):=match f,as,ks with
 | .Name l _,[e],[]=>some (l,e)
 | _,_,_=>none
def D5:Expr->Option (Str×Expr)
 | .Call f as ks p=>LG f p as ks
 | _=>none
theorem iA{x:Expr}{l:Str}{e:Expr}(h:D5 x=some (l,e)):∃ q p,x=.Call (.Name l q) [e] [] p:=by
 cases x with
 | Call f as ks p=>
  cases f with
  | Name l' q=>
   cases as with
   | nil=>cases h
   | cons a r=>
    cases r with
    | nil=>
     cases ks with
     | nil=>cases h;exact⟨q,p,rfl⟩
     | cons _ _=>cases h
    | cons _ _=>cases h
  | _=>cases h
 | _=>cases h
noncomputable def Gh:Expr->Option (Expr×Expr)
 | .BoolOp .And [a,b] _=>some (a,b)
 | _=>none
theorem w_{x a b:Expr}(h:Gh x=some (a,b)):∃ p,x=.BoolOp .And [a,b] p:=by
 cases x with
 | BoolOp op es p=>
  cases op with
  | And=>
   cases es with
   | nil=>cases h
   | cons y r=>
    cases r with
    | nil=>cases h
    | cons z t=>
     cases t with
     | nil=>cases h;exact⟨p,rfl⟩
     | cons _ _=>cases h
  | Or=>cases h
 | _=>cases h
def CC(os:List CmpOp)(bs:List Expr):Option Expr:=match os,bs with
 | [.Eq],[b]=>some b
 | _,_=>none
def vEq:Expr->Option (Expr×Expr)
 | .Compare a os bs _=>(CC os bs).map fun b=>(a,b)
 | _=>none
theorem xa{os:List CmpOp}{bs:List Expr}{b:Expr}(h:CC os bs=some b):os=[.Eq]/\bs=[b]:=by
 cases os with
 | nil=>cases h
 | cons o r=>
  cases r with
  | cons _ _=>cases o<;>cases h
  | nil=>
   cases o with
   | Eq=>
    cases bs with
    | nil=>cases h
    | cons y t=>
     cases t with
     | nil=>cases h;exact⟨rfl,rfl⟩
     | cons _ _=>cases h
   | _=>cases h
theorem zX{x a b:Expr}(h:vEq x=some (a,b)):∃ p,x=.Compare a [.Eq] [b] p:=by
 cases x with
 | Compare c os bs p=>
  obtain⟨b',h1,h2⟩:=Option.map_eq_some_iff.mp (show(CC os bs).map (fun b=>(c,b))=some (a,b) from h)
  cases h2;obtain⟨rfl,rfl⟩:=xa h1;exact⟨p,rfl⟩
 | _=>cases h
theorem eU{α β:Type}{o:Option α}{f:α->Option β}{b:β}(h:o.bind f=some b):∃ a,o=some a/\f a=some b:=Option.bind_eq_some_iff.mp h
def A1(T:aY)(sc:Scope)(N:List Str)(st:Stmt):Option SM:=(CB st).bind fun x=>(D5 x).bind fun u=>(D5 u.2).bind fun v=>
 if u.1 == ("list":Str) && v.1 == ("reversed":Str) && oA sc u.1 && oA sc v.1 then (cj T 60 sc N v.2).map (fun m=>aQ (m1 uh m)) else none
theorem xb(G:GoodO X κ T k sc N)(st:Stmt)(c:SM)(h:A1 T sc N st=some c):km X κ Φ st c:=by
 obtain⟨x,v1,ga⟩:=eU h;obtain⟨⟨l,y⟩,v2,gb⟩:=eU ga;obtain⟨⟨r,e⟩,v3,g⟩:=eU gb;obtain⟨p0,rfl⟩:=o5 v1;obtain⟨p1,p2,rfl⟩:=iA v2;obtain⟨p3,p4,rfl⟩:=iA v3;dsimp only at g;split at g
 ·rename_i hc
  simp only[Bool.and_eq_true]at hc;obtain⟨⟨⟨h1,h2⟩,h3⟩,h4⟩:=hc;obtain rfl:=eq_of_beq h1;obtain rfl:=eq_of_beq h2;obtain⟨m,hm,rfl⟩:=cg g;have E:=ej 60 X sc N _ m G hm;exact mX (zW G.calm (G.gl h3) (G.cN _ (by decide)) (G.gl h4) (G.cN _ (by decide)) (by rw[bV E.2.2];rfl) (E.1 Φ))
 ·cases g
def A2(T:aY)(sc:Scope)(N:List Str)(st:Stmt):Option SM:=(CB st).bind fun x=>(Gh x).bind fun ac=>(vEq ac.2).bind fun ub=>(D5 ub.1).bind fun u=>(D5 u.2).bind fun v=>
 if u.1 == ("len":Str) && v.1 == ("set":Str) && oA sc u.1 && oA sc v.1 && !behindInMarks .Eq ub.2 then o2 (cj T 60 sc N ac.1) (o2 (cj T 60 sc N v.2) (cj T 60 sc N ub.2) Prod.mk) fun x y=>aQ (cJ x (m2 (ax .Eq) (m1 (iM eJ) y.1) y.2)) else none
theorem xc(G:GoodO X κ T k sc N)(st:Stmt)(c:SM)(h:A2 T sc N st=some c):km X κ Φ st c:=by
 obtain⟨x,v1,ga⟩:=eU h;obtain⟨⟨a,w⟩,v2,gb⟩:=eU ga;obtain⟨⟨u,b⟩,v3,gc⟩:=eU gb;obtain⟨⟨l,y⟩,v4,gd⟩:=eU gc;obtain⟨⟨s,e⟩,v5,g⟩:=eU gd;obtain⟨p0,rfl⟩:=o5 v1;obtain⟨p1,rfl⟩:=w_ v2;obtain⟨p2,rfl⟩:=zX v3;obtain⟨p3,p4,rfl⟩:=iA v4;obtain⟨p5,p6,rfl⟩:=iA v5;dsimp only at g;split at g
 ·rename_i hc
  simp only[Bool.and_eq_true,Bool.not_eq_true']at hc;obtain⟨⟨⟨⟨h1,h2⟩,h3⟩,h4⟩,h5⟩:=hc;obtain rfl:=eq_of_beq h1;obtain rfl:=eq_of_beq h2;obtain⟨ma,y,q1,q2,rfl⟩:=bp g;obtain⟨me,mb,q3,q4,rfl⟩:=bp q2;have Ea:=ej 60 X sc N _ ma G q1;have Ee:=ej 60 X sc N _ me G q3;have Eb:=ej 60 X sc N _ mb G q4;exact mX (rS (Ea.1 Φ) (lO (mS G.hu h5 (qG G.calm (G.gl h3) (G.cN _ (by decide)) (G.gl h4) (G.cN _ (by decide)) (by rw[bV Ee.2.2];rfl) (Ee.1 Φ)) (Eb.1 Φ)).1))
 ·cases g
end
section
variable{P:Program}{w:World}{K:PySem.W.Frag}{mg:Str->Option Value}{base:Heap}{T:aY}{k:Nat}
noncomputable def Gi:Stmt->Option Expr
 | .Raise (some e) none _=>some e
 | _=>none
theorem xf{st:Stmt}{x:Expr}(h:Gi st=some x):∃ p,st=.Raise (some x) none p:=by
 cases st with
 | Raise v u p=>
  cases v with
  | none=>cases h
  | some e=>
   cases u with
   | none=>cases h;exact⟨p,rfl⟩
   | some _=>cases h
 | _=>cases h
def sF(T:aY)(sc:Scope)(N:List Str)(C fld:Str)(mv:EM)(st:Stmt):Option SM:=(Gi st).bind fun x=>(D5 x).bind fun u=>
 if u.1 == C && oA sc u.1 && !(isStar u.2) then (cj T 60 sc N u.2).map (fun m=>nF C fld mv m) else none
theorem qH{N:List Str}{qual:Str}{scope:Scope}{f:Addr}{cd:Value}{A:Around}{outer:List Env}{s0:Shared}{H0:Hp}{E:XK}
  {C N0 fI c:Addr} {LB:FuncData} {stI:Stmt} {fQ fld sf pn cn:Str} {ve:Expr} {mv:EM} (D:vb K mg C N0 fI c LB stI fQ fld sf pn ve) (hr:bJ (k + 2) (A.deeper (envOfC qual scope s0.heap.objs.size f cd))) (hm:mg cn=some (.ref C)) (hdb:(cn == ("__debug__":Str))=false)
  (G:GoodO (bW (iV P w) P w K mg base N qual scope f cd A outer s0 H0 E) (bh mg) T k scope N)
  (yw:∀ (A':Around) (ot:List Env) (s':Shared) (e:Addr) (H1:Hp) (E':XK),bJ k (A'.deeper (envOfC fQ (af stI) s'.heap.objs.size fI (.ref c)))->bj ((bW dW P w K mg base [sf,pn] fQ (af stI) fI (.ref c) A' ot s' H1 E').iT.mk1 e) (bh mg) i5 ve mv)
  (st:Stmt) (c':SM) (h:sF T scope N cn fld mv st=some c'):km (bW (iV P w) P w K mg base N qual scope f cd A outer s0 H0 E) (bh mg) (gE (bh mg) E) st c':=by
 obtain⟨x,v1,ga⟩:=eU h;obtain⟨⟨l,arg⟩,v2,g⟩:=eU ga;obtain⟨p0,rfl⟩:=xf v1;obtain⟨p1,p2,rfl⟩:=iA v2;dsimp only at g;split at g
 ·rename_i hc
  simp only[Bool.and_eq_true,Bool.not_eq_true']at hc;obtain⟨⟨h1,h2⟩,h3⟩:=hc;obtain rfl:=eq_of_beq h1;obtain⟨m,q,rfl⟩:=cg g;have Ea:=ej 60 _ scope N _ m G q;exact uf D hr (G.gl h2) hm hm (Ea.1 _) yw (by rw[bV h3];rfl) hdb
 ·cases g
end
section
variable{P:Program}{w:World}{K:PySem.W.Frag}{mg:Str->Option Value}{base:Heap}
theorem CD{k:Nat}{f:Addr}{fd:FuncData}{ps:List Str}{κ:Str->Addr->Prop}:bO P w K mg base dW k f fd ps (cM κ (fun _ _=>.bad)):=
 ⟨fun _ _ _ _ ⟨_,_,_,_,_,_,g⟩=>g.elim,fun _ _ _ _ _ _ _ _ _ _ _ _ _ ⟨_,_,_,_,_,_,g⟩=>g.elim⟩
end
section
variable{X:Cx}{κ:Str->Addr->Prop}{T:aY}{k j:Nat}{sc:Scope}{N:List Str}{f:Addr}{fd:FuncData}{ps:List Str}{MG:bb}{E':XK}{x a y:Str}{p pa py cpos pos:Pos}
theorem xh(G:GoodO X κ T k sc N)(F:bO X.prog X.w X.K X.mg X.base (iV X.prog X.w) k f fd ps (kH κ MG))(hg:oA sc x=true)(hm:X.mg x=some (.ref f))(hk:PySem.W.keepIn X.K (.ref f)=true)(hb:Binds X.K fd ps [])(w9:Passes (iV X.prog X.w) X E')(hdb:(x == ("__debug__":Str))=false)(ha:cj T 60 sc N (.Name a pa)=some (aa j)) :
  bj X κ (gE κ E') (.Call (.Name x p) [.Name a pa] [] cpos) (mN MG (U (aa j) ag)):=
 ug F G.room (G.gl hg) hm hk hb w9 hdb rfl rfl (ka ((ej 60 X sc N _ _ G ha).1 _) mL rfl)
theorem Gj{i:Nat}(G:GoodO X κ T k sc N)(F:bO X.prog X.w X.K X.mg X.base (iV X.prog X.w) k f fd ps (kH κ MG))(hg:oA sc x=true)(hm:X.mg x=some (.ref f))(hk:PySem.W.keepIn X.K (.ref f)=true)(hb:Binds X.K fd ps [])(w9:Passes (iV X.prog X.w) X E')(hdb:(x == ("__debug__":Str))=false)(ha:cj T 60 sc N (.Name a pa)=some (aa j))
  (hN:N.Nodup) (hi:N[i]?=some y) (hy:sc.names.lookup y=some .local):ir X κ (gE κ E') [.Assign [.Name y py] (.Call (.Name x p) [.Name a pa] [] cpos) pos] (aj (aw i (mN MG (U (aa j) ag))) ai):=
 ko (rV (by rw[G.names];exact hN) (by rw[G.names];exact hi) (.inl (by rw[G.scope];exact hy)) (.inr (by rw[G.scope];exact hy)) rfl (xh G F hg hm hk hb w9 hdb ha)) mW
theorem Gk(G:GoodO X κ T k sc N)(F:bO X.prog X.w X.K X.mg X.base (iV X.prog X.w) k f fd ps (kH κ MG))(hg:oA sc x=true)(hm:X.mg x=some (.ref f))(hk:PySem.W.keepIn X.K (.ref f)=true)(hb:Binds X.K fd ps [])(w9:Passes (iV X.prog X.w) X E')(hdb:(x == ("__debug__":Str))=false)(ha:cj T 60 sc N (.Name a pa)=some (aa j)) :
  ir X κ (gE κ E') [.Expr (.Call (.Name x p) [.Name a pa] [] cpos) pos] (aj (eh (mN MG (U (aa j) ag))) ai):=
 ko (rW rfl (xh G F hg hm hk hb w9 hdb ha)) mW
end
end Mir
namespace Mir
open PySem L2
variable [aJ]
section
variable{Ω ao:aD}{ρ:aU}
theorem CF{mc me:EM}{τ:aU}{src:Src}{ds:List D}(I:Nat->List D->aD->Prop)(hs:∀ i acc Ω,I i acc Ω->iq src Ω=some ds)(he:∀ i d acc Ω,ds[i]?=some d->I i acc Ω->∃ y ao,me ([some d]++τ) Ω=.ok y ao/\I (i + 1) (acc++[y]) ao) :
  ∀ (f i:Nat) (acc:List D) Ω,I i acc Ω->ds.length - i < f->i<=ds.length->acc.length + ds.length<=100000 + i->∃ ys ao,uv true mc me 0 τ src f i acc Ω=.ok ys ao/\I ds.length ys ao:=by
 intro f
 induction f with
 | zero=>intro i acc Ω h0 hf;omega
 | succ f ih=>
  intro i acc Ω h0 hf hi ha;simp only[uv,hs i acc Ω h0]
  by_cases hlt:i < ds.length
  ·have hd:ds[i]?=some ds[i]:=List.getElem?_eq_getElem hlt
   rw[hd];have ht:oO 0 ds[i]=some [some ds[i]]:=rfl;obtain⟨y,ah,e1,h1⟩:=he i ds[i] acc Ω hd h0;have hc:iN true mc ([some ds[i]]++τ) Ω=.ok true Ω:=rfl;simp only[ht];rw[if_pos (bc (n:=acc.length + 1) (by omega)),hc]
   dsimp only;rw[e1];dsimp only;exact ih (i + 1) (acc++[y]) ah h1 (by omega) hlt (by rw[List.length_append];simp;omega)
  ·have hd:ds[i]?=none:=List.getElem?_eq_none (by omega)
   rw[hd];have:i=ds.length:=by omega
   subst this;exact⟨acc,Ω,rfl,h0⟩
theorem sG{me mc:EM}{mi:IM}{cap:List Nat}{src:Src}{ds:List D}(I:Nat->List D->aD->Prop)(hi:mi ρ Ω=.ok src ao)(h0:I 0 [] ao)(hs:∀ i acc Ω,I i acc Ω->iq src Ω=some ds)(he:∀ i d acc Ω,ds[i]?=some d->I i acc Ω->∃ y ao,me ([some d]++dR cap ρ) Ω=.ok y ao/\I (i + 1) (acc++[y]) ao)(hl:ds.length<=90000) :
  ∃ ys ay,cp me true mc mi 0 cap ρ Ω=.ok (.ref ay.length) (ay++[.lst ys])/\I ds.length ys ay:=by
 obtain⟨ys,ay,e2,h2⟩:=CF (mc:=mc) I hs he fuel 0 [] ao h0 (by unfold fuel;omega) (Nat.zero_le _) (by simp;omega)
 refine⟨ys,ay,?_,h2⟩;unfold cp;rw[hi];dsimp only;rw[e2];rfl
def D6(Ω:aD)(j:Nat)(row:List Str):Prop:=Ω[j]?=some (.lst (row.map .str))
def lR(Ω:aD)(js:List Nat)(rs:List (List Str)):Prop:=aL (D6 Ω) js rs
structure Rw(Ω:aD)(k:Nat)(js:List Nat)(rs:List (List Str)):Prop where
 ce:Ω[k]?=some (.lst (js.map .ref))
 al:lR Ω js rs
section
variable{k:Nat}{js:List Nat}{rs:List (List Str)}{row:List Str}{n:Str}
theorem lR.keep:∀ {js:List Nat} {rs:List (List Str)},lR Ω js rs->∀ {fp:List Nat},aq fp Ω ao->(∀ j∈js,j∉fp)->lR ao js rs
 | _,_,.nil,_,_,_=>.nil
 | _,_,.cons r t,fp,K,h=>.cons (K.get _ _ r (h _ (by simp))) (lR.keep t K fun j hj=>h j (by simp[hj]))
theorem Rw.keep(R:Rw Ω k js rs)(K:aq [] Ω ao):Rw ao k js rs:=⟨K.get _ _ R.ce (by simp),R.al.keep K (by simp)⟩
theorem Rw.lS(R:Rw Ω k js rs){fp:List Nat}(K:aq fp Ω ao)(hk:k∉fp)(hj:∀ j∈js,j∉fp):Rw ao k js rs:=⟨K.get _ _ R.ce hk,R.al.keep K hj⟩
theorem lR.len(h:lR Ω js rs):rs.length=js.length:=aL.length h
theorem Rw.len(R:Rw Ω k js rs):rs.length=js.length:=R.al.len
theorem lR.at{i:Nat}{row:List Str}(h:lR Ω js rs)(hr:rs[i]?=some row):∃ j,js[i]?=some j/\Ω[j]?=some (.lst (row.map .str)):=aL.B4 (R:=D6 Ω) h hr
theorem lR.at'{i j:Nat}(h:lR Ω js rs)(hj:js[i]?=some j):∃ row,rs[i]?=some row/\Ω[j]?=some (.lst (row.map .str)):=aL.get (R:=D6 Ω) h hj
theorem lR.lt(h:lR Ω js rs):∀ j∈js,j < Ω.length:=fun j hj=>by
 obtain⟨i,hi⟩:=List.mem_iff_getElem?.mp hj;obtain⟨row,_,h2⟩:=h.at' hi;exact dg h2
theorem qI{js:List Nat}{i:Nat}{d:D}(h:(js.map D.ref)[i]?=some d):∃ j,js[i]?=some j/\d=.ref j:=by
 rw[List.getElem?_map]at h;obtain⟨x,h1,h2⟩:=Option.map_eq_some_iff.mp h;exact⟨x,h1,h2.symm⟩
def Jp:SM:=(aj (cW (m2 (ax .In) (aa 1) (br (aa 3) false (ae (.int 1)) true (ae .non))) (aj (aQ (aa 2)) ai) ai) ai)
def o7:SM:=(aj (c_ (kn [2,3]) (tY (aa 0)) Jp) (aj (aQ (ae .non)) ai))
theorem qJ{j:Nat}(h:Ω[j]?=some (.lst (row.map .str))):ey (.ref j) (some 1) none Ω=.ok (.ref Ω.length) (Ω++[.lst (row.tail.map .str)]):=by
 have e:cQ (row.map D.str) (some 1) none=row.tail.map .str:=by
  have:=j4 (row.map D.str) 1;rw[show((1:Nat):Int)=1 by rfl]at this
  rw[this,← List.map_drop,List.drop_one]
 simp only[ey,aM h,dS,e]
theorem CG{j i:Nat}(h:Ω[j]?=some (.lst (row.map .str))):∃ ao,aq [] Ω ao/\Jp [some (.ref k),some (.str n),some (.int i),some (.ref j)] Ω=if n∈row.tail then .rt (.int i) ao else .nx [some (.ref k),some (.str n),some (.int i),some (.ref j)] ao:=by
 have hs:=qJ h;have g1:(Ω++[Cell.lst (row.tail.map .str)])[Ω.length]?=some (.lst (row.tail.map .str)):=aE;have K1:aq [] Ω (Ω++[Cell.lst (row.tail.map .str)]):=aq.app;generalize Ω++[Cell.lst (row.tail.map .str)]=ah at *;have hi:=nv (w:=n) g1;refine⟨ah,K1,?_⟩
 by_cases hm:n∈row.tail
 ·rw[if_pos hm,decide_eq_true hm]at *
  simp[Jp,hs,hi,-jA]
 ·rw[if_neg hm,decide_eq_false hm]at *
  simp[Jp,hs,hi,-jA]
theorem xi(R:Rw Ω k js rs)(hl:rs.length<=1000):∃ d ao,bu 4 2 o7 [.ref k,.str n] Ω=.ok d ao/\aq [] Ω ao/\((d=.non/\∀ r∈rs,n∉r.tail)\/∃ i:Nat,d=.int i/\∃ r,rs[i]?=some r/\n∈r.tail):=by
 rw[bF (by rfl)]
 have e0:aS 4 [D.ref k,.str n]=[some (.ref k),some (.str n),none,none]:=rfl;rw[e0];have hL:=R.len
 have kI:tY (aa 0) [some (.ref k),some (.str n),none,none] Ω=.ok (.Lh (.ref k)) Ω:=by
  unfold tY;simp[aM R.ce]
 unfold o7;rw[ak,fD,kI,gM]
 refine dC (R:=fun r=>∃ d ao,fy (sq r _)=.ok d ao/\aq [] Ω ao/\((d=.non/\∀ r∈rs,n∉r.tail)\/∃ i:Nat,d=.int i/\∃ r,rs[i]?=some r/\n∈r.tail)) (ds:=cY 0 (js.map .ref))
  (fun i ρ ay=>∃ a2 a3,ρ=[some (.ref k),some (.str n),a2,a3]/\(∀ r∈rs.take i,n∉r.tail)/\aq [] Ω ay) ?_ ?_ ?_ fuel 0 _ _ (by rw[h_];unfold fuel;simp;omega) (Nat.zero_le _) ⟨none,none,rfl,by simp,aq.refl⟩
 ·rintro i ρ ay ⟨_,_,_,_,K⟩
  show(et ay (.ref k)).map (cY 0)=_
  rw[bg,aM (R.keep K).ce];rfl
 ·rintro i d ρ ay hd ⟨a2,a3,rfl,hz,K⟩
  obtain⟨d',hd',rfl⟩:=jl _ 0 i d hd;obtain⟨j,hj,rfl⟩:=qI hd';obtain⟨row,hr,hrow⟩:=(R.keep K).al.at' hj;rw[Nat.zero_add];refine⟨[some (.ref k),some (.str n),some (.int i),some (.ref j)],rfl,?_⟩;obtain⟨aP,K3,e⟩:=CG (k:=k) (n:=n) (i:=i) hrow;rw[e]
  by_cases hm:n∈row.tail
  ·rw[if_pos hm]
   exact⟨.int i,aP,rfl,K.trans K3,.inr ⟨i,rfl,row,hr,hm⟩⟩
  ·rw[if_neg hm]
   refine⟨_,_,rfl,fun r hr' => ?_,K.trans K3⟩
   rw[List.take_succ,hr]at hr';simp at hr';rcases hr' with h | rfl
   ·exact hz r h
   ·exact hm
 ·rintro ρ ay ⟨a2,a3,rfl,hz,K⟩
  rw[h_,List.length_map,← hL,List.take_length]at hz;exact⟨.non,ay,rfl,K,.inl ⟨rfl,hz⟩⟩
def Gm(PB:bb):SM:=(aj (cW (cJ (aa 1) (m2 (ax .Is) (mN (aN PB) (U (aa 0) (U (m2 aA (aa 1) (ae (.int 0))) ag))) (ae .non))) (aj (aQ (m2 aA (aa 1) (ae (.int 0)))) ai) ai) ai)
def zY(PB:bb):SM:=(aj (c_ (bY 1) (cK (aa 0)) (Gm PB)) (aj (aQ (ae .non)) ai))
theorem gm{j:Nat}{ds:List D}(h:Ω[j]?=some (.lst ds)):eS Ω (.ref j)=some (!ds.isEmpty):=by simp only[eS,h]
theorem CH{j:Nat}(R:Rw Ω k js rs)(hl:rs.length<=1000)(h:Ω[j]?=some (.lst (row.map .str))):∃ ao,aq [] Ω ao/\Gm (bu 4 2 o7) [some (.ref k),some (.ref j)] Ω=match freeOf rs row with | some m=>.rt (.str m) ao | none=>.nx [some (.ref k),some (.ref j)] ao:=by
 cases row with
 | nil=>
  have ht:=gm h;refine⟨Ω,aq.refl,?_⟩;simp[Gm,freeOf,ht]
 | cons m t=>
  have ht:=gm h;have ht:eS Ω (.ref j)=some true:=ht;have hix:aA (.ref j) (.int 0) Ω=.ok (.str m) Ω:=bq h (L2.bf (j:=0) rfl);obtain⟨d,ah,e1,K1,hc⟩:=xi (n:=m) R hl;have h1:=K1.get _ _ h (by simp)
  have LH:aA (.ref j) (.int 0) ah=.ok (.str m) ah:=bq h1 (L2.bf (j:=0) rfl);refine⟨ah,K1,?_⟩;generalize bu 4 2 o7=PB at *;rcases hc with ⟨rfl,hz⟩ | ⟨i,rfl,r,hr,hz⟩
  ·rw[gS (by rintro⟨r,hr,hm⟩;exact hz r hr hm)]
   simp[Gm,ht,hix,e1,LH]
  ·rw[j5 ⟨r,List.mem_of_getElem? hr,hz⟩]
   simp[Gm,ht,hix,e1]
theorem CI(R:Rw Ω k js rs)(hl:rs.length<=1000):∃ ao,bu 2 1 (zY (bu 4 2 o7)) [.ref k] Ω=.ok (vZ (free rs)) ao/\aq [] Ω ao:=by
 rw[bF (by rfl)]
 have e0:aS 2 [D.ref k]=[some (.ref k),none]:=rfl;rw[e0];have hL:=R.len;have kI:cK (aa 0) [some (.ref k),none] Ω=.ok (.seq (.ref k)) Ω:=by simp[cE (x:=.ref k) (by rw[bg,aM R.ce])]
 unfold zY;rw[ak,fD,kI,gM]
 refine dC (R:=fun r=>∃ ao,fy (sq r _)=.ok (vZ (free rs)) ao/\aq [] Ω ao) (ds:=js.map .ref)
  (fun i ρ ay=>∃ a1,ρ=[some (.ref k),a1]/\(rs.take i).findSome? (freeOf rs)=none/\aq [] Ω ay) ?_ ?_ ?_ fuel 0 _ _ (by unfold fuel;simp;omega) (Nat.zero_le _) ⟨none,rfl,rfl,aq.refl⟩
 ·rintro i ρ ay ⟨_,_,_,K⟩
  rw[eI,bg,aM (R.keep K).ce]
 ·rintro i d ρ ay hd ⟨a1,rfl,hz,K⟩
  obtain⟨j,hj,rfl⟩:=qI hd;have R2:=R.keep K;obtain⟨row,hr,hrow⟩:=R2.al.at' hj;refine⟨[some (.ref k),some (.ref j)],rfl,?_⟩;obtain⟨aP,K3,e⟩:=CH R2 hl hrow;rw[e];have ht:rs.take (i + 1)=rs.take i++[row]:=by rw[List.take_succ,hr];rfl
  cases hf:freeOf rs row with
  | some m=>
   refine⟨aP,?_,K.trans K3⟩
   have:free rs=some m:=by
    unfold free
    have hd:rs=rs.take i++(row::rs.drop (i + 1)):=by
     have hlt:i < rs.length:=(List.getElem?_eq_some_iff.mp hr).1;rw[List.getElem?_eq_getElem hlt]at hr;cases hr;rw[← List.drop_eq_getElem_cons hlt,List.take_append_drop]
    conv=>lhs;arg 2;rw[hd]
    rw[List.findSome?_append,hz,List.findSome?_cons,hf];rfl
   rw[this];rfl
  | none=>
   refine⟨_,rfl,?_,K.trans K3⟩;rw[ht,List.findSome?_append,hz,List.findSome?_cons,hf];rfl
 ·rintro ρ ay ⟨a1,rfl,hz,K⟩
  rw[List.length_map,← hL,List.take_length]at hz;refine⟨ay,?_,K⟩;unfold free;rw[hz];rfl
end
end
section
variable{Ω ao:aD}{ρ:aU}{k:Nat}{js:List Nat}{rs:List (List Str)}{row:List Str}{n:Str}
theorem lR.snoc{j:Nat}(h:lR Ω js rs)(h1:Ω[j]?=some (.lst (row.map .str))):lR Ω (js++[j]) (rs++[row]):=aL.append (R:=D6 Ω) h (.cons h1 .nil)
theorem iQ{ds:List D}(h:Ω[k]?=some (.lst ds)):aW .list [.ref k] Ω=.ok (.ref Ω.length) (Ω++[.lst ds]):=by
 show oK [.ref k] Ω=_
 simp only[oK,bg,aM h];rfl
theorem o_{me mc:EM}{mi:IM}{cap:List Nat}{f:List Str->List Str}{P:Nat->Prop}(hi:mi ρ Ω=.ok (.seq (.ref k)) Ω)(R:Rw Ω k js rs)(hl:rs.length<=1000)
  (he:∀ j row ah,aq [] Ω ah->j∈js->row∈rs->ah[j]?=some (.lst (row.map .str))->∃ j' ay,me ([some (.ref j)]++dR cap ρ) ah=.ok (.ref j') ay/\aq [] ah ay/\ay[j']?=some (.lst ((f row).map .str))/\P j') :
  ∃ eM ay,cp me true mc mi 0 cap ρ Ω=.ok (.ref ay.length) (ay++[.lst (eM.map .ref)])/\aq [] Ω ay/\lR ay eM (rs.map f)/\∀ j∈eM,P j:=by
 have hL:=R.len
 obtain⟨ys,ay,e,eM,rfl,h1,h2,h3⟩:=sG (me:=me) (mc:=mc) (cap:=cap) (ds:=js.map .ref) (fun i acc ay=>∃ eM,acc=eM.map .ref/\lR ay eM ((rs.take i).map f)/\aq [] Ω ay/\∀ j∈eM,P j) hi ⟨[],rfl,.nil,aq.refl,by simp⟩
  (fun i acc ay h=>by
   obtain⟨_,_,_,K,_⟩:=h;rw[eI,bg,aM (R.keep K).ce])
  (fun i d acc ah hd h=>by
   obtain⟨eM,rfl,h1,K,h3⟩:=h;obtain⟨j,hj,rfl⟩:=qI hd;obtain⟨row,hr,hrow⟩:=(R.keep K).al.at' hj;obtain⟨j',ay,e,K2,h4,h5⟩:=he j row ah K (List.mem_of_getElem? hj) (List.mem_of_getElem? hr) hrow;refine⟨.ref j',ay,e,eM++[j'],by simp,?_,K.trans K2,?_⟩
   ·rw[List.take_succ,hr,List.map_append]
    exact(h1.keep K2 (by simp)).snoc h4
   ·intro x hx
    rcases List.mem_append.mp hx with h | h
    ·exact h3 x h
    ·rw[List.mem_singleton.mp h];exact h5) (by simp;omega)
 refine⟨eM,ay,e,h2,?_,h3⟩;rw[List.length_map,← hL,List.take_length]at h1;exact h1
def pd(i:Nat):EM:=cp (mN (aW .list) (U (aa 0) ag)) true (ae .non) (cK (aa i)) 0 []
theorem sH{i:Nat}(hi:ρ[i]?=some (some (.ref k)))(R:Rw Ω k js rs)(hl:rs.length<=1000):∃ eM k' ao,pd i ρ Ω=.ok (.ref k') ao/\aq [] Ω ao/\Rw ao k' eM rs/\(∀ j∈eM,Ω.length<=j)/\Ω.length<=k'/\k'∉eM:=by
 have kI:cK (aa i) ρ Ω=.ok (.seq (.ref k)) Ω:=by
  rw[fC,m_,hi,m9,aO];exact cE (by rw[bg,aM R.ce])
 obtain⟨eM,ay,e,K,h1,h2⟩:=o_ (me:=mN (aW .list) (U (aa 0) ag)) (mc:=ae .non) (cap:=[]) (f:=fun r=>r) (P:=fun j=>Ω.length<=j) kI R hl (fun j row ah K _ _ h=>by
  refine⟨ah.length,ah++[.lst (row.map .str)],?_,aq.app,aE,K.len⟩;have:=iQ h;simp[dR,this])
 rw[List.map_id']at h1;refine⟨eM,ay.length,_,e,K.trans aq.app,⟨aE,h1.keep (fp:=[]) aq.app (by simp)⟩,h2,K.len,fun h => ?_⟩
 have:=h1.lt _ h;omega
def stC:EM:=(DX (m2 (ax .Eq) (br (aa 0) true (ae .non) false (ae (.int 1))) (mN cm (U (aa 1) ag))) (br (aa 0) false (ae (.int 1)) true (ae .non)) (aa 0))
theorem xj{j:Nat}(h:Ω[j]?=some (.lst (row.map .str))):ey (.ref j) none (some 1) Ω=.ok (.ref Ω.length) (Ω++[.lst ((row.take 1).map .str)]):=nB (n:=1) h
theorem CJ{j:Nat}(h:Ω[j]?=some (.lst (row.map .str))):∃ j' ao,stC [some (.ref j),some (.str n)] Ω=.ok (.ref j') ao/\aq [] Ω ao/\ao[j']?=some (.lst ((cH n row).map .str))/\(j'=j\/Ω.length<=j'):=by
 have s1:=xj h;have g1:(Ω++[Cell.lst ((row.take 1).map .str)])[Ω.length]?=some (.lst ((row.take 1).map .str)):=aE;have K1:aq [] Ω (Ω++[Cell.lst ((row.take 1).map .str)]):=aq.app;generalize Ω++[Cell.lst ((row.take 1).map .str)]=ah at *;have g2:(ah++[Cell.lst [.str n]])[ah.length]?=some (.lst ([n].map .str)):=aE;have K2:aq [] ah (ah++[Cell.lst [.str n]]):=aq.app;have Gn:=K2.get _ _ g1 (by simp)
 have h2:=K2.get _ _ (K1.get _ _ h (by simp)) (by simp)
 have hq:=sx Gn g2
 have e0:(m2 (ax .Eq) (br (aa 0) true (ae .non) false (ae (.int 1))) (mN cm (U (aa 1) ag))) [some (.ref j),some (.str n)] Ω=.ok (.bl (decide (row.take 1=[n]))) (ah++[Cell.lst [.str n]]):=by
  simp[s1,bc,hq,-jz]
 generalize ah++[Cell.lst [.str n]]=ay at *;have K:=K1.trans K2;have s2:=qJ h2;unfold stC;rw[Cu,e0,r_,dm,rZ,aO]
 by_cases hq:row.take 1=[n]
 ·rw[if_pos (by rw[decide_eq_true hq])]
  refine⟨ay.length,ay++[.lst (row.tail.map .str)],?_,K.trans aq.app,?_,.inr K.len⟩
  ·simp[s2]
  ·unfold cH;rw[if_pos hq];exact aE
 ·rw[if_neg (by rw[decide_eq_false hq];simp)]
  refine⟨j,ay,by simp,K,?_,.inl rfl⟩
  unfold cH;rw[if_neg hq];exact h2
def FnAt(FN:bb):Prop:=∀ Ω k js rs,Rw Ω k js rs->rs.length<=1000->∃ ao,FN [.ref k] Ω=.ok (vZ (free rs)) ao/\aq [] Ω ao
theorem Gp:FnAt (bu 2 1 (zY (bu 4 2 o7))):=fun _ _ _ _ R hl=>CI R hl
def tM:EM:=(mN (aW .any) (U (aa 1) ag))
def stM:EM:=(cp stC true (ae .non) (cK (aa 1)) 0 [3])
def bM(st:SM)(FN:bb):SM:=(aj (aw 3 (mN (aN FN) (U (aa 1) ag)))
 (aj (cW (m2 (ax .Is) (aa 3) (ae .non))
 (aj st
 ai)
 ai)
 (aj (eh (bP fL bB (aa 2) (U (aa 3) ag)))
 (aj (aw 1 stM)
 ai))))
def zZ(st:SM)(FN:bb):SM:=
 (aj (aw 1 (pd 0))
 (aj (aw 2 (mN cm ag))
 (aj (qy tM (bM st FN))
 (aj (aQ (aa 2))
 ai))))
theorem sI(R:Rw Ω k js rs):aW .any [.ref k] Ω=.ok (.bl ((rs.map fun r => !r.isEmpty).any id)) Ω:=by
 show kd .any [.ref k] Ω=_
 unfold kd;rw[jx];have h:=gj (n:=6) (rs:=js) (L:=rs) R.ce R.al;have:bE (eR Ω 8) [.ref k]=some [LL rs]:=by simp[h]
 rw[this,sj];have:oM .any [LL rs]=.ok (false,.bl ((rs.map fun r => !r.isEmpty).any id)):=by simp[LL,any_rows,-List.any_map]
 rw[this,wX]
theorem Gq{st:SM}{FN:bb}(hF:FnAt FN){R0:D}{q:Nat}{a3:Option D}{pre:List Str}(R:Rw Ω k js rs)(hr:rs.length<=1000)(hf:free rs=some n)(hq:Ω[q]?=some (.lst (pre.map .str)))(LI:q≠k)(Jq:q∉js)(hp:pre.length<=900) :
  ∃ k' eM ao,bM st FN [some R0,some (.ref k),some (.ref q),a3] Ω=.nx [some R0,some (.ref k'),some (.ref q),some (.str n)] ao/\Rw ao k' eM (rs.map (cH n))/\ao[q]?=some (.lst ((pre++[n]).map .str))/\q≠k'/\q∉eM/\aq [q] Ω ao:=by
 obtain⟨ah,e1,K1⟩:=hF Ω k js rs R hr;rw[hf]at e1;have q1:=K1.get _ _ hq (by simp)
 have R1:=R.keep K1;have hap:=dh (d:=.str n) q1 (by simp;omega)
 have hL:=dq q1;have K2:aq [q] ah (ah.set q (.lst (pre.map .str++[.str n]))):=aq.set (by simp)
 have q2:(ah.set q (.lst (pre.map .str++[.str n])))[q]?=some (.lst ((pre++[n]).map .str)):=by rw[cR q1];simp
 generalize ah.set q (.lst (pre.map .str++[.str n]))=ay at *;have R2:Rw ay k js rs:=R1.lS K2 (by simpa using Ne.symm LI) (fun j hj h=>Jq (by rw[← List.mem_singleton.mp h];exact hj))
 have kI:cK (aa 1) [some R0,some (.ref k),some (.ref q),some (.str n)] ay=.ok (.seq (.ref k)) ay:=by
  rw[fC];exact cE (by rw[bg,aM R2.ce])
 have ql:=dg q2
 obtain⟨eM,aP,e3,K3,h3,h4⟩:=o_ (ρ:=[some R0,some (.ref k),some (.ref q),some (.str n)]) (me:=stC) (mc:=ae .non) (cap:=[3]) (f:=cH n) (P:=fun j=>j≠q) kI R2 hr (fun j row aP K hj _ h=>by
  obtain⟨j',er,e,K4,h4,h5⟩:=CJ (n:=n) h;refine⟨j',er,e,K4,h4,?_⟩;rcases h5 with rfl | h5
  ·exact fun z=>Jq (z▸hj)
  ·have:=K.len
   omega)
 have Tc:=K3.len;refine⟨aP.length,eM,aP++[.lst (eM.map .ref)],?_,⟨aE,h3.keep (fp:=[]) aq.app (by simp)⟩,su (K3.get _ _ q2 (by simp)),by omega,fun h=>h4 q h rfl,?_⟩
 ·have e3':stM [some R0,some (.ref k),some (.ref q),some (.str n)] ay=.ok (.ref aP.length) (aP++[.lst (eM.map .ref)]):=e3
  have r1:(aw 3 (mN (aN FN) (U (aa 1) ag))) [some R0,some (.ref k),some (.ref q),a3] Ω=.nx [some R0,some (.ref k),some (.ref q),some (.str n)] ah:=by simp[e1,vZ]
  have r2:(cW (m2 (ax .Is) (aa 3) (ae .non)) (aj st ai) ai) [some R0,some (.ref k),some (.ref q),some (.str n)] ah=.nx [some R0,some (.ref k),some (.ref q),some (.str n)] ah:=by simp
  have r3:(eh (bP fL bB (aa 2) (U (aa 3) ag))) [some R0,some (.ref k),some (.ref q),some (.str n)] ah=.nx [some R0,some (.ref k),some (.ref q),some (.str n)] ay:=by
   rw[fA,dI (x:=.ref q) (ao:=ah) (by simp) hL]
   simp[hap]
  unfold bM;rw[ak,r1,aI,ak,r2,aI,ak,r3,aI,ak,cB,e3'];rfl
 ·exact((kG.up K1).trans K2).trans (kG.up (K3.trans aq.app))
end
theorem z4:∃ μ,ef μ (pureOf (bu 8 3 lQ)):=by
 have h:∀ c t m:Int,∃ r,0<=t->t < 100000->0 < m->0<=r/\r < m/\pureOf (bu 8 3 lQ) [.int c,.int t,.int m]=.ok (false,.int r):=fun c t m=>by
  by_cases hh:0<=t/\t < 100000/\0 < m
  ·obtain⟨r,h1,h2,h3⟩:=zU (c:=c) hh.1 hh.2.1 hh.2.2
   exact⟨r,fun _ _ _=>⟨h1,h2,h3⟩⟩
  ·exact⟨0,fun a b c=>absurd ⟨a,b,c⟩ hh⟩
 exact⟨fun c t m=>(h c t m).choose,fun c t m=>(h c t m).choose_spec⟩
def nH:SM:=
 (aj (cW (m2 (ax .Lt) (aa 1) (mN (aW .len) (U (aa 0) ag)))
 (aj (aQ (m2 aA (aa 0) (aa 1)))
 ai)
 ai)
 (aj (aQ (ae (.int 0)))
 ai))
theorem Gr(ns:List Int):Ct (SC ns)=true:=by
 show(ns.map D.int).all eG=true
 rw[List.all_eq_true];intro d hd;obtain⟨i,_,rfl⟩:=List.mem_map.mp hd;rfl
theorem xk:j6 (fun ns k=>ns.getD k 0) (pureOf (bu 2 2 nH)):=by
 intro ns k
 have hpl:[SC ns,D.int k].all Ct=true:=by
  simp only[List.all_cons,Gr,List.all_nil];rfl
 have e0:aS 2 [SC ns,D.int k]=[some (SC ns),some (.int k)]:=rfl
 have hlen:aW .len [SC ns] []=.ok (.int ns.length) []:=by
  show av.ok (D.int ((ns.map D.int).length:Nat)) []=_
  rw[List.length_map]
 refine gv (ao:=[]) hpl ?_ rfl;rw[bF (by rfl),e0]
 by_cases h:k < ns.length
 ·have hi:(k:Int) < (ns.length:Int):=by omega
  have e:L2.iD (ns.map D.int) (k:Int)=some (.int (ns.getD k 0)):=L2.bf (by simp[h])
  have hx:aA (SC ns) (.int k) []=.ok (.int (ns.getD k 0)) []:=by
   unfold aA;rw[gu,gu,jB]
   show kM (ixs [] (some (ns.map D.int)) (.int k)) _=_
   rw[qE e];rfl
  simp[nH,hlen,hi,hx,-List.getD_eq_getElem?_getD]
 ·have hi:¬ (k:Int) < (ns.length:Int):=by omega
  have e:ns.getD k 0=0:=by rw[List.getD_eq_getElem?_getD,List.getElem?_eq_none (by omega)];rfl
  show _=av.ok (D.int (ns.getD k 0)) []
  rw[e];simp[nH,hlen,hi]
section
variable{Ω ao:aD}{ρ:aU}{F:List D->Out Rs}{μ:Int->Int->Int->Int}{c:Int}{m:Nat}
def xo:SM:=(aj (aw 8 (m2 (az .Add) (aa 8) (m2 aA (aa 2) (m2 (az .Mod) (m2 (az .Add) (m2 aA (aa 4) (aa 9)) (m2 (az .Mult) (aa 3) (mN (aW .int) (U (m2 (ax .Eq) (aa 9) (aa 6)) ag)))) (ae (.int 26))))))
 ai)
def jC:EM:=(cp (m2 aA (aa 1) (aa 0)) true (ae .non) (cK (br (aa 4) true (ae .non) false (m2 (az .Add) (aa 3) (ae (.int 1))))) 0 [2])
def jI(F:List D->Out Rs):SM:=(cW (cJ (m2 (ax .Eq) (mN (aV F) (U (aa 0) (U (ae (.int 10)) (U (ae (.int 4)) ag)))) (ae (.int 1))) (m2 (ax .Lt) (aa 1) (ae (.int 9))))
 (aj (aw 8 (bP wj ki (ae (.str "")) (U jC ag)))
 ai)
 ai)
def pe(F:List D->Out Rs):SM:=
 (aj (aw 8 (ae (.str "")))
 (aj (c_ (bY 9) (bz (U (aa 5) ag)) xo)
 (aj (jI F)
 (aj (eh (bP fL bB (aa 7) (U (aa 8) ag)))
 ai))))
def Gs(F:List D->Out Rs):EM:=(cp (mN (aV F) (U (aa 1) (U (aa 0) (U (ae (.int 26)) ag)))) true (ae .non) (bz (U (ae (.int 8)) ag)) 0 [0])
def z5(F:List D->Out Rs):SM:=
 (aj (aw 2 (ae (.str "abcdefghijklmnopqrstuvwxyz")))
 (aj (aw 4 (Gs F))
 (aj (aw 5 (m2 (az .Add) (ae (.int 1)) (mN (aV F) (U (aa 0) (U (ae (.int 8)) (U (ae (.int 8)) ag))))))
 (aj (aw 6 (mN (aV F) (U (aa 0) (U (ae (.int 9)) (U (aa 5) ag)))))
 (aj (aw 7 (mN cm ag))
 (aj (c_ (bY 3) (bz (U (aa 1) ag)) (pe F))
 (aj (aw 10 (mN (aV F) (U (aa 0) (U (ae (.int 11)) (U (aa 1) ag)))))
 (aj (aQ (m2 (az .Add) (br (aa 7) false (aa 10) true (ae .non)) (br (aa 7) true (ae .non) false (aa 10))))
 ai))))))))
abbrev NV(c:Int)(m k b sz at' q:Nat)(a8 a9:Option D):aU:=[some (.int c),some (.int m),some (.str abc),some (.int k),some (.ref b),some (.int sz),some (.int at'),some (.ref q),a8,a9,none]
theorem CK(hμ:ef μ F){k at' sz i b q:Nat}{z:Str}(hb:Ω[b]?=some (.lst (bs μ c)))(hk:k < 1000)(hi:i < 8)(hz:z.length<=100) :
  xo (NV c m k b sz at' q (some (.str z)) (some (.int i))) Ω=.nx (NV c m k b sz at' q (some (.str (z++fS (97 + ((μ c i 26 + if i=at' then (k:Int) else 0) % 26).toNat)))) (some (.int i))) Ω:=by
 have e:L2.iD (bs μ c) (i:Int)=some (.int (μ c i 26)):=L2.bf (by simp[bs,hi])
 have hx1:=bq hb e;have h64:kW (k:Int)=true:=jm (by omega) (by omega)
 have hs:∀ q,small (z.length + (fS q).length)=true:=fun q=>bc (by rw[j3];omega)
 have hx:=rM (q:=(μ c i 26 + if i=at' then (k:Int) else 0) % 26) (Int.emod_nonneg _ (by omega)) (Int.emod_lt_of_pos _ (by omega))
 have hmul:(k:Int) * (if ((i:Int) == (at':Int))=true then 1 else 0)=if i=at' then (k:Int) else 0:=by
  by_cases h:i=at'
  ·subst h;simp
  ·have:((i:Int) == (at':Int))=false:=by simp;omega
   rw[this];simp[h]
 have r1:(mN (aW .int) (U (m2 (ax .Eq) (aa 9) (aa 6)) ag)) (NV c m k b sz at' q (some (.str z)) (some (.int i))) Ω=.ok (.int (if ((i:Int) == (at':Int))=true then 1 else 0)) Ω:=by
  have:aW .int [.bl ((i:Int) == (at':Int))] Ω=.ok (.int (if ((i:Int) == (at':Int))=true then 1 else 0)) Ω:=by
   show kd .int [.bl ((i:Int) == (at':Int))] Ω=_
   unfold kd;rw[jx];simp
  simp[NV,-beq_iff_eq]at this ⊢;exact this
 have r2:(m2 (az .Mult) (aa 3) (mN (aW .int) (U (m2 (ax .Eq) (aa 9) (aa 6)) ag))) (NV c m k b sz at' q (some (.str z)) (some (.int i))) Ω=.ok (.int (if i=at' then (k:Int) else 0)) Ω:=by
  rw[cF,show aa 3 (NV c m k b sz at' q (some (.str z)) (some (.int i))) Ω=.ok (.int k) Ω from rfl,aO,r1,aO,← hmul]
  generalize (if ((i:Int) == (at':Int))=true then (1:Int) else 0)=u
  simp[h64]
 have r3:(m2 (az .Add) (m2 aA (aa 4) (aa 9)) (m2 (az .Mult) (aa 3) (mN (aW .int) (U (m2 (ax .Eq) (aa 9) (aa 6)) ag)))) (NV c m k b sz at' q (some (.str z)) (some (.int i))) Ω=.ok (.int (μ c i 26 + if i=at' then (k:Int) else 0)) Ω:=by
  rw[cF,show m2 aA (aa 4) (aa 9) (NV c m k b sz at' q (some (.str z)) (some (.int i))) Ω=.ok (.int (μ c i 26)) Ω from hx1,aO,r2,aO]
  simp
 generalize (μ c i 26 + if i=at' then (k:Int) else 0)=u at *
 have r4:(m2 aA (aa 2) (m2 (az .Mod) (m2 (az .Add) (m2 aA (aa 4) (aa 9)) (m2 (az .Mult) (aa 3) (mN (aW .int) (U (m2 (ax .Eq) (aa 9) (aa 6)) ag)))) (ae (.int 26)))) (NV c m k b sz at' q (some (.str z)) (some (.int i))) Ω=.ok (.str (fS (97 + (u % 26).toNat))) Ω:=by
  rw[cF,show aa 2 (NV c m k b sz at' q (some (.str z)) (some (.int i))) Ω=.ok (.str abc) Ω from rfl,aO,cF,r3]
  simp[hx]
 generalize (97 + (u % 26).toNat)=v at *;have hs':=hs v;unfold xo;rw[ak,cB,cF,show aa 8 (NV c m k b sz at' q (some (.str z)) (some (.int i))) Ω=.ok (.str z) Ω from rfl,aO,r4,aO]
 simp[hs']
theorem xq(hμ:ef μ F){k at' sz b q:Nat}{a9:Option D}(hb:Ω[b]?=some (.lst (bs μ c)))(hk:k < 1000)(hsz:sz<=8)(hat:at' < sz) :
  ∃ (z:Str) (nO:Option D),z.length=sz/\z.cps.toList[at']?=some (97 + ((μ c at' 26 + k) % 26).toNat) /\
   eH (bY 9) (.ints 0 sz) xo fuel 0 (NV c m k b sz at' q (some (.str "")) a9) Ω=.nx (NV c m k b sz at' q (some (.str z)) nO) Ω:=by
 refine dC (R:=fun r=>∃ (z:Str) (nO:Option D),z.length=sz/\z.cps.toList[at']?=some (97 + ((μ c at' 26 + k) % 26).toNat)/\r=.nx (NV c m k b sz at' q (some (.str z)) nO) Ω) (ds:=intsFrom 0 sz)
  (fun i ρ ay=>∃ (z:Str) (nO:Option D),z.length=i/\(at' < i->z.cps.toList[at']?=some (97 + ((μ c at' 26 + k) % 26).toNat))/\ρ=NV c m k b sz at' q (some (.str z)) nO/\ay=Ω) (fun _ _ _ _=>rfl) ?_ ?_ fuel 0 _ _ (by rw[bS];unfold fuel;omega) (Nat.zero_le _) ⟨"",a9,by decide,fun h=>by omega,rfl,rfl⟩
 ·rintro i d ρ ay hd ⟨z,nO,hz,pf,rfl,rfl⟩
  obtain⟨rfl,hlt⟩:=dk hd;rw[show(0:Int) + (i:Int)=(i:Int) by omega]
  refine⟨NV c m k b sz at' q (some (.str z)) (some (.int i)),rfl,?_⟩;rw[CK hμ hb hk (by omega) (by omega)]
  refine⟨_,_,by rw[Str.length_append,j3];omega,fun hai => ?_,rfl,rfl⟩
  rw[Str.cps_append,Array.toList_append]
  by_cases ha:at' < i
  ·rw[List.getElem?_append_left (by rw[← str_len];omega)]
   exact pf ha
  ·obtain rfl:at'=i:=by omega
   rw[List.getElem?_append_right (by rw[← str_len];omega),← str_len,hz,Nat.sub_self,if_pos rfl]
   rfl
 ·rintro ρ ay ⟨z,nO,hz,pf,rfl,rfl⟩
  rw[bS]at hz pf;exact⟨z,nO,hz,pf hat,rfl⟩
theorem join_ones(f:Nat->Nat)(k:Nat)(hk:k < 1000):∃ S:Str,S.length=k + 1/\mx .join (.str "") (.tup [L1 ((List.range (k + 1)).map fun i=>fS (f i))])=.ok (false,.str S):=by
 let ys:List Str:=(List.range (k + 1)).map fun (i:Nat)=>fS (f i)
 have gen:∀ xs:List Str,eF (xs.map .str)=some xs:=fun xs=>by
  induction xs with
  | nil=>rfl
  | cons x xs ih=>simp[eF,ih]
 have hst:=gen ys;have hyl:ys.length=k + 1:=by simp[ys]
 have hsum:(ys.map (·.length)).sum=k + 1:=by
  have:ys.map (·.length)=List.replicate ys.length 1:=by
   apply List.eq_replicate_iff.mpr;refine⟨by simp,fun b hb => ?_⟩
   obtain⟨y,hy,rfl⟩:=List.mem_map.mp hb;obtain⟨i,_,rfl⟩:=List.mem_map.mp hy;exact j3
  rw[this,hyl];simp
 have hjl:(Txt.join "" ys).length=k + 1:=by
  show(Builtin.Str.glued "" ys).length=_
  rw[size_glued,hsum,show("":Str).length=0 by decide];simp
 refine⟨Txt.join "" ys,hjl,?_⟩
 show mx .join (.str "") (.tup [.lst (ys.map .str)])=_
 unfold mx;simp only[hst];rw[if_pos];rw[Bool.and_eq_true,decide_eq_true_eq,decide_eq_true_eq];exact⟨by decide,by omega⟩
theorem Gu(hμ:ef μ F){k at' sz b q:Nat}{z:Str}{a9:Option D}(hb:Ω[b]?=some (.lst (bs μ c)))(hm:m<=24)(hk:k < m)(hz:z.length<=8)(pf:z.cps.toList[at']?=some (97 + ((μ c at' 26 + k) % 26).toNat)) :
  ∃ (z':Str) (ao:aD),Nm μ c m at' k z'/\jI F (NV c m k b sz at' q (some (.str z)) a9) Ω=.nx (NV c m k b sz at' q (some (.str z')) a9) ao/\aq [] Ω ao:=by
 obtain⟨w0,w1,hw1⟩:=hμ c 10 4 (by omega) (by omega) (by omega)
 by_cases hj:μ c 10 4=1/\m < 9
 ·have hm9:(m:Int) < 9:=by omega
  have LJ:cQ (bs μ c) none (some ((k:Int) + 1))=(List.range (k + 1)).map fun (i:Nat)=>.int (μ c i 26):=by
   rw[show(k:Int) + 1=((k + 1:Nat):Int) by omega,vW,bs,← List.map_take,List.take_range,Nat.min_eq_left (by omega)]
  have hsl:ey (.ref b) none (some ((k:Int) + 1)) Ω=.ok (.ref Ω.length) (Ω++[.lst ((List.range (k + 1)).map fun (i:Nat)=>.int (μ c i 26))]):=by
   simp only[ey,aM hb,dS,LJ]
  have g1:(Ω++[Cell.lst ((List.range (k + 1)).map fun (i:Nat)=>D.int (μ c i 26))])[Ω.length]?=some (.lst ((List.range (k + 1)).map fun (i:Nat)=>.int (μ c i 26))):=aE
  have K1:aq [] Ω (Ω++[Cell.lst ((List.range (k + 1)).map fun (i:Nat)=>D.int (μ c i 26))]):=aq.app
  generalize Ω++[Cell.lst ((List.range (k + 1)).map fun (i:Nat)=>D.int (μ c i 26))]=ah at *
  have kI:(cK (br (aa 4) true (ae .non) false (m2 (az .Add) (aa 3) (ae (.int 1))))) (NV c m k b sz at' q (some (.str z)) a9) Ω=.ok (.seq (.ref Ω.length)) ah:=by
   have:=cE (x:=.ref Ω.length) (Ω:=ah) (by rw[bg,aM g1])
   simp[hsl,this]
  have hc:=dE (me:=m2 aA (aa 1) (aa 0)) (nc:=true) (mc:=ae .non) (cap:=[2]) (p:=fun _=>true) (g:=fun d=>match d with | .int j=>.str (fS (97 + j.toNat)) | _=>.non) kI (by rw[eI,bg,aM g1]) (fun d hd=>rfl) (fun d hd _=>by
   obtain⟨i,hi,rfl⟩:=List.mem_map.mp hd;have hi0:i < k + 1:=by simpa using hi
   have hi':i < 8:=by omega
   obtain⟨q0,q1,_⟩:=hμ c i 26 (by omega) (by omega) (by omega)
   have hab:=rM q0 q1;simp[dR,hab]) (by simp;omega)
  rw[List.filter_eq_self.mpr (by simp),List.map_map]at hc
  have hmm:((List.range (k + 1)).map ((fun d:D=>match d with | .int j=>D.str (fS (97 + j.toNat)) | _=>.non) ∘ fun (i:Nat)=>D.int (μ c i 26)))=((List.range (k + 1)).map fun i=>fS (97 + (μ c (i:Nat) 26).toNat)).map .str:=by
   rw[List.map_map];rfl
  rw[hmm]at hc;obtain⟨S,hS,hjn⟩:=join_ones (fun i=>97 + (μ c (i:Nat) 26).toNat) k (by omega)
  have g2:(ah++[Cell.lst (((List.range (k + 1)).map fun i=>fS (97 + (μ c (i:Nat) 26).toNat)).map .str)])[ah.length]?=some (.lst (((List.range (k + 1)).map fun i=>fS (97 + (μ c (i:Nat) 26).toNat)).map .str)):=aE
  have K2:aq [] ah (ah++[Cell.lst (((List.range (k + 1)).map fun i=>fS (97 + (μ c (i:Nat) 26).toNat)).map .str)]):=aq.app
  generalize ((List.range (k + 1)).map fun i=>fS (97 + (μ c (i:Nat) 26).toNat))=ys at *
  generalize ah++[Cell.lst (ys.map .str)]=ay at *;have hr:=dB (n:=7) g2;have hc':jC (NV c m k b sz at' q (some (.str z)) a9) Ω=.ok (.ref ah.length) ay:=hc;refine⟨S,ay,⟨by omega,by rw[if_pos hj];exact hS⟩,?_,K1.trans K2⟩
  have ra:(aw 8 (bP wj ki (ae (.str "")) (U jC ag))) (NV c m k b sz at' q (some (.str z)) a9) Ω=.nx (NV c m k b sz at' q (some (.str S)) a9) ay:=by
   rw[cB,dI (x:=.str "") (ao:=Ω) rfl rfl,c8,hc'];simp only[aO,jv,ki,jy,ni,hr,iz,hjn,zM];rfl
  have rt:(cJ (m2 (ax .Eq) (mN (aV F) (U (aa 0) (U (ae (.int 10)) (U (ae (.int 4)) ag)))) (ae (.int 1))) (m2 (ax .Lt) (aa 1) (ae (.int 9)))) (NV c m k b sz at' q (some (.str z)) a9) Ω=.ok (.bl true) Ω:=by
   simp[hw1,hj.1,hm9]
  unfold jI;rw[fB,rt];simp only[r_,dm,rZ,gM,if_true,ak,ra,aI,o3]
 ·refine⟨z,Ω,⟨hz,by rw[if_neg hj];exact pf⟩,?_,aq.refl⟩
  by_cases h1:μ c 10 4=1
  ·have hm9:¬ (m:Int) < 9:=fun h=>hj ⟨h1,by omega⟩
   simp[jI,hw1,h1,hm9]
  ·have hb:(μ c 10 4 == 1)=false:=by simpa using h1
   simp[jI,hw1,hb]
theorem z6(hμ:ef μ F){k at' sz b q:Nat}{ws:List Str}{a8 a9:Option D}(hb:Ω[b]?=some (.lst (bs μ c)))(hq:Ω[q]?=some (.lst (ws.map .str)))(hm:m<=24)(hk:k < m)(hsz:sz<=8)(hat:at' < sz)(hw:ws.length<=900) :
  ∃ (z:Str) (LK nO:Option D) (ao:aD),Nm μ c m at' k z/\pe F (NV c m k b sz at' q a8 a9) Ω=.nx (NV c m k b sz at' q LK nO) ao/\ao[q]?=some (.lst ((ws++[z]).map .str))/\aq [q] Ω ao:=by
 obtain⟨z,nO,hz,pf,e⟩:=xq (m:=m) (q:=q) (a9:=a9) hμ hb (k:=k) (by omega) hsz hat
 obtain⟨z',ah,hn,e1,K1⟩:=Gu (sz:=sz) (q:=q) (a9:=nO) hμ hb hm hk (by omega) pf
 have hin:gx (sz:Int)=true:=dj (by omega) (by omega)
 have q1:=K1.get _ _ hq (by simp)
 have hap:=dh (d:=.str z') q1 (by simp;omega)
 have hL:=dq q1;refine⟨z',some (.str z'),nO,ah.set q (.lst (ws.map .str++[.str z'])),hn,?_,by rw[cR q1];simp,(kG.up K1).trans (aq.set (by simp))⟩
 have r1:(aw 8 (ae (.str ""))) (NV c m k b sz at' q a8 a9) Ω=.nx (NV c m k b sz at' q (some (.str "")) a9) Ω:=rfl
 have r2:(c_ (bY 9) (bz (U (aa 5) ag)) xo) (NV c m k b sz at' q (some (.str "")) a9) Ω=.nx (NV c m k b sz at' q (some (.str z)) nO) Ω:=by
  rw[fD];have:bz (U (aa 5) ag) (NV c m k b sz at' q (some (.str "")) a9) Ω=.ok (.ints 0 sz) Ω:=by simp[hin]
  rw[this,gM,e]
 have r4:(eh (bP fL bB (aa 7) (U (aa 8) ag))) (NV c m k b sz at' q (some (.str z')) nO) ah=.nx (NV c m k b sz at' q (some (.str z')) nO) (ah.set q (.lst (ws.map .str++[.str z']))):=by
  rw[fA,dI (x:=.ref q) (ao:=ah) (by simp) hL]
  simp[hap]
 unfold pe;rw[ak,r1,aI,ak,r2,aI,ak,e1,aI,ak,r4];rfl
def Gv(N:bb):Prop:=∀ (Ω:aD) (c:Int) (m:Nat),2<=m->m<=24->∃ (xs:List Str) (q:Nat) (ao:aD),xs.Nodup/\xs.length=m/\N [.int c,.int m] Ω=.ok (.ref q) ao/\ao[q]?=some (.lst (xs.map .str))/\aq [] Ω ao
def Gw(N:bb):Prop:=∀ (Ω:aD) (c:Int) (m:Nat),2<=m->m<=24->∃ (xs:List Str) (q:Nat) (ao:aD),(xs.Nodup/\∀ x∈xs,x≠"")/\xs.length=m/\N [.int c,.int m] Ω=.ok (.ref q) ao/\ao[q]?=some (.lst (xs.map .str))/\aq [] Ω ao
theorem z7{at' k:Nat}{z:Str}(h:Nm μ c m at' k z):z≠"":=by
 rintro rfl;obtain⟨_,h⟩:=h;split at h
 ·exact absurd h (Nat.zero_ne_add_one k)
 ·rw[show(Str.ofString "").cps.toList=[] from rfl]at h
  simp at h
theorem CL(hμ:ef μ F):Gw (bu 11 2 (z5 F)):=by
 intro Ω c m hm2 hm;rw[bF (by rfl)]
 have e0:aS 11 [D.int c,.int m]=[some (.int c),some (.int m),none,none,none,none,none,none,none,none,none]:=rfl;rw[e0];obtain⟨a0,a1,ha⟩:=hμ c 8 8 (by omega) (by omega) (by omega)
 obtain⟨b0,b1,hb⟩:=hμ c 9 (1 + μ c 8 8) (by omega) (by omega) (by omega)
 obtain⟨t0,t1,ht⟩:=hμ c 11 (m:Int) (by omega) (by omega) (by omega)
 obtain⟨sz,hsz⟩:∃ sz:Nat,(sz:Int)=1 + μ c 8 8:=⟨(1 + μ c 8 8).toNat,by omega⟩
 obtain⟨at',hat⟩:∃ at':Nat,(at':Int)=μ c 9 (1 + μ c 8 8):=⟨(μ c 9 (1 + μ c 8 8)).toNat,by omega⟩
 obtain⟨tn,htn⟩:∃ tn:Nat,(tn:Int)=μ c 11 (m:Int):=⟨(μ c 11 (m:Int)).toNat,by omega⟩
 have LM:gx 8=true:=dj (by omega) (by omega)
 have hin:gx (m:Int)=true:=dj (by omega) (by omega)
 have hbs:=dE (Ω:=Ω) (ao:=Ω) (ρ:=[some (.int c),some (.int m),some (.str abc),none,none,none,none,none,none,none,none]) (me:=mN (aV F) (U (aa 1) (U (aa 0) (U (ae (.int 26)) ag)))) (nc:=true) (mc:=ae .non) (mi:=bz (U (ae (.int 8)) ag)) (cap:=[0]) (src:=.ints 0 8) (ds:=intsFrom 0 8) (p:=fun _=>true) (g:=fun d=>match d with | .int j=>.int (μ c j 26) | _=>.non)
  (by simp[LM]) rfl (fun d hd=>rfl) (fun d hd _=>by
   obtain⟨i,hi⟩:=List.mem_iff_getElem?.mp hd;obtain⟨rfl,hlt⟩:=dk hi;obtain⟨_,_,q⟩:=hμ c (0 + (i:Int)) 26 (by omega) (by omega) (by omega)
   generalize (0 + (i:Int))=j at *;simp[dR,q]) (by rw[bS];omega)
 rw[List.filter_eq_self.mpr (by simp),lJ,List.map_map]at hbs
 have hbs:Gs F [some (.int c),some (.int m),some (.str abc),none,none,none,none,none,none,none,none] Ω=.ok (.ref Ω.length) (Ω++[.lst (bs μ c)]):=hbs;have g1:(Ω++[Cell.lst (bs μ c)])[Ω.length]?=some (.lst (bs μ c)):=aE;have K1:aq [] Ω (Ω++[Cell.lst (bs μ c)]):=aq.app;have r1:(aw 2 (ae (.str "abcdefghijklmnopqrstuvwxyz"))) [some (.int c),some (.int m),none,none,none,none,none,none,none,none,none] Ω=.nx [some (.int c),some (.int m),some (.str abc),none,none,none,none,none,none,none,none] Ω:=rfl
 have r2:(aw 4 (Gs F)) [some (.int c),some (.int m),some (.str abc),none,none,none,none,none,none,none,none] Ω=.nx [some (.int c),some (.int m),some (.str abc),none,some (.ref Ω.length),none,none,none,none,none,none] (Ω++[Cell.lst (bs μ c)]):=by
  rw[cB,hbs];rfl
 have Of:=dg g1;generalize Ω++[Cell.lst (bs μ c)]=ah at *
 have r3:(aw 5 (m2 (az .Add) (ae (.int 1)) (mN (aV F) (U (aa 0) (U (ae (.int 8)) (U (ae (.int 8)) ag)))))) [some (.int c),some (.int m),some (.str abc),none,some (.ref Ω.length),none,none,none,none,none,none] ah=.nx [some (.int c),some (.int m),some (.str abc),none,some (.ref Ω.length),some (.int sz),none,none,none,none,none] ah:=by
  rw[hsz];simp[ha]
 have r4:(aw 6 (mN (aV F) (U (aa 0) (U (ae (.int 9)) (U (aa 5) ag))))) [some (.int c),some (.int m),some (.str abc),none,some (.ref Ω.length),some (.int sz),none,none,none,none,none] ah=.nx [some (.int c),some (.int m),some (.str abc),none,some (.ref Ω.length),some (.int sz),some (.int at'),none,none,none,none] ah:=by
  rw[hat,hsz];simp[hb]
 have g2:(ah++[Cell.lst []])[ah.length]?=some (.lst (([]:List Str).map .str)):=aE;have K2:aq [] ah (ah++[Cell.lst []]):=aq.app;have r5:(aw 7 (mN cm ag)) [some (.int c),some (.int m),some (.str abc),none,some (.ref Ω.length),some (.int sz),some (.int at'),none,none,none,none] ah=.nx [some (.int c),some (.int m),some (.str abc),none,some (.ref Ω.length),some (.int sz),some (.int at'),some (.ref ah.length),none,none,none] (ah++[Cell.lst []]):=by simp[bc]
 have Gn:=K2.get _ _ g1 (by simp)
 have Gx:=K1.trans K2;generalize QK:ah++[Cell.lst []]=ay at *
 have hL:∃ (ws:List Str) (a3 a8 a9:Option D) (aP:aD),ws.length=m/\(∀ j z,ws[j]?=some z->Nm μ c m at' j z)/\eH (bY 3) (.ints 0 m) (pe F) fuel 0 [some (.int c),some (.int m),some (.str abc),none,some (.ref Ω.length),some (.int sz),some (.int at'),some (.ref ah.length),none,none,none] ay=.nx [some (.int c),some (.int m),some (.str abc),a3,some (.ref Ω.length),some (.int sz),some (.int at'),some (.ref ah.length),a8,a9,none] aP/\aP[ah.length]?=some (.lst (ws.map .str))/\aq [ah.length] ay aP:=by
  refine dC (R:=fun r=>∃ (ws:List Str) (a3 a8 a9:Option D) (aP:aD),ws.length=m/\(∀ j z,ws[j]?=some z->Nm μ c m at' j z)/\r=.nx [some (.int c),some (.int m),some (.str abc),a3,some (.ref Ω.length),some (.int sz),some (.int at'),some (.ref ah.length),a8,a9,none] aP/\aP[ah.length]?=some (.lst (ws.map .str))/\aq [ah.length] ay aP) (ds:=intsFrom 0 m)
   (fun i ρ aP=>∃ (ws:List Str) (a3 a8 a9:Option D),ws.length=i/\(∀ j z,ws[j]?=some z->Nm μ c m at' j z)/\ρ=[some (.int c),some (.int m),some (.str abc),a3,some (.ref Ω.length),some (.int sz),some (.int at'),some (.ref ah.length),a8,a9,none]/\aP[ah.length]?=some (.lst (ws.map .str))/\aq [ah.length] ay aP) (fun _ _ _ _=>rfl) ?_ ?_ fuel 0 _ _ (by rw[bS];unfold fuel;omega) (Nat.zero_le _) ⟨[],none,none,none,rfl,fun j z h=>by simp at h,rfl,g2,aq.refl⟩
  ·rintro i d ρ aP hd ⟨ws,a3,a8,a9,hw,hnm,rfl,hq,K⟩
   obtain⟨rfl,hlt⟩:=dk hd;rw[show(0:Int) + (i:Int)=(i:Int) by omega]
   refine⟨NV c m i Ω.length sz at' ah.length a8 a9,rfl,?_⟩;obtain⟨z,LK,nO,er,hz,e,hq',K'⟩:=z6 (a8:=a8) (a9:=a9) hμ (K.get _ _ Gn (by simp;omega)) hq hm hlt (show sz<=8 by omega) (show at' < sz by omega) (by omega)
   rw[e];refine⟨ws++[z],some (.int i),LK,nO,by rw[List.length_append,List.length_singleton];omega,fun j y hj => ?_,rfl,hq',K.trans K'⟩
   by_cases hjl:j < ws.length
   ·rw[List.getElem?_append_left hjl]at hj
    exact hnm j y hj
   ·rw[List.getElem?_append_right (by omega)]at hj
    have hj0:j - ws.length=0:=by
     have:=(List.getElem?_eq_some_iff.mp hj).1;simp at this;omega
    rw[hj0]at hj;have hy:z=y:=by simpa using hj
    subst hy;obtain rfl:j=i:=by omega
    exact hz
  ·rintro ρ aP ⟨ws,a3,a8,a9,hw,hnm,rfl,hq,K⟩
   rw[bS]at hw;exact⟨ws,a3,a8,a9,aP,hw,hnm,rfl,hq,K⟩
 obtain⟨ws,a3,a8,a9,aP,hw,hnm,eL,hq,K3⟩:=hL
 have hnd:ws.Nodup:=by
  refine List.pairwise_iff_getElem.mpr fun i j hi hj hij heq => ?_
  have:=Fo (m:=m) (by omega) (by omega) hm (hnm i _ (List.getElem?_eq_getElem hi)) (hnm j _ (List.getElem?_eq_getElem hj)) heq
  omega
 have hperm:(ws.drop tn++ws.take tn).Perm ws:=by
  have:=(List.perm_append_comm (l₁:=ws.drop tn) (l₂:=ws.take tn));rwa[List.take_append_drop]at this
 have r6:(c_ (bY 3) (bz (U (aa 1) ag)) (pe F)) [some (.int c),some (.int m),some (.str abc),none,some (.ref Ω.length),some (.int sz),some (.int at'),some (.ref ah.length),none,none,none] ay=.nx [some (.int c),some (.int m),some (.str abc),a3,some (.ref Ω.length),some (.int sz),some (.int at'),some (.ref ah.length),a8,a9,none] aP:=by
  rw[fD];have:bz (U (aa 1) ag) [some (.int c),some (.int m),some (.str abc),none,some (.ref Ω.length),some (.int sz),some (.int at'),some (.ref ah.length),none,none,none] ay=.ok (.ints 0 m) ay:=by simp[hin]
  rw[this,gM,eL]
 have r7:(aw 10 (mN (aV F) (U (aa 0) (U (ae (.int 11)) (U (aa 1) ag))))) [some (.int c),some (.int m),some (.str abc),a3,some (.ref Ω.length),some (.int sz),some (.int at'),some (.ref ah.length),a8,a9,none] aP=.nx [some (.int c),some (.int m),some (.str abc),a3,some (.ref Ω.length),some (.int sz),some (.int at'),some (.ref ah.length),a8,a9,some (.int tn)] aP:=by
  rw[htn];simp[ht]
 have s1:=Cz (i:=tn) hq;have g3:(aP++[Cell.lst ((ws.drop tn).map .str)])[aP.length]?=some (.lst ((ws.drop tn).map .str)):=aE;have K4:aq [] aP (aP++[Cell.lst ((ws.drop tn).map .str)]):=aq.app;have QL:=K4.get _ _ hq (by simp)
 generalize aP++[Cell.lst ((ws.drop tn).map .str)]=er at *;have s2:=nB (n:=tn) QL;have g4:(er++[Cell.lst ((ws.take tn).map .str)])[er.length]?=some (.lst ((ws.take tn).map .str)):=aE;have K5:aq [] er (er++[Cell.lst ((ws.take tn).map .str)]):=aq.app;have QM:=K5.get _ _ g3 (by simp)
 generalize er++[Cell.lst ((ws.take tn).map .str)]=lT at *;have hsm:small (((ws.drop tn).map D.str).length + ((ws.take tn).map D.str).length)=true:=bc (by simp;omega)
 refine⟨ws.drop tn++ws.take tn,lT.length,lT++[.lst ((ws.drop tn).map .str++(ws.take tn).map .str)],⟨hperm.nodup_iff.mpr hnd,fun x hx=>by
  obtain⟨j,hj⟩:=List.mem_iff_getElem?.mp (hperm.mem_iff.mp hx);exact z7 (hnm j x hj)⟩,by rw[hperm.length_eq];exact hw,?_,by rw[List.map_append];exact aE,aq.new Gx (K3.trans (kG.up ((K4.trans K5).trans aq.app))) (by simpa using K1.len)⟩
 unfold z5;rw[ak,r1,aI,ak,r2,aI,ak,r3,aI,ak,r4,aI,ak,r5,aI,ak,r6,aI,ak,r7,aI]
 have rr:(m2 (az .Add) (br (aa 7) false (aa 10) true (ae .non)) (br (aa 7) true (ae .non) false (aa 10))) [some (.int c),some (.int m),some (.str abc),a3,some (.ref Ω.length),some (.int sz),some (.int at'),some (.ref ah.length),a8,a9,some (.int tn)] aP=.ok (.ref lT.length) (lT++[.lst ((ws.drop tn).map .str++(ws.take tn).map .str)]):=by
  simp only[cF,wZ,m_,List.getElem?_cons_zero,List.getElem?_cons_succ,m9,aO,zS,zR,zT,s1,s2,oZ,sr,aM QM,aM g4,sm];rw[if_pos hsm];rfl
 rw[ak,dn,rr];rfl
theorem Gy(hμ:ef μ F):Gv (bu 11 2 (z5 F)):=fun Ω c m h1 h2=>by
 obtain⟨xs,q,ao,h,r⟩:=CL hμ Ω c m h1 h2;exact⟨xs,q,ao,h.1,r⟩
end
section
variable{Ω ao:aD}{ρ:aU}{F C:List D->Out Rs}{μ:Int->Int->Int->Int}{κ:List Int->Nat->Int}{c:Int}{m:Nat}
def Jr(F:List D->Out Rs):EM:=(mN (aV F) (U (aa 0) (U (m2 (az .Add) (aa 1) (aa 5)) (U (mN (aW .len) (U (aa 3) ag)) ag))))
def xr(F:List D->Out Rs):SM:=(aj (eh (bP fL bB (aa 4) (U (bP fL gh (aa 3) (U (Jr F) ag)) ag))) ai)
def CM(F:List D->Out Rs):SM:=
 (aj (aw 3 (mN (aW .list) (U (aa 2) ag)))
 (aj (aw 4 (mN cm ag))
 (aj (c_ (bY 5) (bz (U (mN (aW .len) (U (aa 2) ag)) ag)) (xr F))
 (aj (aQ (aa 4))
 ai))))
theorem uj{k n:Nat}{ds:List D}{d:D}{i:Int}(h:Ω[k]?=some (.lst ds))(hi:L2.pN ds.length i=some n)(hd:ds[n]?=some d)(LN:gx i=true):gh (.ref k) [.int i] Ω=.ok d (Ω.set k (.lst (ds.eraseIdx n))):=by
 simp only[gh,nu h,LN,if_true,hi,hd]
theorem CN(hμ:ef μ F){t:Int}{x p f i:Nat}{ps fs:List Str}(hp:Ω[p]?=some (.lst (ps.map .str)))(hf:Ω[f]?=some (.lst (fs.map .str)))(hpf:p≠f)(ht:0<=t)(ht':t < 1000)(hi:i < 1000)(hl:0 < ps.length)(hl':ps.length<=900)(hfl:fs.length<=900) :
  ∃ (q:Nat) (hq:q < ps.length) (ao:aD),xr F [some (.int c),some (.int t),some (.ref x),some (.ref p),some (.ref f),some (.int i)] Ω=.nx [some (.int c),some (.int t),some (.ref x),some (.ref p),some (.ref f),some (.int i)] ao/\ao[p]?=some (.lst ((ps.eraseIdx q).map .str))/\ao[f]?=some (.lst ((fs++[ps[q]]).map .str))/\aq [p,f] Ω ao:=by
 obtain⟨m0,m1,hm⟩:=hμ c (t + (i:Int)) (ps.length:Int) (by omega) (by omega) (by omega)
 generalize μ c (t + (i:Int)) (ps.length:Int)=q at *;have hq:q.toNat < ps.length:=by omega
 have hix:L2.pN (ps.map D.str).length q=some q.toNat:=by
  unfold L2.pN;rw[if_pos m0,if_pos (by simpa using m1)]
 have LN:gx q=true:=dj (by omega) (by omega)
 have hd:(ps.map D.str)[q.toNat]?=some (.str ps[q.toNat]):=by simp[hq]
 have Gz:=uj hp hix hd LN;rw[lK]at Gz;have hlen:=cP hp;rw[List.length_map]at hlen
 have e1:Jr F [some (.int c),some (.int t),some (.ref x),some (.ref p),some (.ref f),some (.int i)] Ω=.ok (.int q) Ω:=by
  simp[Jr,hlen,hm]
 have K1:aq [p,f] Ω (Ω.set p (.lst ((ps.eraseIdx q.toNat).map .str))):=aq.set (by simp)
 have p1:(Ω.set p (.lst ((ps.eraseIdx q.toNat).map .str)))[p]?=some (.lst ((ps.eraseIdx q.toNat).map .str)):=cR hp;have f1:(Ω.set p (.lst ((ps.eraseIdx q.toNat).map .str)))[f]?=some (.lst (fs.map .str)):=gX hf (Ne.symm hpf)
 have e2:(bP fL gh (aa 3) (U (Jr F) ag)) [some (.int c),some (.int t),some (.ref x),some (.ref p),some (.ref f),some (.int i)] Ω=.ok (.str ps[q.toNat]) (Ω.set p (.lst ((ps.eraseIdx q.toNat).map .str))):=by
  rw[dI (x:=.ref p) (ao:=Ω) (by simp) (dq hp),c8,e1]
  exact Gz
 generalize Ω.set p (.lst ((ps.eraseIdx q.toNat).map .str))=ah at *;have hap:=dh (d:=.str ps[q.toNat]) f1 (by simp;omega)
 refine⟨q.toNat,hq,ah.set f (.lst (fs.map .str++[.str ps[q.toNat]])),?_,gX p1 hpf,by rw[cR f1];simp,K1.trans (aq.set (by simp))⟩
 unfold xr;rw[ak,fA,dI (x:=.ref f) (ao:=Ω) (by simp) (dq hf),c8,e2]
 simp only[aO,jv,hap,gM,aI,o3]
def uk(S:bb):Prop:=∀ (Ω:aD) (c t:Int) (x:Nat) (xs:List Str),0<=t->t < 1000->xs.length<=900->Ω[x]?=some (.lst (xs.map .str))->∃ (ys:List Str) (q:Nat) (ao:aD),ys.Perm xs/\S [.int c,.int t,.ref x] Ω=.ok (.ref q) ao/\ao[q]?=some (.lst (ys.map .str))/\aq [] Ω ao
theorem GA(hμ:ef μ F):uk (bu 6 3 (CM F)):=by
 intro Ω c t x xs ht ht' hx hX;rw[bF (by rfl)]
 have e0:aS 6 [D.int c,.int t,.ref x]=[some (.int c),some (.int t),some (.ref x),none,none,none]:=rfl;rw[e0];have hl:=iQ hX;have g1:(Ω++[Cell.lst (xs.map .str)])[Ω.length]?=some (.lst (xs.map .str)):=aE;have K1:aq [] Ω (Ω++[Cell.lst (xs.map .str)]):=aq.app;have QN:=K1.get _ _ hX (by simp)
 have r1:(aw 3 (mN (aW .list) (U (aa 2) ag))) [some (.int c),some (.int t),some (.ref x),none,none,none] Ω=.nx [some (.int c),some (.int t),some (.ref x),some (.ref Ω.length),none,none] (Ω++[Cell.lst (xs.map .str)]):=by simp[hl]
 have xl:=dg hX;generalize Ω++[Cell.lst (xs.map .str)]=ah at *;have g2:(ah++[Cell.lst []])[ah.length]?=some (.lst (([]:List Str).map .str)):=aE;have K2:aq [] ah (ah++[Cell.lst []]):=aq.app;have r2:(aw 4 (mN cm ag)) [some (.int c),some (.int t),some (.ref x),some (.ref Ω.length),none,none] ah=.nx [some (.int c),some (.int t),some (.ref x),some (.ref Ω.length),some (.ref ah.length),none] (ah++[Cell.lst []]):=by simp[bc]
 have Gn:=K2.get _ _ g1 (by simp)
 have hX2:=K2.get _ _ QN (by simp)
 have pl:=dg g1;generalize ah++[Cell.lst []]=ay at *;have hlen:=cP hX2;rw[List.length_map]at hlen;have hin:gx (xs.length:Int)=true:=dj (by omega) (by omega)
 have hL:∃ (fs:List Str) (a5:Option D) (aP:aD),fs.Perm xs/\eH (bY 5) (.ints 0 xs.length) (xr F) fuel 0 [some (.int c),some (.int t),some (.ref x),some (.ref Ω.length),some (.ref ah.length),none] ay=.nx [some (.int c),some (.int t),some (.ref x),some (.ref Ω.length),some (.ref ah.length),a5] aP/\aP[ah.length]?=some (.lst (fs.map .str))/\aq [Ω.length,ah.length] ay aP:=by
  refine dC (R:=fun r=>∃ (fs:List Str) (a5:Option D) (aP:aD),fs.Perm xs/\r=.nx [some (.int c),some (.int t),some (.ref x),some (.ref Ω.length),some (.ref ah.length),a5] aP/\aP[ah.length]?=some (.lst (fs.map .str))/\aq [Ω.length,ah.length] ay aP) (ds:=intsFrom 0 xs.length)
   (fun i ρ aP=>∃ (ps fs:List Str) (a5:Option D),(fs++ps).Perm xs/\fs.length=i/\ρ=[some (.int c),some (.int t),some (.ref x),some (.ref Ω.length),some (.ref ah.length),a5]/\aP[Ω.length]?=some (.lst (ps.map .str))/\aP[ah.length]?=some (.lst (fs.map .str))/\aq [Ω.length,ah.length] ay aP) (fun _ _ _ _=>rfl) ?_ ?_ fuel 0 _ _ (by rw[bS];unfold fuel;omega) (Nat.zero_le _) ⟨xs,[],none,by simp,rfl,rfl,Gn,g2,aq.refl⟩
  ·rintro i d ρ aP hd ⟨ps,fs,a5,hp,hfl,rfl,h1,h2,K⟩
   obtain⟨rfl,hlt⟩:=dk hd;rw[show(0:Int) + (i:Int)=(i:Int) by omega]
   have hpl:fs.length + ps.length=xs.length:=by have:=hp.length_eq;rwa[List.length_append]at this
   refine⟨[some (.int c),some (.int t),some (.ref x),some (.ref Ω.length),some (.ref ah.length),some (.int i)],rfl,?_⟩;obtain⟨q,hq,er,e,h3,h4,K'⟩:=CN (c:=c) (x:=x) hμ h1 h2 (by omega) ht ht' (show i < 1000 by omega) (by omega) (by omega) (by omega)
   rw[e];refine⟨ps.eraseIdx q,fs++[ps[q]],some (.int i),?_,by rw[List.length_append,List.length_singleton];omega,rfl,h3,h4,K.trans K'⟩
   refine List.Perm.trans ?_ hp;rw[List.append_assoc];exact List.Perm.append_left fs (j7 ps q hq)
  ·rintro ρ aP ⟨ps,fs,a5,hp,hfl,rfl,h1,h2,K⟩
   rw[bS]at hfl
   have hps:ps=[]:=by
    have:=hp.length_eq;rw[List.length_append]at this;exact List.eq_nil_of_length_eq_zero (by omega)
   subst hps;exact⟨fs,a5,aP,by simpa using hp,rfl,h2,K⟩
 obtain⟨fs,a5,aP,hp,eL,h2,K3⟩:=hL;refine⟨fs,ah.length,aP,hp,?_,h2,aq.new (K1.trans K2) K3 (by simp;omega)⟩
 have r3:(c_ (bY 5) (bz (U (mN (aW .len) (U (aa 2) ag)) ag)) (xr F)) [some (.int c),some (.int t),some (.ref x),some (.ref Ω.length),some (.ref ah.length),none] ay=.nx [some (.int c),some (.int t),some (.ref x),some (.ref Ω.length),some (.ref ah.length),a5] aP:=by
  rw[fD];have:bz (U (mN (aW .len) (U (aa 2) ag)) ag) [some (.int c),some (.int t),some (.ref x),some (.ref Ω.length),some (.ref ah.length),none] ay=.ok (.ints 0 xs.length) ay:=by simp[hlen,hin]
  rw[this,gM,eL]
 unfold CM;rw[ak,r1,aI,ak,r2,aI,ak,r3];rfl
def Oy:EM:=(m2 aA (aa 2) (aa 0))
def LO(F:List D->Out Rs):EM:=(m2 (ax .Lt) (mN (aV F) (U (aa 1) (U (m2 (az .Add) (ae (.int 1)) (aa 0)) (U (ae (.int 4)) ag)))) (aa 3))
def LP:IM:=(bz (U (mN (aW .len) (U (aa 1) ag)) ag))
def CO(F:List D->Out Rs):SM:=
 (aj (aw 2 (m2 (az .Add) (ae (.int 1)) (mN (aV F) (U (aa 0) (U (ae (.int 0)) (U (ae (.int 4)) ag))))))
 (aj (aQ (cp Oy false (LO F) LP 0 [0,1,2]))
 ai))
def GB(P:bb):Prop:=∀ (Ω:aD) (c:Int) (x:Nat) (xs:List Str),xs.length<=900->Ω[x]?=some (.lst (xs.map .str))->∃ ys:List Str,ys.Sublist xs/\P [.int c,.ref x] Ω=.ok (.ref Ω.length) (Ω++[.lst (ys.map .str)])
theorem GC(hμ:ef μ F):GB (bu 3 2 (CO F)):=by
 intro Ω c x xs hx hX;rw[bF (by rfl)]
 have e0:aS 3 [D.int c,.ref x]=[some (.int c),some (.ref x),none]:=rfl;rw[e0];obtain⟨a0,a1,ha⟩:=hμ c 0 4 (by omega) (by omega) (by omega)
 have hin:gx (xs.length:Int)=true:=dj (by omega) (by omega)
 have hlen:=cP hX;rw[List.length_map]at hlen
 have hc:=dE (Ω:=Ω) (ao:=Ω) (ρ:=[some (.int c),some (.ref x),some (.int (1 + μ c 0 4))]) (me:=Oy) (nc:=false) (mc:=LO F) (mi:=LP) (cap:=[0,1,2]) (src:=.ints 0 xs.length) (ds:=intsFrom 0 xs.length)
  (p:=fun d=>match d with | .int j=>decide (μ c (1 + j) 4 < 1 + μ c 0 4) | _=>false) (g:=fun d=>match d with | .int j=>.str (xs.getD j.toNat "") | _=>.non)
  (by simp[LP,hlen,hin]) rfl (fun d hd=>by
   obtain⟨i,hi⟩:=List.mem_iff_getElem?.mp hd;obtain⟨rfl,hlt⟩:=dk hi;obtain⟨_,_,q⟩:=hμ c (1 + (0 + (i:Int))) 4 (by omega) (by omega) (by omega)
   generalize (0 + (i:Int))=j at *;simp[iN,LO,dR,q]) (fun d hd _=>by
   obtain⟨i,hi⟩:=List.mem_iff_getElem?.mp hd;obtain⟨rfl,hlt⟩:=dk hi;rw[show(0:Int) + (i:Int)=(i:Int) by omega]
   have e:L2.iD (xs.map D.str) (i:Int)=some (.str (xs.getD i "")):=L2.bf (by simp[hlt])
   exact bq hX e) (by rw[bS];omega)
 refine⟨((List.range xs.length).filter fun (i:Nat)=>decide (μ c (1 + (i:Int)) 4 < 1 + μ c 0 4)).map fun i=>xs.getD i "",tS xs "" _,?_⟩
 rw[lJ,List.filter_map,List.map_map]at hc;have e1:(aw 2 (m2 (az .Add) (ae (.int 1)) (mN (aV F) (U (aa 0) (U (ae (.int 0)) (U (ae (.int 4)) ag)))))) [some (.int c),some (.ref x),none] Ω=.nx [some (.int c),some (.ref x),some (.int (1 + μ c 0 4))] Ω:=by simp[ha]
 unfold CO;rw[ak,e1,aI,ak,dn,hc];simp only[gM,F4,zP,List.map_map];rfl
def LQ(F C:List D->Out Rs)(S N:bb):SM:=
 (aj (aQ (mN (aN S) (U (mN (aV C) (U (aa 0) (U (ae (.int 2)) ag))) (U (ae (.int 0)) (U (mN (aN N) (U (mN (aV C) (U (aa 0) (U (ae (.int 1)) ag))) (U (aa 2) ag))) ag)))))
 ai)
def xu(F C:List D->Out Rs)(S N:bb):SM:=
 (aj (aw 1 (mN (aV C) (U (aa 0) (U (ae (.int 0)) ag))))
 (aj (aw 2 (m2 (az .Add) (ae (.int 2)) (mN (aV F) (U (aa 1) (U (ae (.int 0)) (U (ae (.int 7)) ag))))))
 (aj (cW (m2 (ax .Eq) (mN (aV F) (U (aa 1) (U (ae (.int 1)) (U (ae (.int 12)) ag)))) (ae (.int 5)))
 (aj (aw 2 (ae (.int 24)))
 ai)
 ai)
 (LQ F C S N))))
def GD(O:bb):Prop:=∀ (Ω:aD) ns,∃ (xs:List Str) (q:Nat) (ao:aD),xs.Nodup/\2<=xs.length/\xs.length<=24/\O [SC ns] Ω=.ok (.ref q) ao/\ao[q]?=some (.lst (xs.map .str))/\aq [] Ω ao
theorem CP{S N:bb}{P:List Str->Prop}(hP:∀ xs ys:List Str,ys.Perm xs->P xs->P ys)(hμ:ef μ F)(nN:j6 κ C)(hS:uk S)(hN:∀ (Ω:aD) (c:Int) (m:Nat),2<=m->m<=24->∃ (xs:List Str) (q:Nat) (ao:aD),P xs/\xs.length=m/\N [.int c,.int m] Ω=.ok (.ref q) ao/\ao[q]?=some (.lst (xs.map .str))/\aq [] Ω ao) :
  ∀ (Ω:aD) ns,∃ (xs:List Str) (q:Nat) (ao:aD),P xs/\2<=xs.length/\xs.length<=24/\(bu 3 1 (xu F C S N)) [SC ns] Ω=.ok (.ref q) ao/\ao[q]?=some (.lst (xs.map .str))/\aq [] Ω ao:=by
 intro Ω ns;rw[bF (by rfl)]
 have e0:aS 3 [SC ns]=[some (SC ns),none,none]:=rfl;rw[e0];obtain⟨a0,a1,ha⟩:=hμ (κ ns 0) 0 7 (by omega) (by omega) (by omega)
 obtain⟨b0,b1,hb⟩:=hμ (κ ns 0) 1 12 (by omega) (by omega) (by omega)
 have k0:C [SC ns,.int 0]=.ok (false,.int (κ ns 0)):=nN ns 0;have k1:C [SC ns,.int 1]=.ok (false,.int (κ ns 1)):=nN ns 1;have k2:C [SC ns,.int 2]=.ok (false,.int (κ ns 2)):=nN ns 2
 have main:∀ m:Nat,2<=m->m<=24->∃ (xs:List Str) (q:Nat) (ao:aD),P xs/\2<=xs.length/\xs.length<=24/\fy (LQ F C S N [some (SC ns),some (.int (κ ns 0)),some (.int m)] Ω)=.ok (.ref q) ao/\ao[q]?=some (.lst (xs.map .str))/\aq [] Ω ao:=by
  intro m h2 LS;obtain⟨xs,q,ah,x1,x2,x3,x4,K1⟩:=hN Ω (κ ns 1) m h2 LS;obtain⟨ys,q',ay,y1,y2,y3,K2⟩:=hS ah (κ ns 2) 0 q xs (by omega) (by omega) (by omega) x4
  refine⟨ys,q',ay,hP _ _ y1 x1,by rw[y1.length_eq];omega,by rw[y1.length_eq];omega,?_,y3,K1.trans K2⟩
  simp[LQ,k1,k2,x3,y2]
 have r1:(aw 1 (mN (aV C) (U (aa 0) (U (ae (.int 0)) ag)))) [some (SC ns),none,none] Ω=.nx [some (SC ns),some (.int (κ ns 0)),none] Ω:=by simp[k0]
 have r2:(aw 2 (m2 (az .Add) (ae (.int 2)) (mN (aV F) (U (aa 1) (U (ae (.int 0)) (U (ae (.int 7)) ag)))))) [some (SC ns),some (.int (κ ns 0)),none] Ω=.nx [some (SC ns),some (.int (κ ns 0)),some (.int (2 + μ (κ ns 0) 0 7))] Ω:=by simp[ha]
 by_cases h5:μ (κ ns 0) 1 12=5
 ·obtain⟨xs,q,ao,x1,x2,x3,x4,x5⟩:=main 24 (by omega) (by omega)
  refine⟨xs,q,ao,x1,x2,x3,?_,x5⟩;rw[← x4];have r3:(cW (m2 (ax .Eq) (mN (aV F) (U (aa 1) (U (ae (.int 1)) (U (ae (.int 12)) ag)))) (ae (.int 5))) (aj (aw 2 (ae (.int 24))) ai) ai) [some (SC ns),some (.int (κ ns 0)),some (.int (2 + μ (κ ns 0) 0 7))] Ω=.nx [some (SC ns),some (.int (κ ns 0)),some (.int 24)] Ω:=by simp[hb,h5]
  unfold xu;rw[ak,r1,aI,ak,r2,aI,ak,r3,aI];rfl
 ·obtain⟨xs,q,ao,x1,x2,x3,x4,x5⟩:=main (2 + μ (κ ns 0) 0 7).toNat (by omega) (by omega)
  refine⟨xs,q,ao,x1,x2,x3,?_,x5⟩;rw[show(((2 + μ (κ ns 0) 0 7).toNat:Nat):Int)=2 + μ (κ ns 0) 0 7 by omega]at x4
  rw[← x4];have QO:(μ (κ ns 0) 1 12 == 5)=false:=by simpa using h5
  have r3:(cW (m2 (ax .Eq) (mN (aV F) (U (aa 1) (U (ae (.int 1)) (U (ae (.int 12)) ag)))) (ae (.int 5))) (aj (aw 2 (ae (.int 24))) ai) ai) [some (SC ns),some (.int (κ ns 0)),some (.int (2 + μ (κ ns 0) 0 7))] Ω=.nx [some (SC ns),some (.int (κ ns 0)),some (.int (2 + μ (κ ns 0) 0 7))] Ω:=by simp[hb,QO]
  unfold xu;rw[ak,r1,aI,ak,r2,aI,ak,r3,aI]
theorem GF{S N:bb}(hμ:ef μ F)(nN:j6 κ C)(hS:uk S)(hN:Gv N):GD (bu 3 1 (xu F C S N)):=CP (P:=List.Nodup) (fun _ _ h=>h.nodup_iff.mpr) hμ nN hS hN
def LU(C:List D->Out Rs)(P:bb):EM:=(mN (aN P) (U (mN (aV C) (U (aa 2) (U (m2 (az .Add) (ae (.int 3)) (aa 0)) ag))) (U (aa 1) ag)))
def LV(C:List D->Out Rs)(P:bb):SM:=
 (aj (aQ (cp (LU C P) true (ae .non) (bz (U (mN (aW .min) (U (aa 4) (U (aa 2) ag))) ag)) 0 [1,0]))
 ai)
def CQ(F C:List D->Out Rs)(P:bb):SM:=
 (aj (aw 3 (mN (aV C) (U (aa 0) (U (ae (.int 0)) ag))))
 (aj (aw 4 (m2 (az .Add) (ae (.int 1)) (mN (aV F) (U (aa 3) (U (ae (.int 2)) (U (ae (.int 6)) ag))))))
 (aj (cW (cJ (m2 (ax .Eq) (mN (aV F) (U (aa 3) (U (ae (.int 3)) (U (ae (.int 8)) ag)))) (ae (.int 3))) (m2 (ax .Lt) (mN (aW .len) (U (aa 1) ag)) (ae (.int 9))))
 (aj (aw 4 (ae (.int 12)))
 ai)
 ai)
 (LV C P))))
def GG(W:bb):Prop:=∀ (Ω:aD) ns (x:Nat) (xs:List Str) (m:Nat),m<=12->xs.length<=24->Ω[x]?=some (.lst (xs.map .str))->∃ (rs:List (List Str)) (k:Nat) (js:List Nat) (ao:aD),(∀ r∈rs,r.Sublist xs)/\rs.length<=m/\W [SC ns,.ref x,.int m] Ω=.ok (.ref k) ao/\Rw ao k js rs/\aq [] Ω ao
theorem LW{j m:Int}(h0:0<=j)(hm:0<=m):∃ r:Int,aW .min [.int j,.int m] Ω=.ok (.int r) Ω/\0<=r/\r<=m:=by
 refine⟨if m < j then m else j,?_,?_,?_⟩
 ·show kd .min [.int j,.int m] Ω=_
  unfold kd;rw[jx];simp
 ·split<;>omega
 ·split<;>omega
theorem GH{P:bb}(hμ:ef μ F)(nN:j6 κ C)(hP:GB P):GG (bu 5 3 (CQ F C P)):=by
 intro Ω ns x xs mm hmm hx hX;rw[bF (by rfl)]
 have e0:aS 5 [SC ns,.ref x,.int mm]=[some (SC ns),some (.ref x),some (.int mm),none,none]:=rfl;rw[e0];obtain⟨a0,a1,ha⟩:=hμ (κ ns 0) 2 6 (by omega) (by omega) (by omega)
 obtain⟨b0,b1,hb⟩:=hμ (κ ns 0) 3 8 (by omega) (by omega) (by omega)
 have k0:C [SC ns,.int 0]=.ok (false,.int (κ ns 0)):=nN ns 0;have hlen:=cP hX;rw[List.length_map]at hlen
 have main:∀ n:Int,0<=n->n<=12->∃ (rs:List (List Str)) (k:Nat) (js:List Nat) (ao:aD),(∀ r∈rs,r.Sublist xs)/\rs.length<=mm/\fy (LV C P [some (SC ns),some (.ref x),some (.int mm),some (.int (κ ns 0)),some (.int n)] Ω)=.ok (.ref k) ao/\Rw ao k js rs/\aq [] Ω ao:=by
  intro n h0 h12;obtain⟨n',hm,hn0,hnm⟩:=LW (Ω:=Ω) (m:=(mm:Int)) h0 (by omega)
  have hin:gx n'=true:=dj (by omega) (by omega)
  have kI:(bz (U (mN (aW .min) (U (aa 4) (U (aa 2) ag))) ag)) [some (SC ns),some (.ref x),some (.int mm),some (.int (κ ns 0)),some (.int n)] Ω=.ok (.ints 0 n'.toNat) Ω:=by simp[hm,hin]
  obtain⟨ys,ay,e,js,rs,rfl,h1,h2,h3,K⟩:=sG (me:=LU C P) (mc:=ae .non) (cap:=[1,0]) (ds:=intsFrom 0 n'.toNat) (fun i acc ay=>∃ js rs,acc=js.map .ref/\lR ay js rs/\rs.length=i/\(∀ r∈rs,r.Sublist xs)/\aq [] Ω ay) kI ⟨[],[],rfl,.nil,rfl,by simp,aq.refl⟩
   (fun _ _ _ _=>rfl) (fun i d acc ay hd h=>by
    obtain⟨js,rs,rfl,h1,h2,h3,K⟩:=h;obtain⟨rfl,hlt⟩:=dk hd;have kk:C [SC ns,.int (3 + (i:Int))]=.ok (false,.int (κ ns (3 + i))):=by have:=nN ns (3 + i);rwa[show((3 + i:Nat):Int)=3 + (i:Int) by omega]at this
    obtain⟨ys,hy,e⟩:=hP ay (κ ns (3 + i)) x xs (by omega) (K.get _ _ hX (by simp))
    rw[show(0:Int) + (i:Int)=(i:Int) by omega]
    refine⟨.ref ay.length,ay++[.lst (ys.map .str)],by simp[LU,dR,kk,e],js++[ay.length],rs++[ys],by simp,(h1.keep (fp:=[]) aq.app (by simp)).snoc aE,by simp[h2],?_,K.trans aq.app⟩
    intro r hr;rcases List.mem_append.mp hr with h | h
    ·exact h3 r h
    ·rw[List.mem_singleton.mp h];exact hy) (by rw[bS];omega)
  rw[bS]at h2;refine⟨rs,ay.length,js,ay++[.lst (js.map .ref)],h3,by omega,?_,⟨aE,h1.keep (fp:=[]) aq.app (by simp)⟩,K.trans aq.app⟩
  unfold LV;rw[ak,dn,e];rfl
 have r1:(aw 3 (mN (aV C) (U (aa 0) (U (ae (.int 0)) ag)))) [some (SC ns),some (.ref x),some (.int mm),none,none] Ω=.nx [some (SC ns),some (.ref x),some (.int mm),some (.int (κ ns 0)),none] Ω:=by simp[k0]
 have r2:(aw 4 (m2 (az .Add) (ae (.int 1)) (mN (aV F) (U (aa 3) (U (ae (.int 2)) (U (ae (.int 6)) ag)))))) [some (SC ns),some (.ref x),some (.int mm),some (.int (κ ns 0)),none] Ω=.nx [some (SC ns),some (.ref x),some (.int mm),some (.int (κ ns 0)),some (.int (1 + μ (κ ns 0) 2 6))] Ω:=by simp[ha]
 have r3:∃ n:Int,0<=n/\n<=12/\(cW (cJ (m2 (ax .Eq) (mN (aV F) (U (aa 3) (U (ae (.int 3)) (U (ae (.int 8)) ag)))) (ae (.int 3))) (m2 (ax .Lt) (mN (aW .len) (U (aa 1) ag)) (ae (.int 9)))) (aj (aw 4 (ae (.int 12))) ai) ai) [some (SC ns),some (.ref x),some (.int mm),some (.int (κ ns 0)),some (.int (1 + μ (κ ns 0) 2 6))] Ω=.nx [some (SC ns),some (.ref x),some (.int mm),some (.int (κ ns 0)),some (.int n)] Ω:=by
  by_cases h3:μ (κ ns 0) 3 8=3
  ·by_cases h9:(xs.length:Int) < 9
   ·exact⟨12,by omega,by omega,by simp[hb,h3,hlen,h9]⟩
   ·exact⟨1 + μ (κ ns 0) 2 6,by omega,by omega,by simp[hb,h3,hlen,h9]⟩
  ·have hb3:(μ (κ ns 0) 3 8 == 3)=false:=by simpa using h3
   exact⟨1 + μ (κ ns 0) 2 6,by omega,by omega,by simp[hb,hb3]⟩
 obtain⟨n,n0,n1,r3⟩:=r3;obtain⟨rs,k,js,ao,x1,x2,x3,x4,x5⟩:=main n n0 n1;refine⟨rs,k,js,ao,x1,x2,?_,x4,x5⟩;rw[← x3];unfold CQ;rw[ak,r1,aI,ak,r2,aI,ak,r3,aI]
end
section
variable{Ω ao:aD}{ρ:aU}{k:Nat}{js:List Nat}{rs:List (List Str)}{row:List Str}{n:Str}
theorem CS{rs:List (List Str)}{o:List Str}(M:Mg rs o):∀ r∈rs,r.Sublist o:=by
 induction M with
 | done h=>intro r hr;rw[h r hr];exact List.nil_sublist _
 | @step rs n o hne hf _ ih=>
  intro r hr;have h:=ih _ (List.mem_map.mpr ⟨r,hr,rfl⟩);unfold cH at h;split at h
  ·rename_i he
   cases r with
   | nil=>simp at he
   | cons x t=>
    have:x=n:=by simpa using he
    subst this;exact h.cons_cons _
  ·exact h.cons _
end
section
variable{Ω ao:aD}{ρ:aU}{k:Nat}{js:List Nat}{rs:List (List Str)}{row:List Str}{n:Str}
theorem sJ{j:Nat}{t:Ty}{ds:List D}(h:Ω[j]?=some (.lst ds)):bG t (.ref j) Ω=.ok (.bl (t == .list)) Ω:=by
 unfold bG;rw[zH];simp only[Ck,h];rfl
theorem GI{α:Type}{m:Nat}(xs:List α):bE (eR Ω m) (xs.map fun _=>D.bl true)=some (xs.map fun _=>D.bl true):=nk (fun _=>Cv) xs
theorem z8{j:Nat}{is:List Nat}(R:Rw Ω k js rs)(R':Rw Ω j is rs):ax .NotEq (.ref k) (.ref j) Ω=.ok (.bl false) Ω:=by
 rw[sk,nr,gj (n:=6) (rs:=js) (L:=rs) R.ce R.al,gj (n:=6) (rs:=is) (L:=rs) R'.ce R'.al,iz]
 have e:dY .NotEq (LL rs) (LL rs)=.ok false:=by
  rw[BY,AN 6,AO];simp
 rw[e];rfl
end
end Mir
namespace Mir
open PySem
inductive Sk:List (List Str)->Prop
 | stuck {rs}:(∃ r∈rs,r≠[])->free rs=none->Sk rs
 | step {rs n}:(∃ r∈rs,r≠[])->free rs=some n->Sk (rs.map (cH n))->Sk rs
noncomputable def tot(rs:List (List Str)):Nat:=(rs.map List.length).sum
theorem lU(n:Str)(r:List Str):(cH n r).length<=r.length:=by
 unfold cH;split
 ·rw[List.length_tail];omega
 ·omega
theorem xv(n:Str):∀ rs:List (List Str),tot (rs.map (cH n))<=tot rs
 | []=>Nat.le_refl _
 | r::rs=>by
  have h1:=lU n r;have h2:=xv n rs;simp only[tot,List.map_cons,List.sum_cons]at *;omega
theorem qK{n:Str}:∀ {rs:List (List Str)},(∃ r∈rs,∃ t,r=n::t)->tot (rs.map (cH n)) < tot rs
 | [],⟨r,h,_⟩=>by simp at h
 | r0::rs,⟨r,h,t,e⟩=>by
  have h1:=lU n r0;have h2:=xv n rs;rcases List.mem_cons.mp h with rfl | h
  ·subst e
   have h3:(cH n (n::t)).length=t.length:=by unfold cH;rw[if_pos (by simp)];rfl
   simp only[tot,List.map_cons,List.sum_cons,List.length_cons]at *;omega
  ·have h3:=qK ⟨r,h,t,e⟩
   simp only[tot,List.map_cons,List.sum_cons]at *;omega
theorem xy:∀ (m:Nat) (rs:List (List Str)),tot rs < m->(∃ o,Mg rs o/\o.length<=tot rs)\/Sk rs:=by
 intro m
 induction m with
 | zero=>intro rs h;omega
 | succ m ih=>
  intro rs h
  by_cases hn:∃ r∈rs,r≠[]
  ·cases hf:free rs with
   | none=>exact .inr (.stuck hn hf)
   | some n=>
    have hl:=qK (jn hf).1;rcases ih (rs.map (cH n)) (by omega) with ⟨o,M,h2⟩ | S
    ·exact .inl ⟨n::o,.step hn hf M,by simp;omega⟩
    ·exact .inr (.step hn hf S)
  ·refine .inl ⟨[],.done fun r hr => ?_,by simp⟩
   by_cases q:r=[]
   ·exact q
   ·exact absurd ⟨r,hr,q⟩ hn
section
variable{f:Str->Str}{rs:List (List Str)}
end
theorem iC:∀ (xs ys:List Str),xs.Nodup->(∀ x∈xs,x∈ys)->xs.length<=ys.length
 | [],_,_,_=>Nat.zero_le _
 | x::xs,ys,hn,hs=>by
  have hx:=hs x (by simp)
  have hn':=List.nodup_cons.mp hn
  have:=iC xs (ys.erase x) hn'.2 fun y hy=>by
   have hne:y≠x:=fun q=>hn'.1 (q▸hy)
   exact(List.mem_erase_of_ne hne).mpr (hs y (by simp[hy]))
  rw[List.length_erase_of_mem hx]at this;have:=List.length_pos_of_mem hx;simp only[List.length_cons];omega
abbrev gY:=Str×Str×Nat
structure uw(left:List (List Str))(met:List Str)(steps:List gY)(name:Str):Prop where
 sec:steps.map (·.2.1)=met
 fst:steps.map (·.1)=(met++[name]).tail
 ux:∀ s∈steps,∃ t,left[s.2.2]?=some (s.1::t)/\s.2.1∈t
 nd:met.Nodup
 hds:∀ m∈met++[name],∃ r∈left,∃ t,r=m::t
section
variable{left:List (List Str)}{met:List Str}{steps:List gY}{name h:Str}{t:List Str}{p:Nat}
theorem uw.step(c:uw left met steps name)(hn:name∉met)(hp:left[p]?=some (h::t))(ht:name∈t):uw left (met++[name]) (steps++[(h,name,p)]) h where
 sec:=by rw[List.map_append,c.sec];rfl
 fst:=by
  rw[List.map_append,c.fst];cases met<;>simp
 ux:=fun s hs=>by
  rcases List.mem_append.mp hs with hs | hs
  ·exact c.ux s hs
  ·rw[List.mem_singleton.mp hs];exact⟨t,hp,ht⟩
 nd:=List.nodup_append.mpr ⟨c.nd,by simp,fun a ha b hb=>by rw[List.mem_singleton.mp hb];exact fun q=>hn (q▸ha)⟩
 hds:=fun m hm=>by
  rcases List.mem_append.mp hm with hm | hm
  ·exact c.hds m hm
  ·rw[List.mem_singleton.mp hm];exact⟨_,List.mem_of_getElem? hp,t,rfl⟩
theorem uw.le(c:uw left met steps name):met.length<=left.length:=by
 have h1:=iC met (left.map fun r=>r.headD "") c.nd fun m hm=>by
  obtain⟨r,h1,t,rfl⟩:=c.hds m (by simp[hm])
  exact List.mem_map.mpr ⟨_,h1,rfl⟩
 simpa using h1
theorem uw.len(c:uw left met steps name):steps.length=met.length:=by rw[← c.sec,List.length_map]
structure sL(left:List (List Str))(ss:List gY):Prop where
 ex:∃ n R,ss.map (·.1)=n::R/\ss.map (·.2.1)=R++[n]/\(n::R).Nodup
 ux:∀ s∈ss,∃ t,left[s.2.2]?=some (s.1::t)/\s.2.1∈t
theorem uw.ring(c:uw left met steps name)(hm:name∈met):sL left (steps.drop (met.idxOf name)).reverse:=by
 have hj:=List.idxOf_lt_length_of_mem hm;have hg:met[met.idxOf name]=name:=List.getElem_idxOf hj;have hd:met.drop (met.idxOf name)=name::met.drop (met.idxOf name + 1):=by rw[List.drop_eq_getElem_cons hj,hg]
 generalize met.idxOf name=j at *;have hnd:(name::met.drop (j + 1)).Nodup:=by rw[← hd];exact c.nd.sublist (List.drop_sublist _ _)
 have h1:(steps.drop j).map (·.1)=met.drop (j + 1)++[name]:=by
  rw[List.map_drop,c.fst,List.drop_tail,List.drop_append_of_le_length (by omega)]
 have h2:(steps.drop j).map (·.2.1)=name::met.drop (j + 1):=by rw[List.map_drop,c.sec,hd]
 refine⟨⟨name,(met.drop (j + 1)).reverse,?_,?_,?_⟩,fun s hs=>c.ux s (List.mem_of_mem_drop (List.mem_reverse.mp hs))⟩
 ·rw[List.map_reverse,h1,List.reverse_append];rfl
 ·rw[List.map_reverse,h2,List.reverse_cons]
 ·have:=List.nodup_cons.mp hnd
  exact List.nodup_cons.mpr ⟨by simpa using this.1,List.pairwise_reverse.mpr (this.2.imp Ne.symm)⟩
end
open L2
variable [aJ]
noncomputable def aK(s:gY):D:=.tup [.str s.1,.str s.2.1,.int s.2.2]
def z9(PB:bb):Prop:=∀ (Ω:aD) (k:Nat) (js:List Nat) (rs:List (List Str)) (n:Str),Rw Ω k js rs->rs.length<=1000->∃ d ao,PB [.ref k,.str n] Ω=.ok d ao/\aq [] Ω ao/\((d=.non/\∀ r∈rs,n∉r.tail)\/∃ i:Nat,d=.int i/\∃ r,rs[i]?=some r/\n∈r.tail)
theorem GJ:z9 (bu 4 2 o7):=fun _ _ _ _ _ R hl=>xi R hl
section
variable{Ω ao:aD}{ρ:aU}{k:Nat}{js:List Nat}{rs:List (List Str)}{row:List Str}{n:Str}
def LX:EM:=(cp (m2 aA (aa 0) (ae (.int 0))) false (aa 0) (cK (aa 0)) 0 [])
def tR:EM:=(m2 (ax .NotIn) (aa 2) (aa 3))
def hR:EM:=(m2 aA (m2 aA (aa 0) (aa 5)) (ae (.int 0)))
def bR(PB:bb):SM:=
 (aj (eh (bP fL bB (aa 3) (U (aa 2) ag)))
 (aj (aw 5 (mN (aN PB) (U (aa 0) (U (aa 2) ag))))
 (aj (eh (bP fL bB (aa 4) (U (mN ik (U hR (U (aa 2) (U (aa 5) ag)))) ag)))
 (aj (aw 2 hR)
 ai))))
def z_(PB:bb):SM:=
 (aj (aw 1 LX)
 (aj (aw 2 (m2 aA (aa 1) (ae (.int 0))))
 (aj (aw 3 (mN cm ag))
 (aj (aw 4 (mN cm ag))
 (aj (qy tR (bR PB))
 (aj (aQ (m1 uh (br (aa 4) false (bP fL cC (aa 3) (U (aa 2) ag)) true (ae .non))))
 ai))))))
theorem pj{p:Nat}{h:Str}{t:List Str}(R:Rw Ω k js rs)(hp:rs[p]?=some (h::t)){a1 a2 a3 a4:Option D}:hR [some (.ref k),a1,a2,a3,a4,some (.int p)] Ω=.ok (.str h) Ω:=by
 obtain⟨j,hj,hrow⟩:=R.al.at hp;have h1:aA (.ref k) (.int p) Ω=.ok (.ref j) Ω:=bq R.ce (L2.bf (by rw[List.getElem?_map,hj];rfl))
 have h2:aA (.ref j) (.int 0) Ω=.ok (.str h) Ω:=bq hrow (L2.bf (j:=0) rfl);simp[hR,h1,h2]
theorem GK{PB:bb}(hP:z9 PB){R1 a5:Option D}{qm qs:Nat}{met:List Str}{steps:List gY}{name:Str}(R:Rw Ω k js rs)(hl:rs.length<=1000)(hm:Ω[qm]?=some (.lst (met.map .str)))(hq:Ω[qs]?=some (.lst (steps.map aK)))
  (d1:qm≠qs) (d2:qm≠k) (d3:qs≠k) (d4:qm∉js) (d5:qs∉js) (hb:∃ r∈rs,name∈r.tail) (l1:met.length<=1000) (l2:steps.length<=1000) :
  ∃ (p:Nat) (h:Str) (t:List Str) (ao:aD),rs[p]?=some (h::t)/\name∈t/\bR PB [some (.ref k),R1,some (.str name),some (.ref qm),some (.ref qs),a5] Ω=.nx [some (.ref k),R1,some (.str h),some (.ref qm),some (.ref qs),some (.int p)] ao /\
   Rw ao k js rs/\ao[qm]?=some (.lst ((met++[name]).map .str))/\ao[qs]?=some (.lst ((steps++[(h,name,p)]).map aK))/\aq [qm,qs] Ω ao:=by
 have a1:=dh (d:=.str name) hm (by simp;omega)
 have i1:=dq hm;have K1:aq [qm] Ω (Ω.set qm (.lst (met.map .str++[.str name]))):=aq.set (by simp)
 have m1:(Ω.set qm (.lst (met.map .str++[.str name])))[qm]?=some (.lst ((met++[name]).map .str)):=by rw[cR hm];simp
 have q1:(Ω.set qm (.lst (met.map .str++[.str name])))[qs]?=some (.lst (steps.map aK)):=K1.get _ _ hq (by simpa using Ne.symm d1)
 have r1:(eh (bP fL bB (aa 3) (U (aa 2) ag))) [some (.ref k),R1,some (.str name),some (.ref qm),some (.ref qs),a5] Ω=.nx [some (.ref k),R1,some (.str name),some (.ref qm),some (.ref qs),a5] (Ω.set qm (.lst (met.map .str++[.str name]))):=by
  rw[fA,dI (x:=.ref qm) (ao:=Ω) (by simp) i1]
  simp[a1]
 generalize Ω.set qm (.lst (met.map .str++[.str name]))=ah at *;have Js:Rw ah k js rs:=R.lS K1 (by simpa using Ne.symm d2) (fun j hj h=>d4 (by rw[← List.mem_singleton.mp h];exact hj))
 obtain⟨d,ay,e2,K2,hd⟩:=hP ah k js rs name Js hl;rcases hd with ⟨_,hz⟩ | ⟨p,rfl,r,hp,hn⟩
 ·obtain⟨r,h1,h2⟩:=hb
  exact absurd h2 (hz r h1)
 cases r with
 | nil=>simp at hn
 | cons h t=>
 have r2:(aw 5 (mN (aN PB) (U (aa 0) (U (aa 2) ag)))) [some (.ref k),R1,some (.str name),some (.ref qm),some (.ref qs),a5] ah=.nx [some (.ref k),R1,some (.str name),some (.ref qm),some (.ref qs),some (.int p)] ay:=by simp[e2]
 have R2:=Js.keep K2;have m2:=K2.get _ _ m1 (by simp)
 have q2:=K2.get _ _ q1 (by simp)
 have hh:hR [some (.ref k),R1,some (.str name),some (.ref qm),some (.ref qs),some (.int p)] ay=.ok (.str h) ay:=pj R2 hp;have a3:=dh (d:=aK (h,name,p)) q2 (by simp;omega)
 have i3:=dq q2;have K3:aq [qs] ay (ay.set qs (.lst (steps.map aK++[aK (h,name,p)]))):=aq.set (by simp)
 have q3:(ay.set qs (.lst (steps.map aK++[aK (h,name,p)])))[qs]?=some (.lst ((steps++[(h,name,p)]).map aK)):=by rw[cR q2];simp
 have m3:=K3.get _ _ m2 (by simpa using d1)
 have r3:(eh (bP fL bB (aa 4) (U (mN ik (U hR (U (aa 2) (U (aa 5) ag)))) ag))) [some (.ref k),R1,some (.str name),some (.ref qm),some (.ref qs),some (.int p)] ay=.nx [some (.ref k),R1,some (.str name),some (.ref qm),some (.ref qs),some (.int p)] (ay.set qs (.lst (steps.map aK++[aK (h,name,p)]))):=by
  rw[fA,dI (x:=.ref qs) (ao:=ay) (by simp) i3]
  have e:(U (mN ik (U hR (U (aa 2) (U (aa 5) ag)))) ag) [some (.ref k),R1,some (.str name),some (.ref qm),some (.ref qs),some (.int p)] ay=.ok [aK (h,name,p)] ay:=by
   simp[hh,bc,aK]
  rw[e];simp[a3]
 generalize ay.set qs (.lst (steps.map aK++[aK (h,name,p)]))=aP at *;have R3:Rw aP k js rs:=R2.lS K3 (by simpa using Ne.symm d3) (fun j hj h=>d5 (by rw[← List.mem_singleton.mp h];exact hj))
 have hh3:hR [some (.ref k),R1,some (.str name),some (.ref qm),some (.ref qs),some (.int p)] aP=.ok (.str h) aP:=pj R3 hp;refine⟨p,h,t,aP,hp,hn,?_,R3,m3,q3,?_⟩
 ·unfold bR
  rw[ak,r1,aI,ak,r2,aI,ak,r3,aI,ak,cB,hh3];rfl
 ·exact((K1.sub (by simp)).trans (kG.up K2)).trans (K3.sub (by simp))
theorem CT{PB:bb}(hP:z9 PB){R1:Option D}{qm qs:Nat}(hl:rs.length<=900)(hst:∀ h,(∃ r∈rs,∃ t,r=h::t)->∃ r∈rs,h∈r.tail)(d1:qm≠qs)(d2:qm≠k)(d3:qs≠k)(d4:qm∉js)(d5:qs∉js) :
  ∀ (m:Nat) (Ω:aD) (met:List Str) (steps:List gY) (name:Str) (a5:Option D),Rw Ω k js rs->Ω[qm]?=some (.lst (met.map .str))->Ω[qs]?=some (.lst (steps.map aK))->uw rs met steps name->rs.length - met.length < m ->
   ∃ (xB:List Str) (nI:List gY) (name':Str) (LY:Option D) (ao:aD),fM tR (bR PB) m [some (.ref k),R1,some (.str name),some (.ref qm),some (.ref qs),a5] Ω=.nx [some (.ref k),R1,some (.str name'),some (.ref qm),some (.ref qs),LY] ao /\
    uw rs xB nI name'/\name'∈xB/\ao[qm]?=some (.lst (xB.map .str))/\ao[qs]?=some (.lst (nI.map aK))/\aq [qm,qs] Ω ao:=by
 intro m
 induction m with
 | zero=>intro Ω met steps name a5 R hm hq c h;omega
 | succ m ih=>
  intro Ω met steps name a5 R hm hq c hlt;have hn:=nz (w:=name) hm
  have ht:tR [some (.ref k),R1,some (.str name),some (.ref qm),some (.ref qs),a5] Ω=.ok (.bl (!decide (name∈met))) Ω:=by
   simp[tR,hn,-gW]
  by_cases hmem:name∈met
  ·rw[decide_eq_true hmem]at ht
   refine⟨met,steps,name,a5,Ω,?_,c,hmem,hm,hq,aq.refl⟩;simp only[fM,ht];rfl
  ·rw[decide_eq_false hmem]at ht
   have hc:=c.le;have hlen:=c.len;obtain⟨p,h,t,ah,hp,hn1,e1,Js,m1,q1,K1⟩:=GK hP (R1:=R1) (a5:=a5) R (by omega) hm hq d1 d2 d3 d4 d5 (hst name (c.hds name (by simp))) (by omega) (by omega)
   have c1:=c.step hmem hp hn1;have hc1:=c1.le;rw[List.length_append]at hc1;simp at hc1;obtain⟨xB,nI,name',LY,ay,e2,c2,h2,m2,q2,K2⟩:=ih ah _ _ h (some (.int p)) Js m1 q1 c1 (by rw[List.length_append];simp;omega)
   refine⟨xB,nI,name',LY,ay,?_,c2,h2,m2,q2,K1.trans K2⟩;simp only[fM,ht]
   show(match bR PB [some (.ref k),R1,some (.str name),some (.ref qm),some (.ref qs),a5] Ω with | .nx cf ao=>fM tR (bR PB) m cf ao | .ct cf ao=>fM tR (bR PB) m cf ao | .bk cf ao=>.nx cf ao | r=>r)=_
   rw[e1];exact e2
theorem CU{a1 a2 a3 a4 a5:Option D}(R:Rw Ω k js rs)(hl:rs.length<=1000):LX [some (.ref k),a1,a2,a3,a4,a5] Ω=.ok (.ref Ω.length) (Ω++[.lst (((rs.filter fun r => !r.isEmpty).map fun r=>r.headD "").map .str)]):=by
 have kI:cK (aa 0) [some (.ref k),a1,a2,a3,a4,a5] Ω=.ok (.seq (.ref k)) Ω:=by
  rw[fC];exact cE (by rw[bg,aM R.ce])
 have hL:=R.len
 have key:∀ d∈js.map D.ref,∃ (j:Nat) (row:List Str),d=.ref j/\Ω[j]?=some (.lst (row.map .str)):=fun d hd=>by
  obtain⟨j,hj,rfl⟩:=List.mem_map.mp hd;obtain⟨i,hi⟩:=List.mem_iff_getElem?.mp hj;obtain⟨row,_,h2⟩:=R.al.at' hi;exact⟨j,row,rfl,h2⟩
 have hc:=dE (me:=m2 aA (aa 0) (ae (.int 0))) (nc:=false) (mc:=aa 0) (cap:=[]) (ds:=js.map .ref) (p:=fun d=>(eS Ω d).getD false) (g:=fun d=>match aA d (.int 0) Ω with | .ok x _=>x | _=>.non) kI (by rw[eI,bg,aM R.ce]) (fun d hd=>by
  obtain⟨j,row,rfl,h⟩:=key d hd;have:=gm h;simp[iN,dR,this]) (fun d hd hp=>by
  obtain⟨j,row,rfl,h⟩:=key d hd;have ht:=gm h;cases row with
  | nil=>simp[ht]at hp
  | cons x t=>
   have hix:aA (.ref j) (.int 0) Ω=.ok (.str x) Ω:=bq h (L2.bf (j:=0) rfl);simp[dR,hix]) (by simp;omega)
 refine hc.trans ?_
 congr 4
 have:∀ {js:List Nat} {rs:List (List Str)},lR Ω js rs->((js.map D.ref).filter fun d=>(eS Ω d).getD false).map (fun d=>match aA d (.int 0) Ω with | .ok x _=>x | _=>.non)=((rs.filter fun r => !r.isEmpty).map fun r=>r.headD "").map .str:=by
  intro js rs h
  induction h with
  | nil=>rfl
  | @cons j row js rs r t ih=>
   have r:Ω[j]?=some (.lst (row.map .str)):=r;have ht:=gm r;rw[List.map_cons,List.filter_cons,List.filter_cons];cases row with
   | nil=>
    have ht:eS Ω (.ref j)=some false:=ht;rw[ht];exact ih
   | cons x u=>
    have ht:eS Ω (.ref j)=some true:=ht;have hix:aA (.ref j) (.int 0) Ω=.ok (.str x) Ω:=bq r (L2.bf (j:=0) rfl);rw[ht];simp only[Option.getD_some,if_true,List.map_cons,hix,ih];rfl
 exact this R.al
def Aa(RA:bb):Prop:=∀ (Ω:aD) (k:Nat) (js:List Nat) (rs:List (List Str)),Rw Ω k js rs->rs.length<=900->(∃ r∈rs,r≠[])->free rs=none->∃ (ss:List gY) (q:Nat) (ao:aD),RA [.ref k] Ω=.ok (.ref q) ao/\ao[q]?=some (.lst (ss.map aK))/\sL rs ss/\ss.length<=rs.length/\aq [] Ω ao
theorem GL{PB:bb}(hP:z9 PB):Aa (bu 6 1 (z_ PB)):=by
 intro Ω k js rs R hl hne hf;rw[bF (by rfl)]
 have e0:aS 6 [D.ref k]=[some (.ref k),none,none,none,none,none]:=rfl;rw[e0]
 have hst:∀ h,(∃ r∈rs,∃ t,r=h::t)->∃ r∈rs,h∈r.tail:=by
  rintro h ⟨r,hr,t,rfl⟩
  by_cases q:∃ t∈rs,h∈t.tail
  ·exact q
  ·obtain⟨n,e⟩:=yX hr (gS q)
   rw[hf]at e;cases e
 have e1:=CU (a1:=none) (a2:=none) (a3:=none) (a4:=none) (a5:=none) R (by omega)
 obtain⟨n0,hs,QP,r0,hr0,t0,QQ⟩:∃ n0 hs,((rs.filter fun r => !r.isEmpty).map fun r=>r.headD "")=n0::hs/\∃ r∈rs,∃ t,r=n0::t:=by
  obtain⟨r,hr,hn⟩:=hne;have hm:r∈rs.filter fun r => !r.isEmpty:=List.mem_filter.mpr ⟨hr,by cases r<;>simp at hn ⊢⟩
  cases q:rs.filter fun r => !r.isEmpty with
  | nil=>rw[q]at hm;simp at hm
  | cons r1 l=>
   have h1:r1∈rs.filter fun r => !r.isEmpty:=by rw[q];simp
   obtain⟨h2,h3⟩:=List.mem_filter.mp h1;cases r1 with
   | nil=>simp at h3
   | cons x t=>exact⟨x,_,rfl,_,h2,t,rfl⟩
 rw[QP]at e1;have K1:aq [] Ω (Ω++[Cell.lst ((n0::hs).map D.str)]):=aq.app;have g1:(Ω++[Cell.lst ((n0::hs).map D.str)])[Ω.length]?=some (.lst ((n0::hs).map .str)):=aE;have r1:(aw 1 LX) [some (.ref k),none,none,none,none,none] Ω=.nx [some (.ref k),some (.ref Ω.length),none,none,none,none] (Ω++[Cell.lst ((n0::hs).map D.str)]):=by rw[cB,e1];rfl
 have l1:Ω.length < (Ω++[Cell.lst ((n0::hs).map D.str)]).length:=by simp
 generalize QR:Ω++[Cell.lst ((n0::hs).map D.str)]=ah at *;have hix:aA (.ref Ω.length) (.int 0) ah=.ok (.str n0) ah:=bq g1 (L2.bf (j:=0) rfl);have r2:(aw 2 (m2 aA (aa 1) (ae (.int 0)))) [some (.ref k),some (.ref Ω.length),none,none,none,none] ah=.nx [some (.ref k),some (.ref Ω.length),some (.str n0),none,none,none] ah:=by simp[hix]
 have r3:(aw 3 (mN cm ag)) [some (.ref k),some (.ref Ω.length),some (.str n0),none,none,none] ah=.nx [some (.ref k),some (.ref Ω.length),some (.str n0),some (.ref ah.length),none,none] (ah++[Cell.lst []]):=by simp[bc]
 have r4:(aw 4 (mN cm ag)) [some (.ref k),some (.ref Ω.length),some (.str n0),some (.ref ah.length),none,none] (ah++[Cell.lst []])=.nx [some (.ref k),some (.ref Ω.length),some (.str n0),some (.ref ah.length),some (.ref (ah.length + 1)),none] (ah++[Cell.lst []]++[Cell.lst []]):=by simp[bc]
 have K2:aq [] ah (ah++[Cell.lst []]++[Cell.lst []]):=aq.app.trans aq.app;have g3:(ah++[Cell.lst []]++[Cell.lst []])[ah.length]?=some (.lst (([]:List Str).map .str)):=by simp
 have g4:(ah++[Cell.lst []]++[Cell.lst []])[ah.length + 1]?=some (.lst (([]:List gY).map aK)):=by simp
 generalize ah++[Cell.lst []]++[Cell.lst []]=ay at *;have R2:=(R.keep K1).keep K2;have lk:=dg (R.keep K1).ce;have lj:=(R.keep K1).al.lt;have c0:uw rs [] [] n0:=⟨rfl,rfl,by simp,by simp,fun m hm=>by simp at hm;subst hm;exact⟨r0,hr0,t0,QQ⟩⟩
 obtain⟨met,steps,name,a5,aP,e3,c3,h3,m3,q3,K3⟩:=CT hP (R1:=some (.ref Ω.length)) (qm:=ah.length) (qs:=ah.length + 1) hl hst (by omega) (by omega) (by omega) (fun h=>by have:=lj _ h;omega) (fun h=>by have:=lj _ h;omega) fuel ay [] [] n0 none R2 g3 g4 c0 (by unfold fuel;simp;omega)
 have hi:=iP m3 h3;have iL:=dq m3
 have QS:ey (.ref (ah.length + 1)) (some ((met.idxOf name:Nat):Int)) none aP=.ok (.ref aP.length) (aP++[.lst ((steps.drop (met.idxOf name)).map aK)]):=by
  simp only[ey,aM q3,dS,j4,List.map_drop]
 have g5:(aP++[Cell.lst ((steps.drop (met.idxOf name)).map aK)])[aP.length]?=some (.lst ((steps.drop (met.idxOf name)).map aK)):=aE;have K4:aq [] aP (aP++[Cell.lst ((steps.drop (met.idxOf name)).map aK)]):=aq.app
 have hmi:(bP fL cC (aa 3) (U (aa 2) ag)) [some (.ref k),some (.ref Ω.length),some (.str name),some (.ref ah.length),some (.ref (ah.length + 1)),a5] aP=.ok (.int (met.idxOf name:Nat)) aP:=by
  rw[dI (x:=.ref ah.length) (ao:=aP) (by simp) iL]
  simp[hi]
 have r5:(m1 uh (br (aa 4) false (bP fL cC (aa 3) (U (aa 2) ag)) true (ae .non))) [some (.ref k),some (.ref Ω.length),some (.str name),some (.ref ah.length),some (.ref (ah.length + 1)),a5] aP=.ok (.ref (aP.length + 1)) (aP++[Cell.lst ((steps.drop (met.idxOf name)).map aK)]++[.lst ((steps.drop (met.idxOf name)).reverse.map aK)]):=by
  have:(br (aa 4) false (bP fL cC (aa 3) (U (aa 2) ag)) true (ae .non)) [some (.ref k),some (.ref Ω.length),some (.str name),some (.ref ah.length),some (.ref (ah.length + 1)),a5] aP=.ok (.ref aP.length) (aP++[Cell.lst ((steps.drop (met.idxOf name)).map aK)]):=by
   simp[hmi,QS]
  rw[AX,this,aO];simp only[uh,aM g5,dS,List.map_reverse];simp
 refine⟨(steps.drop (met.idxOf name)).reverse,aP.length + 1,aP++[Cell.lst ((steps.drop (met.idxOf name)).map aK)]++[.lst ((steps.drop (met.idxOf name)).reverse.map aK)],?_,?_,c3.ring h3,?_,?_⟩
 rotate_left
 ·rw[show aP.length + 1=(aP++[Cell.lst ((steps.drop (met.idxOf name)).map aK)]).length by simp]
  exact aE
 ·have:=c3.le
  have:=c3.len;simp;omega
 ·refine aq.new (fp:=[ah.length,ah.length + 1]) (K1.trans K2) (K3.trans (kG.up (K4.trans aq.app))) (fun j hj => ?_)
  simp at hj;have:=K1.len;omega
 ·unfold z_
  rw[ak,r1,aI,ak,r2,aI,ak,r3,aI,ak,r4,aI,ak];unfold qy;rw[e3,aI,ak,dn,r5];rfl
end
structure dM(rs:List (List Str))(ss:List gY):Prop where
 ex:∃ n R,ss.map (·.1)=n::R/\ss.map (·.2.1)=R++[n]/\(n::R).Nodup
 ux:∀ s∈ss,∃ u t,rs[s.2.2]?=some (u++s.1::t)/\s.2.1∈t
theorem dM.step{rs:List (List Str)}{ss:List gY}{n:Str}(h:dM (rs.map (cH n)) ss):dM rs ss:=⟨h.ex,fun s hs=>by
 obtain⟨u,t,e,hm⟩:=h.ux s hs;rw[List.getElem?_map]at e;obtain⟨r,e1,e2⟩:=Option.map_eq_some_iff.mp e;unfold cH at e2;split at e2
 ·cases r with
  | nil=>simp at e2
  | cons x r=>exact⟨x::u,t,by rw[e1];simpa using e2,hm⟩
 ·exact⟨u,t,by rw[e1,e2],hm⟩⟩
theorem sL.toR{rs:List (List Str)}{ss:List gY}(h:sL rs ss):dM rs ss:=⟨h.ex,fun s hs=>by
 obtain⟨t,e,hm⟩:=h.ux s hs;exact⟨[],t,e,hm⟩⟩
def xC(OC:bb):Prop:=∀ (Ω:aD) (k:Nat) (ss:List gY),Ω[k]?=some (.lst (ss.map aK))->ss.length<=900->∃ q ao,OC [.ref k,.int 0] Ω=.ok (.ref q) ao/\ao[q]?=some (.lst (ss.map aK))/\Ω.length<=q/\aq [] Ω ao
def D7(OC:bb):EM:=mN (fun xs Ω=>aN OC (xs++[.int 0]) Ω) (U (mN (aW .list) (U (aa 1) ag)) ag)
def qL(OC RA:bb):SM:=nF "Ring" "steps" (D7 OC) (mN (aN RA) (U (aa 1) ag))
section
variable{Ω ao:aD}{ρ:aU}{k:Nat}{js:List Nat}{rs:List (List Str)}{row:List Str}{n:Str}
theorem CV{OC:bb}(hO:xC OC){ss:List gY}(h:Ω[k]?=some (.lst (ss.map aK)))(hl:ss.length<=900):∃ q ao,D7 OC [none,some (.ref k)] Ω=.ok (.ref q) ao/\ao[q]?=some (.lst (ss.map aK))/\Ω.length<=q/\aq [] Ω ao:=by
 have h1:=iQ h;have g1:(Ω++[Cell.lst (ss.map aK)])[Ω.length]?=some (.lst (ss.map aK)):=aE;have K1:aq [] Ω (Ω++[Cell.lst (ss.map aK)]):=aq.app;have l1:Ω.length<=(Ω++[Cell.lst (ss.map aK)]).length:=K1.len;generalize Ω++[Cell.lst (ss.map aK)]=ah at *;obtain⟨q,ay,e,g,l,K2⟩:=hO ah _ ss g1 hl;refine⟨q,ay,?_,g,by omega,K1.trans K2⟩
 simp[D7,h1,e]
theorem CW{OC RA:bb}(hO:xC OC)(hA:Aa RA){R0:D}{q:Nat}{a3:Option D}(R:Rw Ω k js rs)(hl:rs.length<=900)(hne:∃ r∈rs,r≠[])(hf:free rs=none) :
  ∃ (ss:List gY) (p:Nat) (ao:aD),qL OC RA [some R0,some (.ref k),some (.ref q),a3] Ω=.exc (eD "Ring" "steps" (.ref p)) ao/\ao[p]?=some (.lst (ss.map aK))/\dM rs ss/\Ω.length<=p/\aq [] Ω ao:=by
 obtain⟨ss,q1,ah,e1,g1,hr,hs,K1⟩:=hA Ω k js rs R hl hne hf;obtain⟨p,ay,e2,g2,l2,K2⟩:=CV hO g1 (by omega)
 refine⟨ss,p,ay,?_,g2,hr.toR,by have:=K1.len;omega,K1.trans K2⟩
 have:(mN (aN RA) (U (aa 1) ag)) [some R0,some (.ref k),some (.ref q),a3] Ω=.ok (.ref q1) ah:=by simp[e1]
 unfold qL nF;rw[this]
 show(match D7 OC [none,some (.ref q1)] ah with | .ok d' ay=>gD.exc (eD "Ring" "steps" d') ay | _=>.bad)=_
 rw[e2]
theorem um{OC RA FN:bb}(hO:xC OC)(hA:Aa RA)(hF:FnAt FN){R0:D}{rs:List (List Str)}(S:Sk rs) :
  ∀ (Ω:aD) (pre:List Str) (q k:Nat) (js:List Nat) (a3:Option D) (m:Nat),Rw Ω k js rs->Ω[q]?=some (.lst (pre.map .str))->q≠k->q∉js->rs.length<=900->pre.length + tot rs<=900->tot rs < m ->
   ∃ (ss:List gY) (p:Nat) (ao:aD),fM tM (bM (qL OC RA) FN) m [some R0,some (.ref k),some (.ref q),a3] Ω=.exc (eD "Ring" "steps" (.ref p)) ao/\ao[p]?=some (.lst (ss.map aK))/\dM rs ss/\Ω.length<=p/\aq [q] Ω ao:=by
 induction S with
 | @stuck rs h hf=>
  intro Ω pre q k js a3 m R hq _ _ hl _ hm;obtain⟨m,rfl⟩:∃ k,m=k + 1:=⟨m - 1,by omega⟩
  obtain⟨ah,e1,K1⟩:=hF Ω k js rs R (by omega)
  rw[hf]at e1;obtain⟨ss,p,ay,e2,g2,hr,l2,K2⟩:=CW hO hA (R0:=R0) (q:=q) (a3:=some .non) (R.keep K1) hl h hf;refine⟨ss,p,ay,?_,g2,hr,by have:=K1.len;omega,kG.up (K1.trans K2)⟩
  have e:=sI R;rw[any_true h]at e;have e':tM [some R0,some (.ref k),some (.ref q),a3] Ω=.ok (.bl true) Ω:=by simp[tM,e]
  simp only[fM,e']
  show(match bM (qL OC RA) FN [some R0,some (.ref k),some (.ref q),a3] Ω with | .nx cf ao=>fM tM (bM (qL OC RA) FN) m cf ao | .ct cf ao=>fM tM (bM (qL OC RA) FN) m cf ao | .bk cf ao=>.nx cf ao | r=>r)=_
  have r1:(aw 3 (mN (aN FN) (U (aa 1) ag))) [some R0,some (.ref k),some (.ref q),a3] Ω=.nx [some R0,some (.ref k),some (.ref q),some .non] ah:=by simp[e1,vZ]
  have r2:(cW (m2 (ax .Is) (aa 3) (ae .non)) (aj (qL OC RA) ai) ai) [some R0,some (.ref k),some (.ref q),some .non] ah=.exc (eD "Ring" "steps" (.ref p)) ay:=by
   have c:(m2 (ax .Is) (aa 3) (ae .non)) [some R0,some (.ref k),some (.ref q),some .non] ah=.ok (.bl true) ah:=by simp
   rw[fB,c]
   show aj (qL OC RA) ai _ ah=_
   rw[ak,e2];rfl
  unfold bM;rw[ak,r1,aI,ak,r2];rfl
 | @step rs n h hf _ ih=>
  intro Ω pre q k js a3 m R hq LI Jq hl hp hm;obtain⟨m,rfl⟩:∃ k,m=k + 1:=⟨m - 1,by omega⟩
  have ht:=qK (jn hf).1;obtain⟨k',eM,ah,e1,R1,q1,h1,h2,K1⟩:=Gq (st:=qL OC RA) hF (R0:=R0) (a3:=a3) R (by omega) hf hq LI Jq (by omega)
  obtain⟨ss,p,ay,e2,g2,hr,l2,K2⟩:=ih ah (pre++[n]) q k' eM (some (.str n)) m R1 q1 h1 h2 (by simpa using hl) (by simp;omega) (by omega)
  refine⟨ss,p,ay,?_,g2,hr.step,by have:=K1.len;omega,K1.trans K2⟩
  have e:=sI R;rw[any_true h]at e;have e':tM [some R0,some (.ref k),some (.ref q),a3] Ω=.ok (.bl true) Ω:=by simp[tM,e]
  simp only[fM,e']
  show(match bM (qL OC RA) FN [some R0,some (.ref k),some (.ref q),a3] Ω with | .nx cf ao=>fM tM (bM (qL OC RA) FN) m cf ao | .ct cf ao=>fM tM (bM (qL OC RA) FN) m cf ao | .bk cf ao=>.nx cf ao | r=>r)=_
  rw[e1];exact e2
def Ab(MG:bb):Prop:=∀ (Ω:aD) (k:Nat) (js:List Nat) (rs:List (List Str)),Rw Ω k js rs->Sk rs->rs.length<=900->tot rs<=900->∃ (ss:List gY) (p:Nat) (ao:aD),MG [.ref k] Ω=.exc (eD "Ring" "steps" (.ref p)) ao/\ao[p]?=some (.lst (ss.map aK))/\dM rs ss/\Ω.length<=p/\aq [] Ω ao
theorem GN{OC RA FN:bb}(hO:xC OC)(hA:Aa RA)(hF:FnAt FN):Ab (bu 4 1 (zZ (qL OC RA) FN)):=by
 intro Ω k js rs R S hr ho;rw[bF (by rfl)]
 have e0:aS 4 [D.ref k]=[some (.ref k),none,none,none]:=rfl;rw[e0];obtain⟨eM,k',ah,e1,K1,R1,h1,h2,h3⟩:=sH (ρ:=[some (.ref k),none,none,none]) (i:=0) rfl R (by omega)
 have r1:(aw 1 (pd 0)) [some (.ref k),none,none,none] Ω=.nx [some (.ref k),some (.ref k'),none,none] ah:=by rw[cB,e1];rfl
 have K2:aq [] ah (ah++[Cell.lst []]):=aq.app;have q2:(ah++[Cell.lst []])[ah.length]?=some (.lst (([]:List Str).map .str)):=aE;have r2:(aw 2 (mN cm ag)) [some (.ref k),some (.ref k'),none,none] ah=.nx [some (.ref k),some (.ref k'),some (.ref ah.length),none] (ah++[Cell.lst []]):=by simp[bc]
 have lk:=dg R1.ce;have lj:=R1.al.lt;obtain⟨ss,p,aP,e3,g3,hR,l3,K3⟩:=um hO hA hF (R0:=.ref k) S (ah++[Cell.lst []]) [] ah.length k' eM none fuel (R1.keep K2) q2 (by omega) (fun h=>by have:=lj _ h;omega) hr (by simpa using ho) (by unfold fuel;omega)
 refine⟨ss,p,aP,?_,g3,hR,?_,aq.new (K1.trans K2) K3 (by simpa using K1.len)⟩
 ·unfold zZ
  rw[ak,r1,aI,ak,r2,aI,ak];unfold qy;rw[e3];rfl
 ·have:=K1.len
  simp at l3;omega
end
def Jt(O:bb):EM:=cp (mN (aN O) (U (aa 0) (U (m2 (az .Add) (aa 1) (ae (.int 1))) ag))) true (ae .non) (cK (aa 0)) 0 [1]
def gN(O:bb):SM:=
 (aj (cW (m2 (ax .Eq) (aa 1) (ae (.int 8)))
 (aj (aQ (aa 0))
 ai)
 ai)
 (aj (cW (m1 (bG .list) (aa 0))
 (aj (aQ (Jt O))
 ai)
 ai)
 (aj (cW (m1 (bG .tuple) (aa 0))
 (aj (aQ (mN (aW .tuple) (U (Jt O) ag)))
 ai)
 ai)
 (aj (cW (m1 (bG .dict) (aa 0))
 (aj mV
 ai)
 ai)
 (aj (aQ (aa 0))
 ai)))))
noncomputable def isA:D->Bool
 | .str _=>true
 | .int _=>true
 | _=>false
section
variable{Ω ao:aD}{O:bb}
theorem Ac{d:D}(hd:isA d=true):bu 2 2 (gN O) [d,.int 2] Ω=.ok d Ω:=by
 rw[bF (by rfl)]
 show fy (gN O [some d,some (.int 2)] Ω)=_
 have h1:bG .list d Ω=.ok (.bl false) Ω:=by cases d<;>first | rfl | cases hd
 have h2:bG .tuple d Ω=.ok (.bl false) Ω:=by cases d<;>first | rfl | cases hd
 have h3:bG .dict d Ω=.ok (.bl false) Ω:=by cases d<;>first | rfl | cases hd
 simp[gN,h1,h2,h3]
theorem CY{ds:List D}(h:∀ d∈ds,isA d=true)(hl:ds.length<=900):bu 2 2 (gN (bu 2 2 (gN O))) [.tup ds,.int 1] Ω=.ok (.tup ds) (Ω++[.lst ds]):=by
 rw[bF (by rfl)]
 show fy (gN (bu 2 2 (gN O)) [some (.tup ds),some (.int 1)] Ω)=_
 have h1:bG .list (.tup ds) Ω=.ok (.bl false) Ω:=rfl;have h2:bG .tuple (.tup ds) Ω=.ok (.bl true) Ω:=rfl
 have hc:=dE (ρ:=[some (.tup ds),some (.int 1)]) (Ω:=Ω) (me:=mN (aN (bu 2 2 (gN O))) (U (aa 0) (U (m2 (az .Add) (aa 1) (ae (.int 1))) ag))) (nc:=true) (mc:=ae .non) (cap:=[1]) (ds:=ds) (p:=fun _=>true) (g:=fun d=>d) (mi:=cK (aa 0)) (src:=.seq (.tup ds)) (ao:=Ω) rfl rfl (fun d hd=>rfl) (fun d hd _=>by
  have:=Ac (Ω:=Ω) (O:=O) (h d hd);simp[dR,this]) (by omega)
 rw[List.filter_eq_self.mpr (by simp),List.map_id']at hc
 have hc:Jt (bu 2 2 (gN O)) [some (.tup ds),some (.int 1)] Ω=.ok (.ref Ω.length) (Ω++[.lst ds]):=hc;have g1:(Ω++[Cell.lst ds])[Ω.length]?=some (.lst ds):=aE
 have ht:aW .tuple [.ref Ω.length] (Ω++[Cell.lst ds])=.ok (.tup ds) (Ω++[Cell.lst ds]):=by
  show kc [.ref Ω.length] (Ω++[Cell.lst ds])=_
  simp only[kc,bg,aM g1]
 generalize bu 2 2 (gN O)=O1 at *;simp[gN,h1,h2,hc,ht]
theorem uo(s:gY):∀ d∈[D.str s.1,.str s.2.1,.int s.2.2],isA d=true:=by simp[isA]
theorem GO:xC (bu 2 2 (gN (bu 2 2 (gN (bu 2 2 (gN O)))))):=by
 intro Ω k ss hk hl;rw[bF (by rfl)]
 show ∃ q ao,fy (gN (bu 2 2 (gN (bu 2 2 (gN O)))) [some (.ref k),some (.int 0)] Ω)=_/\_
 have h1:=sJ (t:=.list) hk;have h1:bG .list (.ref k) Ω=.ok (.bl true) Ω:=h1
 obtain⟨ay,e,K⟩:=Cy (ρ:=[some (.ref k),some (.int 0)]) (Ω:=Ω) (me:=mN (aN (bu 2 2 (gN (bu 2 2 (gN O))))) (U (aa 0) (U (m2 (az .Add) (aa 1) (ae (.int 1))) ag))) (mc:=ae .non) (cap:=[1]) (ds:=ss.map aK) (g:=fun d=>d) (mi:=cK (aa 0)) (src:=.seq (.ref k)) (fun ay=>aq [] Ω ay) (by
  rw[fC];exact cE (by rw[bg,aM hk])) aq.refl (fun ay K=>by rw[eI,bg,aM (K.get _ _ hk (by simp))]) (fun d hd ay K=>by
  obtain⟨s,_,rfl⟩:=List.mem_map.mp hd;have:=CY (Ω:=ay) (O:=O) (uo s) (by simp)
  refine⟨ay++[Cell.lst [D.str s.1,.str s.2.1,.int s.2.2]],?_,K.trans aq.app⟩;have this:bu 2 2 (gN (bu 2 2 (gN O))) [aK s,.int 1] ay=.ok (aK s) (ay++[Cell.lst [D.str s.1,.str s.2.1,.int s.2.2]]):=this;generalize bu 2 2 (gN (bu 2 2 (gN O)))=O2 at *;simp[dR,this]) (by simp;omega)
 rw[List.map_id']at e;have e:Jt (bu 2 2 (gN (bu 2 2 (gN O)))) [some (.ref k),some (.int 0)] Ω=.ok (.ref ay.length) (ay++[.lst (ss.map aK)]):=e;refine⟨ay.length,ay++[.lst (ss.map aK)],?_,aE,K.len,K.trans aq.app⟩;generalize bu 2 2 (gN (bu 2 2 (gN O)))=O2 at *;simp[gN,h1,e]
end
theorem uq{u t:List Str}{a b:Str}(hn:(u++a::t).Nodup)(hb:b∈t):(u++a::t).idxOf a < (u++a::t).idxOf b:=by
 obtain⟨_,h2,h3⟩:=List.nodup_append.mp hn;have ha:a∉u:=fun q=>h3 a q a (by simp) rfl
 have QT:b∉u:=fun q=>h3 b q b (by simp[hb]) rfl
 have hne:a≠b:=fun q=>(List.nodup_cons.mp h2).1 (q▸hb)
 rw[List.idxOf_append,if_neg ha,List.idxOf_append,if_neg QT,List.idxOf_cons_self,List.idxOf_cons];have:(a == b)=false:=by simpa using hne
 rw[this];simp
def QU(rs:List (List Str))(s:gY):Prop:=∃ u t,rs[s.2.2]?=some (u++s.1::t)/\s.2.1∈t
def c0:EM:=m2 aA (aa 1) (ae (.int 0))
def c1:EM:=m2 aA (aa 1) (ae (.int 1))
def c2:EM:=m2 aA (aa 1) (ae (.int 2))
def GP:EM:=m2 (ax .Lt) (bP fL cC (aa 2) (U c0 ag)) (bP fL cC (aa 2) (U c1 ag))
section
variable{Ω ao:aD}{k:Nat}{js:List Nat}{rs:List (List Str)}{row:List Str}{s:gY}
theorem sM{a0 a2:Option D}:c0 [a0,some (aK s),a2] Ω=.ok (.str s.1) Ω:=by
 have:aA (aK s) (.int 0) Ω=.ok (.str s.1) Ω:=ek (L2.bf (j:=0) rfl);simp[c0,this]
theorem sN{a0 a2:Option D}:c1 [a0,some (aK s),a2] Ω=.ok (.str s.2.1) Ω:=by
 have:aA (aK s) (.int 1) Ω=.ok (.str s.2.1) Ω:=ek (L2.bf (j:=1) rfl);simp[c1,this]
theorem pk{a0 a2:Option D}:c2 [a0,some (aK s),a2] Ω=.ok (.int s.2.2) Ω:=by
 have:aA (aK s) (.int 2) Ω=.ok (.int s.2.2) Ω:=ek (L2.bf (j:=2) rfl);simp[c2,this]
theorem xD{a0:Option D}{j:Nat}{u t:List Str}(hj:Ω[j]?=some (.lst ((u++s.1::t).map .str)))(hn:(u++s.1::t).Nodup)(hm:s.2.1∈t):GP [a0,some (aK s),some (.ref j)] Ω=.ok (.bl true) Ω:=by
 have i0:=iP (w:=s.1) hj (by simp)
 have i1:=iP (w:=s.2.1) hj (by simp[hm])
 have iL:=dq hj
 have e0:(bP fL cC (aa 2) (U c0 ag)) [a0,some (aK s),some (.ref j)] Ω=.ok (.int ((u++s.1::t).idxOf s.1:Nat)) Ω:=by
  rw[dI (x:=.ref j) (ao:=Ω) (by simp) iL,c8,sM]
  simp[i0]
 have e1:(bP fL cC (aa 2) (U c1 ag)) [a0,some (aK s),some (.ref j)] Ω=.ok (.int ((u++s.1::t).idxOf s.2.1:Nat)) Ω:=by
  rw[dI (x:=.ref j) (ao:=Ω) (by simp) iL,c8,sN]
  simp[i1]
 have hlt:=uq hn hm;unfold GP;rw[cF,e0,aO,e1,aO];simp only[zN];simp;omega
def CZ(W:List D->Out Rs):SM:=
 (aj (cW (fh (bX (m1 (bG .tuple) (aa 1))) (m2 (ax .NotEq) (mN (aW .len) (U (aa 1) ag)) (ae (.int 3))))
 (aj (aQ (ae (.bl false)))
 ai)
 ai)
 (aj (cW (fh (bX (m1 (bG .str) c0)) (fh (bX (m1 (bG .str) c1)) (bX (mN (aV W) (U c2 (U (ae (.int 0)) (U (m2 (az .Sub) (mN (aW .len) (U (aa 0) ag)) (ae (.int 1))) ag)))))))
 (aj (aQ (ae (.bl false)))
 ai)
 ai)
 (aj (aw 2 (m2 aA (aa 0) c2))
 (aj (aQ (cJ (m2 (ax .In) c0 (aa 2)) (cJ (m2 (ax .In) c1 (aa 2)) GP)))
 ai))))
def xE(IC:bb):Prop:=∀ (Ω:aD) (k:Nat) (js:List Nat) (rs:List (List Str)) (s:gY),Rw Ω k js rs->(∀ r∈rs,r.Nodup)->rs.length<=900->QU rs s->IC [.ref k,aK s] Ω=.ok (.bl true) Ω
def GQ(W:List D->Out Rs):Prop:=∀ p n:Nat,p < n->n<=1000->W [.int p,.int 0,.int ((n:Int) - 1)]=.ok (false,.bl true)
theorem GR{W:List D->Out Rs}(hW:GQ W):xE (bu 3 2 (CZ W)):=by
 intro Ω k js rs s R hn hl ⟨u,t,hp,hm⟩;rw[bF (by rfl)]
 have e0:aS 3 [D.ref k,aK s]=[some (.ref k),some (aK s),none]:=rfl;rw[e0];have hlt:=(List.getElem?_eq_some_iff.mp hp).1;obtain⟨j,hj,hrow⟩:=R.al.at hp;have hnd:=hn _ (List.mem_of_getElem? hp);have h1:aA (.ref k) (.int s.2.2) Ω=.ok (.ref j) Ω:=bq R.ce (L2.bf (by rw[List.getElem?_map,hj];rfl))
 have t1:bG .tuple (aK s) Ω=.ok (.bl true) Ω:=rfl;have t2:aW .len [aK s] Ω=.ok (.int 3) Ω:=rfl;have t3:bG .str (.str s.1) Ω=.ok (.bl true) Ω:=rfl;have t4:bG .str (.str s.2.1) Ω=.ok (.bl true) Ω:=rfl;have hlen:=cP R.ce;have hL:=R.len;rw[List.length_map,← hL]at hlen;have hw:=hW s.2.2 rs.length hlt (by omega)
 have b1:(cW (fh (bX (m1 (bG .tuple) (aa 1))) (m2 (ax .NotEq) (mN (aW .len) (U (aa 1) ag)) (ae (.int 3)))) (aj (aQ (ae (.bl false))) ai) ai) [some (.ref k),some (aK s),none] Ω=.nx [some (.ref k),some (aK s),none] Ω:=by
  simp[t1,t2]
 have b2:(cW (fh (bX (m1 (bG .str) c0)) (fh (bX (m1 (bG .str) c1)) (bX (mN (aV W) (U c2 (U (ae (.int 0)) (U (m2 (az .Sub) (mN (aW .len) (U (aa 0) ag)) (ae (.int 1))) ag))))))) (aj (aQ (ae (.bl false))) ai) ai) [some (.ref k),some (aK s),none] Ω=.nx [some (.ref k),some (aK s),none] Ω:=by
  simp[sM,sN,pk,t3,t4,hlen,hw]
 have b3:(aw 2 (m2 aA (aa 0) c2)) [some (.ref k),some (aK s),none] Ω=.nx [some (.ref k),some (aK s),some (.ref j)] Ω:=by
  simp[pk,h1]
 have i0:=nv (w:=s.1) hrow;have i1:=nv (w:=s.2.1) hrow;rw[decide_eq_true (by simp)]at i0
 rw[decide_eq_true (by simp[hm])]at i1
 have b4:(cJ (m2 (ax .In) c0 (aa 2)) (cJ (m2 (ax .In) c1 (aa 2)) GP)) [some (.ref k),some (aK s),some (.ref j)] Ω=.ok (.bl true) Ω:=by
  have q1:(m2 (ax .In) c0 (aa 2)) [some (.ref k),some (aK s),some (.ref j)] Ω=.ok (.bl true) Ω:=by simp[sM,i0,-jA]
  have q2:(m2 (ax .In) c1 (aa 2)) [some (.ref k),some (aK s),some (.ref j)] Ω=.ok (.bl true) Ω:=by simp[sN,i1,-jA]
  rw[jw,q1,aO,dm,sd,jw,q2,aO,dm,sd,xD hrow hnd hm]
 unfold CZ;rw[ak,b1,aI,ak,b2,aI,ak,b3,aI,ak,dn,b4];rfl
def C0(W:List D->Out Rs):SM:=
 (aj (cW (fh (bX (m1 (bG .tuple) (aa 1))) (fh (m2 (ax .NotEq) (mN (aW .len) (U (aa 1) ag)) (ae (.int 3))) (bX (mN (aV W) (U c2 ag)))))
 (aj (aQ (ae (.bl false)))
 ai)
 ai)
 (aj (cW (bX (gC .LtE .Lt (ae (.int 0)) c2 (mN (aW .len) (U (aa 0) ag))))
 (aj (aQ (ae (.bl false)))
 ai)
 ai)
 (aj (aw 2 (m2 aA (aa 0) c2))
 (aj (cW (fh (m2 (ax .NotIn) c0 (aa 2)) (m2 (ax .NotIn) c1 (aa 2)))
 (aj (aQ (ae (.bl false)))
 ai)
 ai)
 (aj (aQ GP)
 ai)))))
theorem GS{W:List D->Out Rs}(hW:∀ i:Int,W [.int i]=.ok (false,.bl true)):xE (bu 3 2 (C0 W)):=by
 intro Ω k js rs s R hn hl ⟨u,t,hp,hm⟩;rw[bF (by rfl)]
 have e0:aS 3 [D.ref k,aK s]=[some (.ref k),some (aK s),none]:=rfl;rw[e0];have hlt:=(List.getElem?_eq_some_iff.mp hp).1;obtain⟨j,hj,hrow⟩:=R.al.at hp;have hnd:=hn _ (List.mem_of_getElem? hp);have h1:aA (.ref k) (.int s.2.2) Ω=.ok (.ref j) Ω:=bq R.ce (L2.bf (by rw[List.getElem?_map,hj];rfl))
 have t1:bG .tuple (aK s) Ω=.ok (.bl true) Ω:=rfl;have t2:aW .len [aK s] Ω=.ok (.int 3) Ω:=rfl;have hlen:=cP R.ce;have hL:=R.len;rw[List.length_map,← hL]at hlen;have hw:=hW s.2.2
 have b1:(cW (fh (bX (m1 (bG .tuple) (aa 1))) (fh (m2 (ax .NotEq) (mN (aW .len) (U (aa 1) ag)) (ae (.int 3))) (bX (mN (aV W) (U c2 ag))))) (aj (aQ (ae (.bl false))) ai) ai) [some (.ref k),some (aK s),none] Ω=.nx [some (.ref k),some (aK s),none] Ω:=by
  simp[t1,t2,pk,hw]
 have b2:(cW (bX (gC .LtE .Lt (ae (.int 0)) c2 (mN (aW .len) (U (aa 0) ag)))) (aj (aQ (ae (.bl false))) ai) ai) [some (.ref k),some (aK s),none] Ω=.nx [some (.ref k),some (aK s),none] Ω:=by
  have q:(gC .LtE .Lt (ae (.int 0)) c2 (mN (aW .len) (U (aa 0) ag))) [some (.ref k),some (aK s),none] Ω=.ok (.bl true) Ω:=by
   unfold gC
   have z1:b_ .LtE (.int 0) (.int s.2.2) Ω=.ok (.bl true) Ω:=by
    have:ax .LtE (.int 0) (.int s.2.2) Ω=.ok (.bl true) Ω:=by simp
    exact this
   have z2:b_ .Lt (.int s.2.2) (.int rs.length) Ω=.ok (.bl true) Ω:=by
    have:ax .Lt (.int s.2.2) (.int rs.length) Ω=.ok (.bl true) Ω:=by simp;omega
    exact this
   simp[pk,z1,hlen,z2];omega
  rw[fB,sh,q];rfl
 have b3:(aw 2 (m2 aA (aa 0) c2)) [some (.ref k),some (aK s),none] Ω=.nx [some (.ref k),some (aK s),some (.ref j)] Ω:=by
  simp[pk,h1]
 have i0:=nz (w:=s.1) hrow;have i1:=nz (w:=s.2.1) hrow;rw[decide_eq_true (by simp)]at i0
 rw[decide_eq_true (by simp[hm])]at i1
 have b4:(cW (fh (m2 (ax .NotIn) c0 (aa 2)) (m2 (ax .NotIn) c1 (aa 2))) (aj (aQ (ae (.bl false))) ai) ai) [some (.ref k),some (aK s),some (.ref j)] Ω=.nx [some (.ref k),some (aK s),some (.ref j)] Ω:=by
  have q1:(m2 (ax .NotIn) c0 (aa 2)) [some (.ref k),some (aK s),some (.ref j)] Ω=.ok (.bl false) Ω:=by simp[sM,i0,-gW]
  have q2:(m2 (ax .NotIn) c1 (aa 2)) [some (.ref k),some (aK s),some (.ref j)] Ω=.ok (.bl false) Ω:=by simp[sN,i1,-gW]
  rw[fB,ng,q1,aO,dm,sg,q2];rfl
 unfold C0;rw[ak,b1,aI,ak,b2,aI,ak,b3,aI,ak,b4,aI,ak,dn,xD hrow hnd hm];rfl
end
theorem kJ:∀ (xs σ:List Str),xs.Nodup->(∀ x∈xs,x∉σ)->(xs.foldl gH σ).length=σ.length + xs.length
 | [],σ,_,_=>by simp
 | x::xs,σ,hn,hs=>by
  have e:gH σ x=σ++[x]:=if_neg (hs x (by simp))
  obtain⟨h1,h2⟩:=List.nodup_cons.mp hn
  rw[List.foldl_cons,e,kJ xs (σ++[x]) h2 (fun y hy=>by
   simp only[List.mem_append,List.mem_singleton,not_or];exact⟨hs y (by simp[hy]),fun q=>h1 (q▸hy)⟩)]
  simp;omega
theorem ur{xs:List Str}(h:xs.Nodup):unlike xs=xs.length:=by
 have:=kJ xs [] h (by simp)
 simpa[unlike] using this
theorem lV:∀ xs:List Str,eF (xs.map .str)=some xs
 | []=>rfl
 | x::xs=>by simp[eF,lV xs]
section
variable{Ω ao:aD}{ρ:aU}{k:Nat}{js:List Nat}{rs:List (List Str)}{ss:List gY}
theorem dM.two(h:dM rs ss)(hn:∀ r∈rs,r.Nodup):2<=ss.length:=by
 obtain⟨n,R,h1,h2,h3⟩:=h.ex;cases ss with
 | nil=>simp at h1
 | cons s ss=>
  cases ss with
  | nil=>
   simp at h1 h2;obtain⟨rfl,rfl⟩:=h1;simp at h2;obtain⟨u,t,e,hm⟩:=h.ux s (by simp)
   have:=hn _ (List.mem_of_getElem? e);obtain⟨_,q,_⟩:=List.nodup_append.mp this;exact absurd (by rw[h2]at hm;exact hm) (List.nodup_cons.mp q).1
  | cons _ _=>simp
theorem C1{α:Type}{xs:List α}(h:Ω[k]?=some (.lst (xs.map fun _=>.bl true))):aW .all [.ref k] Ω=.ok (.bl true) Ω:=by
 show kd .all [.ref k] Ω=_
 unfold kd;rw[jx];have hr:=nq (n:=7) h (GI xs);have:bE (eR Ω 8) [.ref k]=some [.lst (xs.map fun _=>D.bl true)]:=by rw[nj,hr];rfl
 rw[this,sj,wY,rK (p:=fun _=>true)]
 have:(xs.map fun _=>true).all id=true:=by simp
 show fb Ω (.ok (false,.bl ((xs.map fun _=>true).all id)))=_
 rw[this,wX]
theorem el{j k:Nat}{ds es:List D}(h1:Ω[j]?=some (.lst ds))(h2:Ω[k]?=some (.lst es))(hs:ds.length + es.length<=1000):az .Add (.ref j) (.ref k) Ω=.ok (.ref Ω.length) (Ω++[.lst (ds++es)]):=by
 rw[oZ,sr,aM h1,aM h2,sm,if_pos (bc (by omega))]
 rfl
theorem sO{i:Nat}{ix:Int}{f:gY->Str}(hi:ρ[i]?=some (some (.ref k)))(hk:Ω[k]?=some (.lst (ss.map aK)))(hf:∀ s,aA (aK s) (.int ix) Ω=.ok (.str (f s)) Ω)(hl:ss.length<=900) :
  cp (m2 aA (aa 0) (ae (.int ix))) true (ae .non) (cK (aa i)) 0 [] ρ Ω=.ok (.ref Ω.length) (Ω++[.lst ((ss.map f).map .str)]):=by
 have kI:cK (aa i) ρ Ω=.ok (.seq (.ref k)) Ω:=by
  rw[fC,m_,hi,m9,aO];exact cE (by rw[bg,aM hk])
 have hc:=dE (me:=m2 aA (aa 0) (ae (.int ix))) (nc:=true) (mc:=ae .non) (cap:=[]) (ds:=ss.map aK) (p:=fun _=>true) (g:=fun d=>match aA d (.int ix) Ω with | .ok x _=>x | _=>.non) kI (by rw[eI,bg,aM hk]) (fun d hd=>rfl) (fun d hd _=>by
  obtain⟨s,_,rfl⟩:=List.mem_map.mp hd;simp[dR,hf s]) (by simp;omega)
 rw[List.filter_eq_self.mpr (by simp),List.map_map]at hc
 rw[hc,List.map_map]
 congr 4
 refine List.map_congr_left fun s _ => ?_
 simp[hf s]
def LZ(IC:bb):EM:=(cp (mN (aN IC) (U (aa 1) (U (aa 0) ag))) true (ae .non) (cK (aa 1)) 0 [0])
def L4:EM:=(cJ (m2 (ax .Eq) (aa 3) (m2 (az .Add) (br (aa 2) false (ae (.int 1)) true (ae .non)) (br (aa 2) true (ae .non) false (ae (.int 1))))) (m2 (ax .Eq) (m1 (iM eJ) (aa 2)) (mN (aW .len) (U (aa 2) ag))))
def Ad(IC:bb):SM:=
 (aj (cW (fh (m2 (ax .Lt) (mN (aW .len) (U (aa 1) ag)) (ae (.int 2))) (bX (mN (aW .all) (U (LZ IC) ag))))
 (aj (aQ (ae (.bl false)))
 ai)
 ai)
 (aj (aw 2 (cp (m2 aA (aa 0) (ae (.int 0))) true (ae .non) (cK (aa 1)) 0 []))
 (aj (aw 3 (cp (m2 aA (aa 0) (ae (.int 1))) true (ae .non) (cK (aa 1)) 0 []))
 (aj (aQ L4)
 ai))))
def Ae(IR:bb):Prop:=∀ (Ω:aD) (k t:Nat) (js:List Nat) (rs:List (List Str)) (ss:List gY),Rw Ω k js rs->(∀ r∈rs,r.Nodup)->rs.length<=900->dM rs ss->Ω[t]?=some (.lst (ss.map aK))->ss.length<=900->∃ ao,IR [.ref k,.ref t] Ω=.ok (.bl true) ao/\aq [] Ω ao
theorem C3{a0 a1:Option D}{p q:Nat}{n:Str}{R:List Str}(h2:Ω[p]?=some (.lst ((n::R).map .str)))(h3:Ω[q]?=some (.lst ((R++[n]).map .str)))(hn:(n::R).Nodup)(hl:R.length<=900):∃ ao,L4 [a0,a1,some (.ref p),some (.ref q)] Ω=.ok (.bl true) ao/\aq [] Ω ao:=by
 have s1:=qJ h2;have K1:aq [] Ω (Ω++[Cell.lst ((n::R).tail.map .str)]):=aq.app;have g1:(Ω++[Cell.lst ((n::R).tail.map .str)])[Ω.length]?=some (.lst (R.map .str)):=aE;have e1:(br (aa 2) false (ae (.int 1)) true (ae .non)) [a0,a1,some (.ref p),some (.ref q)] Ω=.ok (.ref Ω.length) (Ω++[Cell.lst ((n::R).tail.map .str)]):=by simp[s1]
 generalize Ω++[Cell.lst ((n::R).tail.map .str)]=ah at *;have s2:=xj (K1.get _ _ h2 (by simp))
 have K2:aq [] ah (ah++[Cell.lst (((n::R).take 1).map .str)]):=aq.app;have g2:(ah++[Cell.lst (((n::R).take 1).map .str)])[ah.length]?=some (.lst ([n].map .str)):=aE;have e2:(br (aa 2) true (ae .non) false (ae (.int 1))) [a0,a1,some (.ref p),some (.ref q)] ah=.ok (.ref ah.length) (ah++[Cell.lst (((n::R).take 1).map .str)]):=by simp[s2]
 generalize ah++[Cell.lst (((n::R).take 1).map .str)]=ay at *;have s3:=el (K2.get _ _ g1 (by simp)) g2 (by simp;omega)
 have K3:aq [] ay (ay++[Cell.lst (R.map .str++[n].map .str)]):=aq.app;have g3:(ay++[Cell.lst (R.map .str++[n].map .str)])[ay.length]?=some (.lst ((R++[n]).map .str)):=by rw[List.map_append];exact aE
 have e3:(m2 (az .Add) (br (aa 2) false (ae (.int 1)) true (ae .non)) (br (aa 2) true (ae .non) false (ae (.int 1)))) [a0,a1,some (.ref p),some (.ref q)] Ω=.ok (.ref ay.length) (ay++[Cell.lst (R.map .str++[n].map .str)]):=by
  rw[cF,e1,aO,e2,aO,s3]
 generalize ay++[Cell.lst (R.map .str++[n].map .str)]=aP at *;have K:=(K1.trans K2).trans K3;have h2':=K.get _ _ h2 (by simp)
 have h3':=K.get _ _ h3 (by simp)
 have q1:=sx h3' g3;rw[decide_eq_true rfl]at q1;have hu:=ur hn
 have q2:iM eJ (.ref p) aP=.ok (.int ((n::R).length:Nat)) aP:=by
  have hr:=dB (n:=7) h2';unfold iM;rw[hr]
  have:eJ (L1 (n::R))=.ok (false,.int (unlike (n::R))):=by
   show(match eF ((n::R).map .str) with | some xs=>if xs.length<=1000 then Out.ok (false,D.int (unlike xs)) else .bad | none=>.bad)=_
   rw[lV]
   show(if (n::R).length<=1000 then Out.ok (false,D.int (unlike (n::R))) else Out.bad)=_
   rw[if_pos (by simp;omega)]
  dsimp only;rw[this,hu];rfl
 have q3:=cP h2';rw[List.length_map]at q3;refine⟨aP,?_,K⟩
 have w1:(m2 (ax .Eq) (aa 3) (m2 (az .Add) (br (aa 2) false (ae (.int 1)) true (ae .non)) (br (aa 2) true (ae .non) false (ae (.int 1))))) [a0,a1,some (.ref p),some (.ref q)] Ω=.ok (.bl true) aP:=by
  rw[cF,show aa 3 [a0,a1,some (.ref p),some (.ref q)] Ω=.ok (.ref q) Ω from rfl,aO,e3,aO,q1]
 have w2:(m2 (ax .Eq) (m1 (iM eJ) (aa 2)) (mN (aW .len) (U (aa 2) ag))) [a0,a1,some (.ref p),some (.ref q)] aP=.ok (.bl true) aP:=by
  have:(m1 (iM eJ) (aa 2)) [a0,a1,some (.ref p),some (.ref q)] aP=.ok (.int ((n::R).length:Nat)) aP:=by
   rw[AX,show aa 2 [a0,a1,some (.ref p),some (.ref q)] aP=.ok (.ref p) aP from rfl,aO,q2]
  rw[cF,this,aO];simp[q3]
 unfold L4;rw[jw,w1,aO,dm,sd,w2]
theorem GU{IC:bb}(hI:xE IC):Ae (bu 4 2 (Ad IC)):=by
 intro Ω k t js rs ss R hn hl hr ht hs;rw[bF (by rfl)]
 have e0:aS 4 [D.ref k,.ref t]=[some (.ref k),some (.ref t),none,none]:=rfl;rw[e0];have h2:=hr.two hn;have hlen:=cP ht;rw[List.length_map]at hlen
 have kI:cK (aa 1) [some (.ref k),some (.ref t),none,none] Ω=.ok (.seq (.ref t)) Ω:=by
  rw[fC];exact cE (by rw[bg,aM ht])
 have hc:=dE (me:=mN (aN IC) (U (aa 1) (U (aa 0) ag))) (nc:=true) (mc:=ae .non) (cap:=[0]) (ds:=ss.map aK) (p:=fun _=>true) (g:=fun _=>.bl true) kI (by rw[eI,bg,aM ht]) (fun d hd=>rfl) (fun d hd _=>by
  obtain⟨s,hs,rfl⟩:=List.mem_map.mp hd;have:=hI Ω k js rs s R hn hl (hr.ux s hs);simp[dR,this]) (by simp;omega)
 rw[List.filter_eq_self.mpr (by simp),List.map_map]at hc
 have hc:LZ IC [some (.ref k),some (.ref t),none,none] Ω=.ok (.ref Ω.length) (Ω++[Cell.lst (ss.map ((fun _=>D.bl true) ∘ aK))]):=hc
 have K1:aq [] Ω (Ω++[Cell.lst (ss.map ((fun _=>D.bl true) ∘ aK))]):=aq.app
 have g1:(Ω++[Cell.lst (ss.map ((fun _=>D.bl true) ∘ aK))])[Ω.length]?=some (.lst (ss.map fun _=>.bl true)):=aE
 generalize Ω++[Cell.lst (ss.map ((fun _=>D.bl true) ∘ aK))]=ah at *
 have ha:=C1 g1;have ht1:=K1.get _ _ ht (by simp)
 have b1:(cW (fh (m2 (ax .Lt) (mN (aW .len) (U (aa 1) ag)) (ae (.int 2))) (bX (mN (aW .all) (U (LZ IC) ag)))) (aj (aQ (ae (.bl false))) ai) ai) [some (.ref k),some (.ref t),none,none] Ω=.nx [some (.ref k),some (.ref t),none,none] ah:=by
  have q1:(m2 (ax .Lt) (mN (aW .len) (U (aa 1) ag)) (ae (.int 2))) [some (.ref k),some (.ref t),none,none] Ω=.ok (.bl false) Ω:=by
   simp[hlen];omega
  rw[fB,ng,q1,aO,dm,sg,sh,AY,c8,hc,aO,jv,aO,aO,ha];rfl
 have c1:=sO (ρ:=[some (.ref k),some (.ref t),none,none]) (i:=1) (ix:=0) (f:=fun s=>s.1) rfl ht1 (fun s=>ek (L2.bf (j:=0) rfl)) hs
 have K2:aq [] ah (ah++[Cell.lst ((ss.map fun s=>s.1).map .str)]):=aq.app
 have g2:(ah++[Cell.lst ((ss.map fun s=>s.1).map .str)])[ah.length]?=some (.lst ((ss.map fun s=>s.1).map .str)):=aE
 have b2:(aw 2 (cp (m2 aA (aa 0) (ae (.int 0))) true (ae .non) (cK (aa 1)) 0 [])) [some (.ref k),some (.ref t),none,none] ah=.nx [some (.ref k),some (.ref t),some (.ref ah.length),none] (ah++[Cell.lst ((ss.map fun s=>s.1).map .str)]):=by rw[cB,c1];rfl
 generalize ah++[Cell.lst ((ss.map fun s=>s.1).map .str)]=ay at *
 have QV:=K2.get _ _ ht1 (by simp)
 have c2:=sO (ρ:=[some (.ref k),some (.ref t),some (.ref ah.length),none]) (i:=1) (ix:=1) (f:=fun s=>s.2.1) rfl QV (fun s=>ek (L2.bf (j:=1) rfl)) hs
 have K3:aq [] ay (ay++[Cell.lst ((ss.map fun s=>s.2.1).map .str)]):=aq.app
 have g3:(ay++[Cell.lst ((ss.map fun s=>s.2.1).map .str)])[ay.length]?=some (.lst ((ss.map fun s=>s.2.1).map .str)):=aE
 have b3:(aw 3 (cp (m2 aA (aa 0) (ae (.int 1))) true (ae .non) (cK (aa 1)) 0 [])) [some (.ref k),some (.ref t),some (.ref ah.length),none] ay=.nx [some (.ref k),some (.ref t),some (.ref ah.length),some (.ref ay.length)] (ay++[Cell.lst ((ss.map fun s=>s.2.1).map .str)]):=by rw[cB,c2];rfl
 generalize ay++[Cell.lst ((ss.map fun s=>s.2.1).map .str)]=aP at *
 have Oz:=K3.get _ _ g2 (by simp)
 obtain⟨n,R,x1,x2,x3⟩:=hr.ex;rw[x1]at Oz;rw[x2]at g3
 have hR:R.length<=900:=by
  have:=congrArg List.length x1;simp at this;omega
 obtain⟨er,e4,K4⟩:=C3 (a0:=some (.ref k)) (a1:=some (.ref t)) Oz g3 x3 hR;refine⟨er,?_,((K1.trans K2).trans K3).trans K4⟩;unfold Ad;rw[ak,b1,aI,ak,b2,aI,ak,b3,aI,ak,dn,e4];rfl
end
section
variable{Ω ao:aD}{ρ:aU}{k:Nat}{js:List Nat}{rs:List (List Str)}{ss:List gY}
def kE:EM:=m2 aA (aa 1) (aa 3)
def xS:EM:=m2 aA kE (ae (.int 0))
def L5(LC:bb):SM:=
 (aj (cW (fh (bX (mN (aN LC) (U (aa 0) (U kE ag)))) (m2 (ax .In) xS (aa 2)))
 (aj (aQ (ae (.bl false)))
 ai)
 ai)
 (aj (cW (cJ (m2 (ax .Gt) (aa 3) (ae (.int 0))) (m2 (ax .NotEq) (m2 aA (m2 aA (aa 1) (m2 (az .Sub) (aa 3) (ae (.int 1)))) (ae (.int 1))) xS))
 (aj (aQ (ae (.bl false)))
 ai)
 ai)
 (aj (eh (bP fL bB (aa 2) (U xS ag)))
 ai)))
def C4(LC:bb):SM:=
 (aj (cW (fh (bX (m1 (bG .list) (aa 1))) (m2 (ax .Lt) (mN (aW .len) (U (aa 1) ag)) (ae (.int 2))))
 (aj (aQ (ae (.bl false)))
 ai)
 ai)
 (aj (aw 2 (mN cm ag))
 (aj (c_ (bY 3) (bz (U (mN (aW .len) (U (aa 1) ag)) ag)) (L5 LC))
 (aj (aQ (m2 (ax .Eq) (m2 aA (m2 aA (aa 1) (m1 qv (ae (.int 1)))) (ae (.int 1))) (m2 aA (m2 aA (aa 1) (ae (.int 0))) (ae (.int 0)))))
 ai))))
theorem qM{t i:Nat}{s:gY}(ht:Ω[t]?=some (.lst (ss.map aK)))(hs:ss[i]?=some s):aA (.ref t) (.int i) Ω=.ok (aK s) Ω:=bq ht (L2.bf (by rw[List.getElem?_map,hs];rfl))
theorem GV{s:gY}:aA (aK s) (.int 0) Ω=.ok (.str s.1) Ω:=ek (L2.bf (j:=0) rfl)
theorem GW{s:gY}:aA (aK s) (.int 1) Ω=.ok (.str s.2.1) Ω:=ek (L2.bf (j:=1) rfl)
theorem dM.link(h:dM rs ss){i:Nat}{s s':gY}(e:ss[i]?=some s)(e':ss[i + 1]?=some s'):s.2.1=s'.1:=by
 obtain⟨n,R,h1,h2,_⟩:=h.ex;have a1:(ss.map (·.2.1))[i]?=some s.2.1:=by rw[List.getElem?_map,e];rfl
 have a2:(ss.map (·.1))[i + 1]?=some s'.1:=by rw[List.getElem?_map,e'];rfl
 rw[h2]at a1;rw[h1,List.getElem?_cons_succ]at a2;rw[List.getElem?_append_left (List.getElem?_eq_some_iff.mp a2).1,a2]at a1;exact(Option.some.inj a1).symm
theorem dM.ends(h:dM rs ss):∃ l s0 r,ss=l++[r]/\ss[0]?=some s0/\r.2.1=s0.1:=by
 obtain⟨n,R,h1,h2,_⟩:=h.ex;cases ss with
 | nil=>simp at h1
 | cons s0 ss'=>
  obtain⟨l,r,e⟩:∃ l r,s0::ss'=l++[r]:=⟨_,_,(List.dropLast_concat_getLast (l:=s0::ss') (by simp)).symm⟩
  refine⟨l,s0,r,e,rfl,?_⟩;have a:s0.1=n:=by simp at h1;exact h1.1
  rw[e,List.map_append]at h2;have:=List.append_inj_right' h2 (by simp)
  simp at this;rw[this,a]
theorem C5{LC:bb}(hL:xE LC){t q i:Nat}{s:gY}(R:Rw Ω k js rs)(hn:∀ r∈rs,r.Nodup)(hl:rs.length<=900)(hr:dM rs ss)(ht:Ω[t]?=some (.lst (ss.map aK)))(hs:ss[i]?=some s)(hsl:ss.length<=900)
  (hq:Ω[q]?=some (.lst (((ss.take i).map fun s=>s.1).map .str))) :
  L5 LC [some (.ref k),some (.ref t),some (.ref q),some (.int i)] Ω=.nx [some (.ref k),some (.ref t),some (.ref q),some (.int i)] (Ω.set q (.lst (((ss.take (i + 1)).map fun s=>s.1).map .str))):=by
 have hlt:=(List.getElem?_eq_some_iff.mp hs).1;have e1:=qM ht hs;have kk:kE [some (.ref k),some (.ref t),some (.ref q),some (.int i)] Ω=.ok (aK s) Ω:=by simp[kE,e1]
 have k0:xS [some (.ref k),some (.ref t),some (.ref q),some (.int i)] Ω=.ok (.str s.1) Ω:=by
  unfold xS;rw[cF,kk,aO]
  show av.bind (ae (.int 0) _ Ω) _=_
  rw[show ae (D.int 0) [some (.ref k),some (.ref t),some (.ref q),some (.int i)] Ω=.ok (.int 0) Ω from rfl,aO,GV]
 have cl:=hL Ω k js rs s R hn hl (hr.ux s (List.mem_of_getElem? hs));have jK:ss.take (i + 1)=ss.take i++[s]:=by rw[List.take_succ,hs];rfl
 have L6:s.1∉(ss.take i).map fun s=>s.1:=fun hm=>by
  obtain⟨n,R',h1,_,h3⟩:=hr.ex;rw[← h1]at h3;have:((ss.take (i + 1)).map fun s=>s.1).Nodup:=h3.sublist ((List.take_sublist _ _).map _)
  rw[jK,List.map_append]at this;obtain⟨_,_,z⟩:=List.nodup_append.mp this;exact z _ hm _ (by simp) rfl
 have hin:=nv (w:=s.1) hq;rw[decide_eq_false L6]at hin
 have b1:(cW (fh (bX (mN (aN LC) (U (aa 0) (U kE ag)))) (m2 (ax .In) xS (aa 2))) (aj (aQ (ae (.bl false))) ai) ai) [some (.ref k),some (.ref t),some (.ref q),some (.int i)] Ω=.nx [some (.ref k),some (.ref t),some (.ref q),some (.int i)] Ω:=by
  have w1:(bX (mN (aN LC) (U (aa 0) (U kE ag)))) [some (.ref k),some (.ref t),some (.ref q),some (.int i)] Ω=.ok (.bl false) Ω:=by simp[kk,cl]
  have w2:(m2 (ax .In) xS (aa 2)) [some (.ref k),some (.ref t),some (.ref q),some (.int i)] Ω=.ok (.bl false) Ω:=by
   rw[cF,k0,aO,show aa 2 [some (.ref k),some (.ref t),some (.ref q),some (.int i)] Ω=.ok (.ref q) Ω from rfl,aO,hin]
  rw[fB,ng,w1,aO,dm,sg,w2];rfl
 have b2:(cW (cJ (m2 (ax .Gt) (aa 3) (ae (.int 0))) (m2 (ax .NotEq) (m2 aA (m2 aA (aa 1) (m2 (az .Sub) (aa 3) (ae (.int 1)))) (ae (.int 1))) xS)) (aj (aQ (ae (.bl false))) ai) ai) [some (.ref k),some (.ref t),some (.ref q),some (.int i)] Ω=.nx [some (.ref k),some (.ref t),some (.ref q),some (.int i)] Ω:=by
  cases i with
  | zero=>simp
  | succ i=>
   have hlt':i < ss.length:=by omega
   have hs':ss[i]?=some ss[i]:=List.getElem?_eq_getElem hlt';have lk:=hr.link hs' hs
   have w1:(m2 (ax .Gt) (aa 3) (ae (.int 0))) [some (.ref k),some (.ref t),some (.ref q),some (.int (i + 1:Nat))] Ω=.ok (.bl true) Ω:=by
    simp
   have w2:(m2 aA (m2 aA (aa 1) (m2 (az .Sub) (aa 3) (ae (.int 1)))) (ae (.int 1))) [some (.ref k),some (.ref t),some (.ref q),some (.int (i + 1:Nat))] Ω=.ok (.str ss[i].2.1) Ω:=by
    have e2:aA (.ref t) (.int (i:Int)) Ω=.ok (aK ss[i]) Ω:=qM ht hs';simp[e2,GW]
   have w3:(m2 (ax .NotEq) (m2 aA (m2 aA (aa 1) (m2 (az .Sub) (aa 3) (ae (.int 1)))) (ae (.int 1))) xS) [some (.ref k),some (.ref t),some (.ref q),some (.int (i + 1:Nat))] Ω=.ok (.bl false) Ω:=by
    rw[cF,w2,aO,k0,aO,lk];simp
   rw[fB,jw,w1,aO,dm,sd,w3];rfl
 have ap:=dh (d:=.str s.1) hq (by simp;omega)
 have iL:=dq hq;have L7:((ss.take i).map fun s=>s.1).map D.str++[.str s.1]=((ss.take (i + 1)).map fun s=>s.1).map .str:=by rw[jK];simp
 have b3:(eh (bP fL bB (aa 2) (U xS ag))) [some (.ref k),some (.ref t),some (.ref q),some (.int i)] Ω=.nx [some (.ref k),some (.ref t),some (.ref q),some (.int i)] (Ω.set q (.lst (((ss.take (i + 1)).map fun s=>s.1).map .str))):=by
  rw[fA,dI (x:=.ref q) (ao:=Ω) (by simp) iL,c8,k0]
  rw[← L7];simp[ap]
 unfold L5;rw[ak,b1,aI,ak,b2,aI,ak,b3];rfl
theorem GX{LC:bb}(hL:xE LC):Ae (bu 4 2 (C4 LC)):=by
 intro Ω k t js rs ss R hn hl hr ht hs;rw[bF (by rfl)]
 have e0:aS 4 [D.ref k,.ref t]=[some (.ref k),some (.ref t),none,none]:=rfl;rw[e0];have h2:=hr.two hn;have hlen:=cP ht;rw[List.length_map]at hlen;have hi:bG .list (.ref t) Ω=.ok (.bl true) Ω:=sJ (t:=.list) ht
 have b1:(cW (fh (bX (m1 (bG .list) (aa 1))) (m2 (ax .Lt) (mN (aW .len) (U (aa 1) ag)) (ae (.int 2)))) (aj (aQ (ae (.bl false))) ai) ai) [some (.ref k),some (.ref t),none,none] Ω=.nx [some (.ref k),some (.ref t),none,none] Ω:=by
  have q1:(m2 (ax .Lt) (mN (aW .len) (U (aa 1) ag)) (ae (.int 2))) [some (.ref k),some (.ref t),none,none] Ω=.ok (.bl false) Ω:=by
   simp[hlen];omega
  have q0:(bX (m1 (bG .list) (aa 1))) [some (.ref k),some (.ref t),none,none] Ω=.ok (.bl false) Ω:=by simp[hi]
  rw[fB,ng,q0,aO,dm,sg,q1];rfl
 have b2:(aw 2 (mN cm ag)) [some (.ref k),some (.ref t),none,none] Ω=.nx [some (.ref k),some (.ref t),some (.ref Ω.length),none] (Ω++[Cell.lst []]):=by simp[bc]
 have K2:aq [] Ω (Ω++[Cell.lst []]):=aq.app;have g2:(Ω++[Cell.lst []])[Ω.length]?=some (.lst (((ss.take 0).map fun s=>s.1).map .str)):=aE
 have lk:=dg R.ce;have lj:=R.al.lt;have lt:=dg ht;generalize hQ:Ω.length=q at *;generalize Ω++[Cell.lst []]=ah at *;have ht1:=K2.get _ _ ht (by simp)
 have A3:=cP ht1;rw[List.length_map]at A3;have hin:gx (ss.length:Int)=true:=dj (by omega) (by omega)
 have kI:(bz (U (mN (aW .len) (U (aa 1) ag)) ag)) [some (.ref k),some (.ref t),some (.ref q),none] ah=.ok (.ints 0 ss.length) ah:=by simp[A3,hin]
 unfold C4;rw[ak,b1,aI,ak,b2,aI,ak,fD,kI,gM];refine dC (R:=fun r=>∃ ao,fy (sq r _)=.ok (.bl true) ao/\aq [] Ω ao) (ds:=intsFrom 0 ss.length) (fun i ρ aP=>∃ a3,ρ=[some (.ref k),some (.ref t),some (.ref q),a3]/\aq [q] ah aP/\aP[q]?=some (.lst (((ss.take i).map fun s=>s.1).map .str))) (fun _ _ _ _=>rfl) ?_ ?_ fuel 0 _ _ (by rw[bS];unfold fuel;omega) (Nat.zero_le _) ⟨none,rfl,aq.refl,g2⟩
 ·rintro i d ρ aP hd ⟨a3,rfl,K3,g3⟩
  obtain⟨rfl,hlt⟩:=dk hd;rw[show(0:Int) + (i:Int)=(i:Int) by omega]
  refine⟨[some (.ref k),some (.ref t),some (.ref q),some (.int i)],rfl,?_⟩;have K:=K2.trans (fp:=[]) aq.refl;have R3:Rw aP k js rs:=(R.keep K2).lS K3 (by simp;omega) (fun j hj h=>by have:=lj j hj;simp at h;omega)
  have Ju:=K3.get _ _ ht1 (by simp;omega)
  rw[C5 hL R3 hn hl hr Ju (List.getElem?_eq_getElem hlt) hs g3];refine⟨_,rfl,K3.trans (aq.set (by simp)),?_⟩
  rw[cR g3]
 ·rintro ρ aP ⟨a3,rfl,K3,g3⟩
  have Ju:=K3.get _ _ ht1 (by simp;omega)
  obtain⟨l,s0,r,e,z0,zr⟩:=hr.ends;have w1:aA (.ref t) (.int (-1)) aP=.ok (aK r) aP:=bq Ju (by rw[e,List.map_append];exact L2.n4 _ _)
  have w2:aA (.ref t) (.int 0) aP=.ok (aK s0) aP:=qM (i:=0) Ju z0;have hng:qv (.int 1) aP=.ok (.int (-1)) aP:=rfl;refine⟨aP,?_,aq.new K2 K3 (by simp;omega)⟩
  have v1:(m2 aA (m2 aA (aa 1) (m1 qv (ae (.int 1)))) (ae (.int 1))) [some (.ref k),some (.ref t),some (.ref q),a3] aP=.ok (.str r.2.1) aP:=by simp[hng,w1,GW]
  have v2:(m2 aA (m2 aA (aa 1) (ae (.int 0))) (ae (.int 0))) [some (.ref k),some (.ref t),some (.ref q),a3] aP=.ok (.str s0.1) aP:=by simp[w2,GV]
  have v3:(m2 (ax .Eq) (m2 aA (m2 aA (aa 1) (m1 qv (ae (.int 1)))) (ae (.int 1))) (m2 aA (m2 aA (aa 1) (ae (.int 0))) (ae (.int 0)))) [some (.ref k),some (.ref t),some (.ref q),a3] aP=.ok (.bl true) aP:=by
   rw[cF,v1,aO,v2,aO,zr];simp
  rw[aI,ak,dn,v3];rfl
end
section
variable{Ω ao:aD}{ρ:aU}{k:Nat}{js:List Nat}{rs:List (List Str)}{row:List Str}{μ:Int->Int->Int->Int}{F:List D->Out Rs}
theorem xF{a b:Nat}(h:Ω[k]?=some (.lst (row.map .str))):ey (.ref k) (some (a:Int)) (some (b:Int)) Ω=.ok (.ref Ω.length) (Ω++[.lst (((row.drop a).take (b - a)).map .str)]):=by
 simp only[ey,aM h,dS,vX,List.map_take,List.map_drop]
def L8:EM:=(cp (aa 0) false (m2 (ax .NotIn) (aa 0) (mN ik (U (aa 1) (U (aa 2) ag)))) (cK (aa 3)) 0 [1,2])
def Jv:EM:=(m2 (az .Add) (m2 (az .Add) (br (aa 4) true (ae .non) false (aa 5)) (mN cm (U (aa 1) ag))) (br (aa 4) false (aa 5) false (aa 6)))
def L9:EM:=(m2 (az .Add) (m2 (az .Add) (aa 8) (mN cm (U (aa 2) ag))) (br (aa 4) false (aa 6) false (aa 7)))
def C6(F:List D->Out Rs)(SH:bb):SM:=
 (aj (aw 4 (mN (aN SH) (U (aa 0) (U (ae (.int 10)) (U L8 ag)))))
 (aj (aw 5 (mN (aV F) (U (aa 0) (U (ae (.int 0)) (U (ae (.int 3)) ag)))))
 (aj (aw 6 (m2 (az .Add) (aa 5) (mN (aV F) (U (aa 0) (U (ae (.int 1)) (U (ae (.int 3)) ag))))))
 (aj (aw 7 (m2 (az .Add) (aa 6) (mN (aV F) (U (aa 0) (U (ae (.int 2)) (U (ae (.int 3)) ag))))))
 (aj (aw 8 Jv)
 (aj (aQ L9)
 ai))))))
def D8(a b:Str)(r:List Str):Prop:=∃ u t,r=u++a::t/\b∈t
def GY(W:bb):Prop:=∀ (Ω:aD) (c:Int) (a b:Str) (x:Nat) (xs:List Str),xs.Nodup->xs.length<=24->Ω[x]?=some (.lst (xs.map .str))->a≠b->∃ (r:List Str) (q:Nat) (ao:aD),W [.int c,.str a,.str b,.ref x] Ω=.ok (.ref q) ao/\ao[q]?=some (.lst (r.map .str))/\r.Nodup/\r.length<=26/\D8 a b r/\aq [] Ω ao
theorem Af{x a b:Str}:ax .NotIn (.str x) (.tup [.str a,.str b]) Ω=.ok (.bl (decide (x∉[a,b]))) Ω:=by
 have hr:eR Ω 8 (D.tup [.str a,.str b])=some (.tup [.str a,.str b]):=rfl
 have hi:inD (.str x) (.tup [.str a,.str b])=.ok (decide (x∈[a,b])):=by
  have:inD (.str x) (.tup [.str a,.str b])=.ok ([D.str a,.str b].any fun y=>dJ y (.str x)):=rfl
  rw[this]
  by_cases h1:a=x
  ·subst h1;simp
  ·by_cases h2:b=x
   ·subst h2;simp
   ·have h3:x∉[a,b]:=by simp;exact⟨Ne.symm h1,Ne.symm h2⟩
    rw[decide_eq_false h3];simp[h1,h2]
 simp[hr,hi]
theorem GZ{SH:bb}(hμ:ef μ F)(hS:uk SH):GY (bu 9 4 (C6 F SH)):=by
 intro Ω c a b x xs hn hl hx hab;rw[bF (by rfl)]
 have e0:aS 9 [D.int c,.str a,.str b,.ref x]=[some (.int c),some (.str a),some (.str b),some (.ref x),none,none,none,none,none]:=rfl;rw[e0]
 have kI:cK (aa 3) [some (.int c),some (.str a),some (.str b),some (.ref x),none,none,none,none,none] Ω=.ok (.seq (.ref x)) Ω:=by
  rw[fC];exact cE (by rw[bg,aM hx])
 have hc:=dE (me:=aa 0) (nc:=false) (mc:=m2 (ax .NotIn) (aa 0) (mN ik (U (aa 1) (U (aa 2) ag)))) (cap:=[1,2]) (ds:=xs.map .str) (p:=fun d=>match d with | .str z=>decide (z∉[a,b]) | _=>false) (g:=fun d=>d) kI (by rw[eI,bg,aM hx]) (fun d hd=>by
  obtain⟨z,_,rfl⟩:=List.mem_map.mp hd;have:=Af (Ω:=Ω) (x:=z) (a:=a) (b:=b)
  have e:(m2 (ax .NotIn) (aa 0) (mN ik (U (aa 1) (U (aa 2) ag)))) [some (.str z),some (.str a),some (.str b)] Ω=.ok (.bl (decide (z∉[a,b]))) Ω:=by
   simp only[cF,show aa 0 [some (D.str z),some (.str a),some (.str b)] Ω=.ok (.str z) Ω from rfl,aO,show(mN ik (U (aa 1) (U (aa 2) ag))) [some (D.str z),some (.str a),some (.str b)] Ω=.ok (.tup [.str a,.str b]) Ω from rfl]
   exact this
  show iN false (m2 (ax .NotIn) (aa 0) (mN ik (U (aa 1) (U (aa 2) ag)))) [some (.str z),some (.str a),some (.str b)] Ω=_
  unfold iN;rw[if_neg (by decide),e]
  rfl) (fun d hd _=>rfl) (by simp;omega)
 rw[List.map_id']at hc
 have hfl:((xs.map D.str).filter fun d=>match d with | .str z=>decide (z∉[a,b]) | _=>false)=(xs.filter fun z=>decide (z∉[a,b])).map .str:=by
  rw[List.filter_map];rfl
 rw[hfl]at hc;have hc:L8 [some (.int c),some (.str a),some (.str b),some (.ref x),none,none,none,none,none] Ω=.ok (.ref Ω.length) (Ω++[Cell.lst ((xs.filter fun z=>decide (z∉[a,b])).map .str)]):=hc
 have K1:aq [] Ω (Ω++[Cell.lst ((xs.filter fun z=>decide (z∉[a,b])).map .str)]):=aq.app
 have g1:(Ω++[Cell.lst ((xs.filter fun z=>decide (z∉[a,b])).map .str)])[Ω.length]?=some (.lst ((xs.filter fun z=>decide (z∉[a,b])).map .str)):=aE
 generalize Ω++[Cell.lst ((xs.filter fun z=>decide (z∉[a,b])).map .str)]=ah at *
 have QW:(xs.filter fun z=>decide (z∉[a,b])).length<=24:=Nat.le_trans (List.length_filter_le _ _) hl
 obtain⟨ys,q2,ay,hp,e2,g2,K2⟩:=hS ah c 10 Ω.length (xs.filter fun z=>decide (z∉[a,b])) (by omega) (by omega) (by omega) g1
 have L_:ys.Nodup:=hp.nodup_iff.mpr (hn.sublist List.filter_sublist);have hyl:ys.length<=24:=by rw[hp.length_eq];exact QW
 have QX:a∉ys:=fun h=>by
  have:=(List.mem_filter.mp (hp.mem_iff.mp h)).2;simp at this
 have QY:b∉ys:=fun h=>by
  have:=(List.mem_filter.mp (hp.mem_iff.mp h)).2;simp at this
 have b1:(aw 4 (mN (aN SH) (U (aa 0) (U (ae (.int 10)) (U L8 ag))))) [some (.int c),some (.str a),some (.str b),some (.ref x),none,none,none,none,none] Ω=.nx [some (.int c),some (.str a),some (.str b),some (.ref x),some (.ref q2),none,none,none,none] ay:=by
  simp[hc,e2]
 obtain⟨m0,m1,hm⟩:=hμ c 0 3 (by omega) (by omega) (by omega)
 obtain⟨n0,n1,hN⟩:=hμ c 1 3 (by omega) (by omega) (by omega)
 obtain⟨p0,p1,hP⟩:=hμ c 2 3 (by omega) (by omega) (by omega)
 generalize μ c 0 3=A at *;generalize μ c 1 3=B at *;generalize μ c 2 3=C at *;obtain⟨A,rfl⟩:=Int.eq_ofNat_of_zero_le m0;obtain⟨B,rfl⟩:=Int.eq_ofNat_of_zero_le n0;obtain⟨C,rfl⟩:=Int.eq_ofNat_of_zero_le p0;have b2:(aw 5 (mN (aV F) (U (aa 0) (U (ae (.int 0)) (U (ae (.int 3)) ag))))) [some (.int c),some (.str a),some (.str b),some (.ref x),some (.ref q2),none,none,none,none] ay=.nx [some (.int c),some (.str a),some (.str b),some (.ref x),some (.ref q2),some (.int A),none,none,none] ay:=by simp[hm]
 have b3:(aw 6 (m2 (az .Add) (aa 5) (mN (aV F) (U (aa 0) (U (ae (.int 1)) (U (ae (.int 3)) ag)))))) [some (.int c),some (.str a),some (.str b),some (.ref x),some (.ref q2),some (.int A),none,none,none] ay=.nx [some (.int c),some (.str a),some (.str b),some (.ref x),some (.ref q2),some (.int A),some (.int (A + B:Nat)),none,none] ay:=by simp[hN]
 have b4:(aw 7 (m2 (az .Add) (aa 6) (mN (aV F) (U (aa 0) (U (ae (.int 2)) (U (ae (.int 3)) ag)))))) [some (.int c),some (.str a),some (.str b),some (.ref x),some (.ref q2),some (.int A),some (.int (A + B:Nat)),none,none] ay=.nx [some (.int c),some (.str a),some (.str b),some (.ref x),some (.ref q2),some (.int A),some (.int (A + B:Nat)),some (.int (A + B + C:Nat)),none] ay:=by simp[hP]
 have s1:=nB (n:=A) g2;have w1:aq [] ay (ay++[Cell.lst ((ys.take A).map .str)]):=aq.app;have v1:(ay++[Cell.lst ((ys.take A).map .str)])[ay.length]?=some (.lst ((ys.take A).map .str)):=aE;have x1:∀ a8:Option D,(br (aa 4) true (ae .non) false (aa 5)) [some (.int c),some (.str a),some (.str b),some (.ref x),some (.ref q2),some (.int A),some (.int (A + B:Nat)),some (.int (A + B + C:Nat)),a8] ay=.ok (.ref ay.length) (ay++[Cell.lst ((ys.take A).map .str)]):=fun a8=>by simp[s1]
 generalize ay++[Cell.lst ((ys.take A).map .str)]=aP at *;have w2:aq [] aP (aP++[Cell.lst [.str a]]):=aq.app;have v2:(aP++[Cell.lst [.str a]])[aP.length]?=some (.lst ([a].map .str)):=aE;have x2:∀ ρ:aU,ρ[1]?=some (some (.str a))->(mN cm (U (aa 1) ag)) ρ aP=.ok (.ref aP.length) (aP++[Cell.lst [.str a]]):=fun ρ h=>by simp[h,bc]
 generalize aP++[Cell.lst [.str a]]=er at *;have s3:=el (w2.get _ _ v1 (by simp)) v2 (by simp;omega)
 rw[← List.map_append]at s3;have w3:aq [] er (er++[Cell.lst ((ys.take A++[a]).map .str)]):=aq.app;have v3:(er++[Cell.lst ((ys.take A++[a]).map .str)])[er.length]?=some (.lst ((ys.take A++[a]).map .str)):=aE;generalize er++[Cell.lst ((ys.take A++[a]).map .str)]=lT at *;have W5:=(w1.trans w2).trans w3;have s4:=xF (a:=A) (b:=A + B) (W5.get _ _ g2 (by simp))
 have w4:aq [] lT (lT++[Cell.lst (((ys.drop A).take (A + B - A)).map .str)]):=aq.app;have v4:(lT++[Cell.lst (((ys.drop A).take (A + B - A)).map .str)])[lT.length]?=some (.lst (((ys.drop A).take (A + B - A)).map .str)):=aE;have x4:(br (aa 4) false (aa 5) false (aa 6)) [some (.int c),some (.str a),some (.str b),some (.ref x),some (.ref q2),some (.int A),some (.int (A + B:Nat)),some (.int (A + B + C:Nat)),none] lT=.ok (.ref lT.length) (lT++[Cell.lst (((ys.drop A).take (A + B - A)).map .str)]):=by simp[s4,-Int.natCast_add]
 generalize lT++[Cell.lst (((ys.drop A).take (A + B - A)).map .str)]=pB at *;have s5:=el (w4.get _ _ v3 (by simp)) v4 (by simp;omega)
 rw[← List.map_append]at s5;generalize hr1:ys.take A++[a]++(ys.drop A).take (A + B - A)=r1 at *;have w5:aq [] pB (pB++[Cell.lst (r1.map .str)]):=aq.app;have v5:(pB++[Cell.lst (r1.map .str)])[pB.length]?=some (.lst (r1.map .str)):=aE
 have b5:(aw 8 Jv) [some (.int c),some (.str a),some (.str b),some (.ref x),some (.ref q2),some (.int A),some (.int (A + B:Nat)),some (.int (A + B + C:Nat)),none] ay=.nx [some (.int c),some (.str a),some (.str b),some (.ref x),some (.ref q2),some (.int A),some (.int (A + B:Nat)),some (.int (A + B + C:Nat)),some (.ref pB.length)] (pB++[Cell.lst (r1.map .str)]):=by
  have:Jv [some (.int c),some (.str a),some (.str b),some (.ref x),some (.ref q2),some (.int A),some (.int (A + B:Nat)),some (.int (A + B + C:Nat)),none] ay=.ok (.ref pB.length) (pB++[Cell.lst (r1.map .str)]):=by
   unfold Jv;rw[cF,cF,x1,aO,x2 _ rfl,aO,s3,aO,x4,aO,s5]
  rw[cB,this];rfl
 generalize Td:pB.length=q8 at *;generalize pB++[Cell.lst (r1.map .str)]=kK at *;have w6:aq [] kK (kK++[Cell.lst [.str b]]):=aq.app;have v6:(kK++[Cell.lst [.str b]])[kK.length]?=some (.lst ([b].map .str)):=aE;have x6:∀ ρ:aU,ρ[2]?=some (some (.str b))->(mN cm (U (aa 2) ag)) ρ kK=.ok (.ref kK.length) (kK++[Cell.lst [.str b]]):=fun ρ h=>by simp[h,bc]
 generalize kK++[Cell.lst [.str b]]=xT at *
 have QZ:r1.length<=25:=by
  rw[← hr1];simp;omega
 have s7:=el (w6.get _ _ v5 (by simp)) v6 (by simp;omega)
 rw[← List.map_append]at s7;have w7:aq [] xT (xT++[Cell.lst ((r1++[b]).map .str)]):=aq.app;have v7:(xT++[Cell.lst ((r1++[b]).map .str)])[xT.length]?=some (.lst ((r1++[b]).map .str)):=aE;generalize xT++[Cell.lst ((r1++[b]).map .str)]=lW at *;have W9:=(((W5.trans w4).trans w5).trans w6).trans w7;have s8:=xF (a:=A + B) (b:=A + B + C) (W9.get _ _ g2 (by simp))
 have w8:aq [] lW (lW++[Cell.lst (((ys.drop (A + B)).take (A + B + C - (A + B))).map .str)]):=aq.app;have v8:(lW++[Cell.lst (((ys.drop (A + B)).take (A + B + C - (A + B))).map .str)])[lW.length]?=some (.lst (((ys.drop (A + B)).take (A + B + C - (A + B))).map .str)):=aE;have x8:(br (aa 4) false (aa 6) false (aa 7)) [some (.int c),some (.str a),some (.str b),some (.ref x),some (.ref q2),some (.int A),some (.int (A + B:Nat)),some (.int (A + B + C:Nat)),some (.ref q8)] lW=.ok (.ref lW.length) (lW++[Cell.lst (((ys.drop (A + B)).take (A + B + C - (A + B))).map .str)]):=by simp[s8,-Int.natCast_add]
 generalize lW++[Cell.lst (((ys.drop (A + B)).take (A + B + C - (A + B))).map .str)]=Ag at *;have s9:=el (w8.get _ _ v7 (by simp)) v8 (by simp;omega)
 rw[← List.map_append]at s9
 have fin:L9 [some (.int c),some (.str a),some (.str b),some (.ref x),some (.ref q2),some (.int A),some (.int (A + B:Nat)),some (.int (A + B + C:Nat)),some (.ref q8)] kK=.ok (.ref Ag.length) (Ag++[Cell.lst ((r1++[b]++(ys.drop (A + B)).take (A + B + C - (A + B))).map .str)]):=by
  unfold L9;rw[cF,cF,show aa 8 [some (.int c),some (.str a),some (.str b),some (.ref x),some (.ref q2),some (.int A),some (.int (A + B:Nat)),some (.int (A + B + C:Nat)),some (.ref q8)] kK=.ok (.ref q8) kK from rfl,aO,x6 _ rfl,aO,s7,aO,x8,aO,s9]
 have e1':A + B - A=B:=by omega
 have e2':A + B + C - (A + B)=C:=by omega
 rw[e1']at hr1;rw[e2']at fin v8
 have hsplit:ys.take A++(ys.drop A).take B++(ys.drop (A + B)).take C=ys.take (A + B + C):=by
  rw[List.take_add,List.take_add]
 have hnd:(ys.take A++(ys.drop A).take B++(ys.drop (A + B)).take C).Nodup:=by rw[hsplit];exact L_.sublist (List.take_sublist _ _)
 have hsub:∀ z∈ys.take A++(ys.drop A).take B++(ys.drop (A + B)).take C,z∈ys:=fun z hz=>by rw[hsplit]at hz;exact List.mem_of_mem_take hz
 refine⟨r1++[b]++(ys.drop (A + B)).take C,Ag.length,Ag++[Cell.lst ((r1++[b]++(ys.drop (A + B)).take C).map .str)],?_,aE,?_,?_,?_,?_⟩
 ·unfold C6
  rw[ak,b1,aI,ak,b2,aI,ak,b3,aI,ak,b4,aI,ak,b5,aI,ak,dn,fin];rfl
 ·rw[← hr1]
  have p:(ys.take A++[a]++(ys.drop A).take B++[b]++(ys.drop (A + B)).take C).Perm (a::b::(ys.take A++(ys.drop A).take B++(ys.drop (A + B)).take C)):=by
   have h1:(ys.take A++[a]++(ys.drop A).take B++[b]++(ys.drop (A + B)).take C)=ys.take A++a::((ys.drop A).take B++b::(ys.drop (A + B)).take C):=by simp
   rw[h1];refine List.perm_middle.trans (List.Perm.cons a ?_);rw[← List.append_assoc];exact List.perm_middle
  rw[p.nodup_iff];refine List.nodup_cons.mpr ⟨fun h => ?_,List.nodup_cons.mpr ⟨fun h=>QY (hsub _ h),hnd⟩⟩
  rcases List.mem_cons.mp h with h | h
  ·exact hab h
  ·exact QX (hsub _ h)
 ·have:=congrArg List.length hsplit
  rw[← hr1];simp at this ⊢;omega
 ·rw[← hr1]
  exact⟨ys.take A,(ys.drop A).take B++[b]++(ys.drop (A + B)).take C,by simp,by simp⟩
 ·exact((K1.trans K2).trans W9).trans (w8.trans aq.app)
end
section
variable{Ω ao:aD}{ρ:aU}{k:Nat}{js:List Nat}{rs:List (List Str)}{row:List Str}{μ:Int->Int->Int->Int}{κ:List Int->Nat->Int}{F C:List D->Out Rs}
theorem getD_at{nm:List Str}{i:Nat}(h:i < nm.length):nm.getD i ""=nm[i]:=by simp[List.getD,List.getElem?_eq_getElem h]
theorem A4{nm:List Str}(hn:nm.Nodup){i j:Nat}(hi:i < nm.length)(hj:j < nm.length)(h:i≠j):nm[i]≠nm[j]:=by
 intro q;have a:=List.Nodup.idxOf_getElem hn i hi;have b:=List.Nodup.idxOf_getElem hn j hj;rw[q,b]at a;exact h a.symm
def sP(nm:List Str)(i:Nat):Str:=if i=0 then nm.getLastD "" else nm.getD (i - 1) ""
def Jw(F:List D->Out Rs)(SH:bb):EM:=(br (mN (aN SH) (U (aa 3) (U (ae (.int 10)) (U (aa 2) ag)))) true (ae .non) false (m2 (az .Add) (ae (.int 2)) (mN (aV F) (U (aa 3) (U (ae (.int 0)) (U (ae (.int 4)) ag))))))
def Jx(C:List D->Out Rs)(WI:bb):EM:=(mN (aN WI) (U (mN (aV C) (U (aa 0) (U (m2 (az .Add) (ae (.int 12)) (aa 5)) ag))) (U (m2 aA (aa 4) (m2 (az .Sub) (aa 5) (ae (.int 1)))) (U (m2 aA (aa 4) (aa 5)) (U (aa 2) ag)))))
def Ma(F:List D->Out Rs):EM:=(mN (aV F) (U (aa 3) (U (m2 (az .Add) (ae (.int 1)) (aa 5)) (U (m2 (az .Add) (mN (aW .len) (U (aa 1) ag)) (ae (.int 1))) ag))))
def Mb:EM:=(m2 (az .Add) (m2 (az .Add) (br (aa 1) true (ae .non) false (aa 7)) (mN cm (U (aa 6) ag))) (br (aa 1) false (aa 7) true (ae .non)))
def Mc(F C:List D->Out Rs)(WI:bb):SM:=
 (aj (aw 6 (Jx C WI))
 (aj (aw 7 (Ma F))
 (aj (aw 1 Mb)
 ai)))
def C7(F C:List D->Out Rs)(SH WI:bb):SM:=
 (aj (aw 3 (mN (aV C) (U (aa 0) (U (ae (.int 11)) ag))))
 (aj (aw 4 (Jw F SH))
 (aj (c_ (bY 5) (bz (U (mN (aW .len) (U (aa 4) ag)) ag)) (Mc F C WI))
 (aj (aQ (aa 1))
 ai))))
theorem C8{a0 a2 a3 a4 a5:Option D}{j at_:Nat}(R:Rw Ω k js rs)(hl:rs.length<=100)(hj:Ω[j]?=some (.lst (row.map .str))):∃ ao,Mb [a0,some (.ref k),a2,a3,a4,a5,some (.ref j),some (.int at_)] Ω=.ok (.ref (ao.length - 1)) ao/\Rw ao (ao.length - 1) (js.take at_++[j]++js.drop at_) (rs.take at_++[row]++rs.drop at_)/\aq [] Ω ao:=by
 have hL:=R.len;have s1:ey (.ref k) none (some (at_:Int)) Ω=.ok (.ref Ω.length) (Ω++[.lst ((js.map D.ref).take at_)]):=by simp only[ey,aM R.ce,dS,sv]
 have K1:aq [] Ω (Ω++[Cell.lst ((js.map D.ref).take at_)]):=aq.app;have g1:(Ω++[Cell.lst ((js.map D.ref).take at_)])[Ω.length]?=some (.lst ((js.map D.ref).take at_)):=aE;have e1:(br (aa 1) true (ae .non) false (aa 7)) [a0,some (.ref k),a2,a3,a4,a5,some (.ref j),some (.int at_)] Ω=.ok (.ref Ω.length) (Ω++[Cell.lst ((js.map D.ref).take at_)]):=by simp[s1]
 generalize Ω++[Cell.lst ((js.map D.ref).take at_)]=ah at *;have K2:aq [] ah (ah++[Cell.lst [.ref j]]):=aq.app;have g2:(ah++[Cell.lst [.ref j]])[ah.length]?=some (.lst [.ref j]):=aE;have e2:(mN cm (U (aa 6) ag)) [a0,some (.ref k),a2,a3,a4,a5,some (.ref j),some (.int at_)] ah=.ok (.ref ah.length) (ah++[Cell.lst [.ref j]]):=by simp[bc]
 generalize ah++[Cell.lst [.ref j]]=ay at *;have s3:=el (K2.get _ _ g1 (by simp)) g2 (by simp;omega)
 have K3:aq [] ay (ay++[Cell.lst ((js.map D.ref).take at_++[.ref j])]):=aq.app;have g3:(ay++[Cell.lst ((js.map D.ref).take at_++[.ref j])])[ay.length]?=some (.lst ((js.map D.ref).take at_++[.ref j])):=aE;generalize ay++[Cell.lst ((js.map D.ref).take at_++[.ref j])]=aP at *;have W3:=(K1.trans K2).trans K3;have R3:=R.keep W3;have s4:ey (.ref k) (some (at_:Int)) none aP=.ok (.ref aP.length) (aP++[.lst ((js.map D.ref).drop at_)]):=by simp only[ey,aM R3.ce,dS,j4]
 have K4:aq [] aP (aP++[Cell.lst ((js.map D.ref).drop at_)]):=aq.app;have g4:(aP++[Cell.lst ((js.map D.ref).drop at_)])[aP.length]?=some (.lst ((js.map D.ref).drop at_)):=aE;have e4:(br (aa 1) false (aa 7) true (ae .non)) [a0,some (.ref k),a2,a3,a4,a5,some (.ref j),some (.int at_)] aP=.ok (.ref aP.length) (aP++[Cell.lst ((js.map D.ref).drop at_)]):=by simp[s4]
 generalize aP++[Cell.lst ((js.map D.ref).drop at_)]=er at *;have s5:=el (K4.get _ _ g3 (by simp)) g4 (by simp;omega)
 have W5:aq [] Ω (er++[Cell.lst ((js.map D.ref).take at_++[.ref j]++(js.map D.ref).drop at_)]):=(W3.trans K4).trans aq.app;refine⟨er++[Cell.lst ((js.map D.ref).take at_++[.ref j]++(js.map D.ref).drop at_)],?_,⟨?_,?_⟩,W5⟩
 ·unfold Mb
  rw[cF,cF,e1,aO,e2,aO,s3,aO,e4,aO,s5];simp
 ·rw[show(er++[Cell.lst ((js.map D.ref).take at_++[.ref j]++(js.map D.ref).drop at_)]).length - 1=er.length by simp,aE]
  simp
 ·have A:=R.al.keep W5 (by simp)
  exact aL.append (R:=D6 _) (aL.append (R:=D6 _) (aL.take _ A) (.cons (W5.get _ _ hj (by simp)) .nil)) (aL.drop _ A)
theorem kL{at_:Nat}{r:List Str}:r∈rs.take at_++[row]++rs.drop at_↔r=row\/r∈rs:=by
 have:r∈rs↔r∈rs.take at_\/r∈rs.drop at_:=by rw[← List.mem_append,List.take_append_drop]
 rw[this];simp;constructor
 ·rintro(h | h | h)<;>simp[h]
 ·rintro(h | h | h)<;>simp[h]
def G1(LD:bb):Prop:=∀ (Ω:aD) ns (k x:Nat) (js:List Nat) (rs:List (List Str)) (xs:List Str),Rw Ω k js rs->rs.length<=8->(∀ r∈rs,r.Sublist xs)->xs.Nodup->2<=xs.length->xs.length<=24->Ω[x]?=some (.lst (xs.map .str)) ->
 ∃ (nm:List Str) (rs':List (List Str)) (k':Nat) (eM:List Nat) (ao:aD),LD [SC ns,.ref k,.ref x] Ω=.ok (.ref k') ao/\Rw ao k' eM rs'/\rs'.length<=13/\(∀ r∈rs',r.Nodup/\r.length<=26)/\2<=nm.length/\(∀ i < nm.length,∃ r∈rs',D8 (sP nm i) (nm.getD i "") r)/\aq [] Ω ao
theorem G2{SH WI:bb}(hμ:ef μ F)(nN:j6 κ C)(hS:uk SH)(hW:GY WI):G1 (bu 8 3 (C7 F C SH WI)):=by
 intro Ω ns k x js rs xs R hrl hsub hn h2 LS hx;rw[bF (by rfl)]
 have e0:aS 8 [SC ns,.ref k,.ref x]=[some (SC ns),some (.ref k),some (.ref x),none,none,none,none,none]:=rfl;rw[e0];have k11:C [SC ns,.int 11]=.ok (false,.int (κ ns 11)):=nN ns 11;have b1:(aw 3 (mN (aV C) (U (aa 0) (U (ae (.int 11)) ag)))) [some (SC ns),some (.ref k),some (.ref x),none,none,none,none,none] Ω=.nx [some (SC ns),some (.ref k),some (.ref x),some (.int (κ ns 11)),none,none,none,none] Ω:=by simp[k11]
 generalize hc:κ ns 11=c at *;obtain⟨ys,q1,ah,hp,e1,g1,K1⟩:=hS Ω c 10 x xs (by omega) (by omega) (by omega) hx
 obtain⟨m0,m1,hm⟩:=hμ c 0 4 (by omega) (by omega) (by omega)
 generalize μ c 0 4=A at *;obtain⟨A,rfl⟩:=Int.eq_ofNat_of_zero_le m0;have s1:=nB (n:=2 + A) g1;have K2:aq [] ah (ah++[Cell.lst ((ys.take (2 + A)).map .str)]):=aq.app;have g2:(ah++[Cell.lst ((ys.take (2 + A)).map .str)])[ah.length]?=some (.lst ((ys.take (2 + A)).map .str)):=aE
 have b2:(aw 4 (Jw F SH)) [some (SC ns),some (.ref k),some (.ref x),some (.int c),none,none,none,none] Ω=.nx [some (SC ns),some (.ref k),some (.ref x),some (.int c),some (.ref ah.length),none,none,none] (ah++[Cell.lst ((ys.take (2 + A)).map .str)]):=by
  have Gf:ey (.ref q1) none (some (2 + (A:Int))) ah=.ok (.ref ah.length) (ah++[Cell.lst ((ys.take (2 + A)).map .str)]):=by
   rw[← s1]
   congr 2
  have:Jw F SH [some (SC ns),some (.ref k),some (.ref x),some (.int c),none,none,none,none] Ω=.ok (.ref ah.length) (ah++[Cell.lst ((ys.take (2 + A)).map .str)]):=by
   simp[Jw,e1,hm,Gf]
  rw[cB,this];rfl
 have L_:ys.Nodup:=hp.nodup_iff.mpr hn;have G3:(ys.take (2 + A)).Nodup:=L_.sublist (List.take_sublist _ _);have hnl:(ys.take (2 + A)).length=min (2 + A) xs.length:=by rw[List.length_take,hp.length_eq]
 generalize hnm:ys.take (2 + A)=nm at *;generalize hq:ah.length=q at *;generalize ah++[Cell.lst (nm.map .str)]=ay at *;have Gx:=K1.trans K2;have hlen:=cP g2;rw[List.length_map]at hlen;have hin:gx (nm.length:Int)=true:=dj (by omega) (by omega)
 have kI:(bz (U (mN (aW .len) (U (aa 4) ag)) ag)) [some (SC ns),some (.ref k),some (.ref x),some (.int c),some (.ref q),none,none,none] ay=.ok (.ints 0 nm.length) ay:=by simp[hlen,hin]
 unfold C7;rw[ak,b1,aI,ak,b2,aI,ak,fD,kI,gM]
 refine dC (R:=fun r=>∃ (nm:List Str) (rs':List (List Str)) (k':Nat) (eM:List Nat) (ao:aD),fy (sq r _)=.ok (.ref k') ao/\Rw ao k' eM rs'/\rs'.length<=13/\(∀ r∈rs',r.Nodup/\r.length<=26)/\2<=nm.length/\(∀ i < nm.length,∃ r∈rs',D8 (sP nm i) (nm.getD i "") r)/\aq [] Ω ao) (ds:=intsFrom 0 nm.length)
  (fun i ρ aP=>∃ (k':Nat) (eM:List Nat) (rs':List (List Str)) (a5 a6 a7:Option D),ρ=[some (SC ns),some (.ref k'),some (.ref x),some (.int c),some (.ref q),a5,a6,a7]/\Rw aP k' eM rs'/\rs'.length=rs.length + i/\(∀ r∈rs',r.Nodup/\r.length<=26)/\(∀ j < i,∃ r∈rs',D8 (sP nm j) (nm.getD j "") r)/\aq [] ay aP)
  (fun _ _ _ _=>rfl) ?_ ?_ fuel 0 _ _ (by rw[bS];unfold fuel;omega) (Nat.zero_le _) ⟨k,js,rs,none,none,none,rfl,R.keep Gx,rfl,fun r hr=>⟨hn.sublist (hsub r hr),by have:=(hsub r hr).length_le;omega⟩,fun j hj=>by omega,aq.refl⟩
 ·rintro i d ρ aP hd ⟨k',eM,rs',a5,a6,a7,rfl,R3,hl3,Md,ha3,K3⟩
  obtain⟨rfl,hlt⟩:=dk hd;rw[show(0:Int) + (i:Int)=(i:Int) by omega]
  refine⟨[some (SC ns),some (.ref k'),some (.ref x),some (.int c),some (.ref q),some (.int i),a6,a7],rfl,?_⟩;have g3:=K3.get _ _ g2 (by simp)
  have x3:=K3.get _ _ (Gx.get _ _ hx (by simp)) (by simp)
  have kk:C [SC ns,.int (12 + (i:Int))]=.ok (false,.int (κ ns (12 + i))):=by have:=nN ns (12 + i);rwa[show((12 + i:Nat):Int)=12 + (i:Int) by omega]at this
  have hi2:aA (.ref q) (.int i) aP=.ok (.str (nm.getD i "")) aP:=bq g3 (L2.bf (by rw[List.getElem?_map,List.getElem?_eq_getElem hlt,getD_at hlt];rfl))
  have hi1:aA (.ref q) (.int ((i:Int) - 1)) aP=.ok (.str (sP nm i)) aP:=by
   unfold sP
   by_cases h0:i=0
   ·subst h0
    rw[if_pos rfl];refine bq g3 ?_;obtain⟨l,z,e⟩:∃ l z,nm=l++[z]:=⟨_,_,(List.dropLast_concat_getLast (l:=nm) (by intro h;rw[h]at hlt;simp at hlt)).symm⟩
    rw[e,List.map_append];have:=L2.n4 (l.map D.str) (D.str z);simp at this ⊢;exact this
   ·rw[if_neg h0]
    have hlt':i - 1 < nm.length:=by omega
    rw[show((i:Int) - 1)=((i - 1:Nat):Int) by omega]
    exact bq g3 (L2.bf (by rw[List.getElem?_map,List.getElem?_eq_getElem hlt',getD_at hlt'];rfl))
  have hne:sP nm i≠nm.getD i "":=by
   unfold sP;rw[getD_at hlt]
   by_cases h0:i=0
   ·subst h0
    rw[if_pos rfl];have hl0:nm.length - 1 < nm.length:=by omega
    have:nm.getLastD ""=nm[nm.length - 1]:=by
     rw[List.getLastD_eq_getLast?,List.getLast?_eq_getElem?,List.getElem?_eq_getElem hl0];rfl
    rw[this];exact A4 G3 hl0 hlt (by omega)
   ·rw[if_neg h0]
    have hlt':i - 1 < nm.length:=by omega
    rw[getD_at hlt'];exact A4 G3 hlt' hlt (by omega)
  obtain⟨r,j,er,e4,g4,r1,r2,r3,K4⟩:=hW aP (κ ns (12 + i)) (sP nm i) (nm.getD i "") x xs hn LS x3 hne
  have b6:(aw 6 (Jx C WI)) [some (SC ns),some (.ref k'),some (.ref x),some (.int c),some (.ref q),some (.int i),a6,a7] aP=.nx [some (SC ns),some (.ref k'),some (.ref x),some (.int c),some (.ref q),some (.int i),some (.ref j),a7] er:=by
   have:Jx C WI [some (SC ns),some (.ref k'),some (.ref x),some (.int c),some (.ref q),some (.int i),a6,a7] aP=.ok (.ref j) er:=by
    generalize nm.getD i ""=nb at hi2 e4;simp[Jx,kk,hi1,hi2,e4]
   rw[cB,this];rfl
  have R4:=R3.keep K4;have A5:=cP R4.ce;have Q0:=R4.len;rw[List.length_map,← Q0]at A5;obtain⟨n0,n1,hN⟩:=hμ c (1 + (i:Int)) ((rs'.length:Int) + 1) (by omega) (by omega) (by omega)
  generalize μ c (1 + (i:Int)) ((rs'.length:Int) + 1)=B at *;obtain⟨B,rfl⟩:=Int.eq_ofNat_of_zero_le n0
  have b7:(aw 7 (Ma F)) [some (SC ns),some (.ref k'),some (.ref x),some (.int c),some (.ref q),some (.int i),some (.ref j),a7] er=.nx [some (SC ns),some (.ref k'),some (.ref x),some (.int c),some (.ref q),some (.int i),some (.ref j),some (.int B)] er:=by
   simp[Ma,A5,hN]
  obtain⟨lT,e5,R5,K5⟩:=C8 (a0:=some (SC ns)) (a2:=some (.ref x)) (a3:=some (.int c)) (a4:=some (.ref q)) (a5:=some (.int i)) (at_:=B) R4 (by omega) g4
  have b8:Mc F C WI [some (SC ns),some (.ref k'),some (.ref x),some (.int c),some (.ref q),some (.int i),a6,a7] aP=.nx [some (SC ns),some (.ref (lT.length - 1)),some (.ref x),some (.int c),some (.ref q),some (.int i),some (.ref j),some (.int B)] lT:=by
   unfold Mc;rw[ak,b6,aI,ak,b7,aI,ak,cB,e5];rfl
  rw[b8];refine⟨_,_,_,_,_,_,rfl,R5,?_,fun r' hr' => ?_,fun j' hj' => ?_,(K3.trans K4).trans K5⟩
  ·simp
   omega
  ·rcases kL.mp hr' with rfl | h
   ·exact⟨r1,r2⟩
   ·exact Md r' h
  ·by_cases q:j' < i
   ·obtain⟨r',h1,h2⟩:=ha3 j' q
    exact⟨r',kL.mpr (.inr h1),h2⟩
   ·have:j'=i:=by omega
    subst this;exact⟨r,kL.mpr (.inl rfl),r3⟩
 ·rintro ρ aP ⟨k',eM,rs',a5,a6,a7,rfl,R3,hl3,Md,ha3,K3⟩
  rw[bS]at hl3 ha3;refine⟨nm,rs',k',eM,aP,?_,R3,by omega,Md,by omega,ha3,Gx.trans K3⟩
  rfl
end
theorem pq:∀ {o:List Str} {a b:Str},[a,b].Sublist o->o.Nodup->o.idxOf a < o.idxOf b
 | [],a,b,h,_=>by simp at h
 | x::o,a,b,h,hn=>by
  obtain⟨h1,h2⟩:=List.nodup_cons.mp hn;rw[List.idxOf_cons,List.idxOf_cons];cases h with
  | cons _ h=>
   have ha:(x == a)=false:=by
    have:a∈o:=h.subset (by simp)
    simpa using fun q:x=a=>h1 (q▸this)
   have hb:(x == b)=false:=by
    have:b∈o:=h.subset (by simp)
    simpa using fun q:x=b=>h1 (q▸this)
   have:=pq h h2;rw[ha,hb];simp;exact this
  | cons_cons _ h=>
   have hb:(x == b)=false:=by
    have:b∈o:=h.subset (by simp)
    simpa using fun q:x=b=>h1 (q▸this)
   rw[hb];simp
theorem Ah{o r:List Str}{a b:Str}(h:D8 a b r)(hs:r.Sublist o)(hn:o.Nodup):o.idxOf a < o.idxOf b:=by
 obtain⟨u,t,rfl,hb⟩:=h;refine pq (List.Sublist.trans ?_ hs) hn;have:[a,b].Sublist (a::t):=(List.singleton_sublist.mpr hb).cons_cons a;exact this.trans (List.sublist_append_right _ _)
theorem Ai{rs:List (List Str)}{nm:List Str}(h2:2<=nm.length)(hA:∀ i < nm.length,∃ r∈rs,D8 (sP nm i) (nm.getD i "") r):Sk rs:=by
 rcases xy (tot rs + 1) rs (by omega) with ⟨o,M,_⟩ | S
 ·exfalso
  have on:=v_ M
  have key:∀ i < nm.length,o.idxOf (sP nm i) < o.idxOf (nm.getD i ""):=fun i hi=>by
   obtain⟨r,h1,h3⟩:=hA i hi;exact Ah h3 (CS M r h1) on
  have up:∀ i < nm.length,o.idxOf (nm.getD 0 "")<=o.idxOf (nm.getD i ""):=by
   intro i
   induction i with
   | zero=>intro _;exact Nat.le_refl _
   | succ i ih=>
    intro hi;have h3:=key (i + 1) hi;have h4:sP nm (i + 1)=nm.getD i "":=by unfold sP;rw[if_neg (by omega)];rfl
    rw[h4]at h3;have:=ih (by omega)
    omega
  have h0:=key 0 (by omega)
  have hl:sP nm 0=nm.getD (nm.length - 1) "":=by
   unfold sP;rw[if_pos rfl,List.getLastD_eq_getLast?,List.getLast?_eq_getElem?];rfl
  rw[hl]at h0;have:=up (nm.length - 1) (by omega)
  omega
 ·exact S
def pw:D->Option D
 | .tup [.str C,.str f,d]=>if C="Ring"/\f="steps" then some d else none
 | _=>none
theorem jD{d:D}:pw (eD "Ring" "steps" d)=some d:=by simp[pw,eD]
theorem pz{x:D}{d:D}(h:pw x=some d):x=eD "Ring" "steps" d:=by
 unfold pw at h;split at h
 ·split at h
  ·rename_i hc
   obtain⟨rfl,rfl⟩:=hc;cases h;rfl
  ·cases h
 ·cases h
def hdS(x:D)(Ω:aD):av D:=match pw x with
 | some d=>.ok d Ω
 | none=>.bad
def A6(x:D)(Ω:aD):av D:=match pw x with
 | some _=>.ok (.bl false) Ω
 | none=>.bad
theorem C9(x:D)(Ω:aD):(∃ d,x=eD "Ring" "steps" d)\/hdS x Ω=.bad:=by
 cases h:pw x with
 | some d=>exact .inl ⟨d,pz h⟩
 | none=>exact .inr (by simp[hdS,h])
theorem C_(x:D)(Ω:aD):(∃ d,x=eD "Ring" "steps" d)\/A6 x Ω=.bad:=by
 cases h:pw x with
 | some d=>exact .inl ⟨d,pz h⟩
 | none=>exact .inr (by simp[A6,h])
def D9(MG:bb):SM:=aj (aw 2 (mN MG (U (aa 0) ag))) ai
def D_(MG:bb):SM:=aj (eh (mN MG (U (aa 0) ag))) ai
def G4(RF:bb):Prop:=∀ (Ω:aD) (k:Nat) (js:List Nat) (rs:List (List Str)),Rw Ω k js rs->Sk rs->rs.length<=900->tot rs<=900->∃ (ss:List gY) (p:Nat) (ao:aD),RF [.ref k] Ω=.ok (.ref p) ao/\ao[p]?=some (.lst (ss.map aK))/\dM rs ss/\Ω.length<=p/\aq [] Ω ao
def G5(IM:bb):Prop:=∀ (Ω:aD) (k:Nat) (d:D) (js:List Nat) (rs:List (List Str)),Rw Ω k js rs->Sk rs->rs.length<=900->tot rs<=900->∃ ao,IM [.ref k,d] Ω=.ok (.bl false) ao/\aq [] Ω ao
theorem G6{MG:bb}(hM:Ab MG){cr:SM}:G4 (nG 2 1 (D_ MG) cr hdS):=by
 intro Ω k js rs R S h1 h2;obtain⟨ss,p,ao,e,g,hr,l,K⟩:=hM Ω k js rs R S h1 h2;refine⟨ss,p,ao,?_,g,hr,l,K⟩
 have:D_ MG [some (.ref k),none] Ω=.exc (eD "Ring" "steps" (.ref p)) ao:=by
  simp[D_,e]
 unfold nG;rw[if_pos (show [D.ref k].length=1 from rfl)]
 show(match D_ MG [some (.ref k),none] Ω with | .nx ρ ah=>fy (cr ρ ah) | .exc x ah=>wJ (hdS x ah) | _=>.bad)=_
 rw[this];simp[hdS,jD,wJ]
theorem G7{MG:bb}(hM:Ab MG){cr:SM}:G5 (nG 3 2 (D9 MG) cr A6):=by
 intro Ω k d js rs R S h1 h2;obtain⟨ss,p,ao,e,g,hr,l,K⟩:=hM Ω k js rs R S h1 h2;refine⟨ao,?_,K⟩
 have:D9 MG [some (.ref k),some d,none] Ω=.exc (eD "Ring" "steps" (.ref p)) ao:=by
  simp[D9,e]
 unfold nG;rw[if_pos (show [D.ref k,d].length=2 from rfl)]
 show(match D9 MG [some (.ref k),some d,none] Ω with | .nx ρ ah=>fy (cr ρ ah) | .exc x ah=>wJ (A6 x ah) | _=>.bad)=_
 rw[this];simp[A6,jD,wJ]
def pA(e:EM):SM:=(cW e (aj (aQ (ae (.bl false))) ai) ai)
def Dc(LR:bb):EM:=(fh (m2 (ax .Is) (aa 4) (ae .non)) (fh (m2 (ax .NotEq) (aa 3) (aa 2)) (bX (mN (aN LR) (U (aa 2) (U (aa 4) ag))))))
def De(IR IM:bb):EM:=(fh (m2 (ax .IsNot) (mN (aN IR) (U (aa 3) (U (aa 4) ag))) (ae (.bl true))) (m2 (ax .IsNot) (mN (aN IM) (U (aa 3) (U (aa 1) ag))) (ae (.bl false))))
def Df(IM:bb):EM:=(m2 (ax .IsNot) (mN (aN IM) (U (aa 3) (U (mN cm ag) ag))) (ae (.bl false)))
def Dg(LR:bb):EM:=(cJ (m2 (ax .IsNot) (aa 5) (ae .non)) (cJ (mN (aN LR) (U (aa 2) (U (aa 5) ag))) (m2 (ax .Eq) (aa 3) (aa 2))))
def Dh(OR LD RS:bb):EM:=(mN (aN LD) (U (aa 0) (U (mN (aN RS) (U (aa 0) (U (aa 1) (U (ae (.int 8)) ag)))) (U (aa 1) ag))))
def Di(OR LD RS RF LR IR IM:bb):SM:=
 (aj (aw 1 (mN (aN OR) (U (aa 0) ag)))
 (aj (aw 2 (Dh OR LD RS))
 (aj (aw 3 (pd 2))
 (aj (aw 4 (mN (aN RF) (U (aa 3) ag)))
 (aj (pA (Dc LR))
 (aj (pA (De IR IM))
 (aj (eh (bP fL gf (aa 4) ag))
 (aj (aw 5 (mN (aN RF) (U (aa 3) ag)))
 (aj (pA (Df IM))
 (aj (aQ (Dg LR))
 ai))))))))))
theorem nJ{e:EM}{ρ:aU}{Ω ao:aD}(h:e ρ Ω=.ok (.bl false) ao):pA e ρ Ω=.nx ρ ao:=by
 unfold pA;rw[fB,h];rfl
theorem nK:∀ {rs:List (List Str)},(∀ r∈rs,r.length<=26)->tot rs<=rs.length * 26
 | [],_=>by simp[tot]
 | r::rs,h=>by
  have h1:=h r (by simp)
  have h2:=nK (rs:=rs) fun r hr=>h r (by simp[hr])
  simp only[tot,List.map_cons,List.sum_cons,List.length_cons]at *;omega
theorem Aj{Ω:aD}{k j:Nat}{js is:List Nat}{rs:List (List Str)}(R:Rw Ω k js rs)(R':Rw Ω j is rs):ax .Eq (.ref k) (.ref j) Ω=.ok (.bl true) Ω:=by
 rw[jz,nr,gj (n:=6) (rs:=js) (L:=rs) R.ce R.al,gj (n:=6) (rs:=is) (L:=rs) R'.ce R'.al,iz]
 have e:dY .Eq (LL rs) (LL rs)=.ok true:=by
  rw[vV,AN 6,AO];simp
 rw[e];rfl
theorem xG{Ω:aD}{b:Bool}:ax .IsNot (.bl b) (.bl b) Ω=.ok (.bl false) Ω:=by cases b<;>rfl
theorem xH{OR LD RS RF LR IR IM:bb}(hO:GD OR)(hD:G1 LD)(hS:GG RS)(hF:G4 RF)(hL:Ae LR)(hI:Ae IR)(hM:G5 IM)(ns:List Int):∃ ao,bu 6 1 (Di OR LD RS RF LR IR IM) [SC ns] []=.ok (.bl true) ao:=by
 rw[bF (by rfl)]
 have e0:aS 6 [SC ns]=[some (SC ns),none,none,none,none,none]:=rfl;rw[e0];obtain⟨xs,q0,Jy,xn,x2,x24,e1,hx,_⟩:=hO [] ns;obtain⟨Q1,k0,Q2,ah,hsub,hrl,e2,R1,K1⟩:=hS Jy ns q0 xs 8 (by omega) x24 hx
 obtain⟨nm,rs,k,js,ay,e3,R2,hl,hr,n2,hA,K2⟩:=hD ah ns k0 q0 Q2 Q1 xs R1 hrl hsub xn x2 x24 (K1.get _ _ hx (by simp))
 have S:=Ai n2 hA;have hnd:∀ r∈rs,r.Nodup:=fun r h=>(hr r h).1
 have ht:tot rs<=900:=by
  have:=nK fun r h=>(hr r h).2
  omega
 have r1:(aw 1 (mN (aN OR) (U (aa 0) ag))) [some (SC ns),none,none,none,none,none] []=.nx [some (SC ns),some (.ref q0),none,none,none,none] Jy:=by simp[e1]
 have r2:(aw 2 (Dh OR LD RS)) [some (SC ns),some (.ref q0),none,none,none,none] Jy=.nx [some (SC ns),some (.ref q0),some (.ref k),none,none,none] ay:=by
  have e2:RS [SC ns,.ref q0,.int 8] Jy=.ok (.ref k0) ah:=e2;simp[Dh,e2,e3]
 obtain⟨eM,kh,aP,e4,K3,R3,hj',hk',hkj⟩:=sH (ρ:=[some (SC ns),some (.ref q0),some (.ref k),none,none,none]) (i:=2) rfl R2 (by omega)
 have r3:(aw 3 (pd 2)) [some (SC ns),some (.ref q0),some (.ref k),none,none,none] ay=.nx [some (SC ns),some (.ref q0),some (.ref k),some (.ref kh),none,none] aP:=by rw[cB,e4];rfl
 have Q3:=R2.keep K3;obtain⟨ss,p,er,e5,g5,rg,lp,K4⟩:=hF aP kh eM rs R3 S (by omega) ht
 have r4:(aw 4 (mN (aN RF) (U (aa 3) ag))) [some (SC ns),some (.ref q0),some (.ref k),some (.ref kh),none,none] aP=.nx [some (SC ns),some (.ref q0),some (.ref k),some (.ref kh),some (.ref p),none] er:=by simp[e5]
 have R4:=R3.keep K4;have Q4:=Q3.keep K4
 have ssl:ss.length<=900:=by
  obtain⟨n,R',y1,y2,y3⟩:=rg.ex
  have h1:(n::R').length<=(rs.map fun r=>r.headD "").length + tot rs:=by
   have:(n::R').length<=rs.flatten.length:=iC _ _ y3 fun z hz=>by
    rw[← y1]at hz;obtain⟨s,hs,rfl⟩:=List.mem_map.mp hz;obtain⟨u,t,e,_⟩:=rg.ux s hs;exact List.mem_flatten.mpr ⟨_,List.mem_of_getElem? e,by simp⟩
   have h2:rs.flatten.length=tot rs:=by rw[List.length_flatten];rfl
   omega
  have h3:=congrArg List.length y1;have h4:=nK fun r h=>(hr r h).2
  simp at h1 h3;omega
 obtain⟨lT,e6,K5⟩:=hL er k p js rs ss Q4 hnd (by omega) rg g5 ssl
 have n1:=z8 R4 Q4
 have r5:pA (Dc LR) [some (SC ns),some (.ref q0),some (.ref k),some (.ref kh),some (.ref p),none] er=.nx [some (SC ns),some (.ref q0),some (.ref k),some (.ref kh),some (.ref p),none] lT:=nJ (by
  have z:ax .Is (.ref p) .non er=.ok (.bl false) er:=rfl;simp[Dc,z,n1,e6,-sk])
 have R5:=R4.keep K5;have Q5:=Q4.keep K5;have g6:=K5.get _ _ g5 (by simp)
 obtain⟨pB,e7,K6⟩:=hI lT kh p eM rs ss R5 hnd (by omega) rg g6 ssl
 have R6:=R5.keep K6;have Q6:=Q5.keep K6;obtain⟨kK,e8,K7⟩:=hM pB kh (.ref q0) eM rs R6 S (by omega) ht
 have r6:pA (De IR IM) [some (SC ns),some (.ref q0),some (.ref k),some (.ref kh),some (.ref p),none] lT=.nx [some (SC ns),some (.ref q0),some (.ref k),some (.ref kh),some (.ref p),none] kK:=nJ (by
  have z1:=xG (Ω:=pB) (b:=true);have z2:=xG (Ω:=kK) (b:=false);simp[De,e7,e8,z1,z2])
 have R7:=R6.keep K7;have Q7:=Q6.keep K7;have g7:=K7.get _ _ (K6.get _ _ g6 (by simp)) (by simp)
 have pl:p < kK.length:=dg g7;have Jz:∀ j,j < aP.length->j≠p:=fun j hj q=>by omega
 have iL:=dq g7
 have cl:gf (.ref p) [] kK=.ok .non (kK.set p (.lst [])):=by
  simp only[gf,nu g7]
 have K8:aq [p] kK (kK.set p (.lst [])):=aq.set (by simp)
 have r7:(eh (bP fL gf (aa 4) ag)) [some (SC ns),some (.ref q0),some (.ref k),some (.ref kh),some (.ref p),none] kK=.nx [some (SC ns),some (.ref q0),some (.ref k),some (.ref kh),some (.ref p),none] (kK.set p (.lst [])):=by
  rw[fA,dI (x:=.ref p) (ao:=kK) (by simp) iL]
  simp[cl]
 generalize kK.set p (.lst [])=xT at *;have R8:Rw xT kh eM rs:=R7.lS K8 (by simpa using Jz kh (dg R3.ce)) (fun j hj q=>Jz j (R3.al.lt j hj) (List.mem_singleton.mp q))
 have Q8:Rw xT k js rs:=Q7.lS K8 (by simpa using Jz k (dg Q3.ce)) (fun j hj q=>Jz j (Q3.al.lt j hj) (List.mem_singleton.mp q))
 obtain⟨OA,p2,lW,e9,g9,Me,_,K9⟩:=hF xT kh eM rs R8 S (by omega) ht
 have r8:(aw 5 (mN (aN RF) (U (aa 3) ag))) [some (SC ns),some (.ref q0),some (.ref k),some (.ref kh),some (.ref p),none] xT=.nx [some (SC ns),some (.ref q0),some (.ref k),some (.ref kh),some (.ref p),some (.ref p2)] lW:=by simp[e9]
 have R9:=R8.keep K9;have Q9:=Q8.keep K9;have OB:aq [] lW (lW++[Cell.lst []]):=aq.app;have ew:(mN cm ag) [some (SC ns),some (.ref q0),some (.ref k),some (.ref kh),some (.ref p),some (.ref p2)] lW=.ok (.ref lW.length) (lW++[Cell.lst []]):=by simp[bc]
 generalize Te:lW.length=q9 at *;generalize lW++[Cell.lst []]=Q_ at *;obtain⟨Ec,eB,KB⟩:=hM Q_ kh (.ref q9) eM rs (R9.keep OB) S (by omega) ht
 have r9:pA (Df IM) [some (SC ns),some (.ref q0),some (.ref k),some (.ref kh),some (.ref p),some (.ref p2)] lW=.nx [some (SC ns),some (.ref q0),some (.ref k),some (.ref kh),some (.ref p),some (.ref p2)] Ec:=nJ (by
  have z2:=xG (Ω:=Ec) (b:=false);unfold Df;rw[cF,AY,c8,show aa 3 [some (SC ns),some (.ref q0),some (.ref k),some (.ref kh),some (.ref p),some (.ref p2)] lW=.ok (.ref kh) lW from rfl,aO,c8,ew,aO,jv,aO,aO,aO]
  simp[eB,z2])
 have KAB:=OB.trans KB;have RB:=R9.keep KAB;have QB:=Q9.keep KAB;have gB:=KAB.get _ _ g9 (by simp)
 have Mf:OA.length<=900:=by
  obtain⟨n,R',y1,y2,y3⟩:=Me.ex
  have h1:(n::R').length<=rs.flatten.length:=iC _ _ y3 fun z hz=>by
   rw[← y1]at hz;obtain⟨s,hs,rfl⟩:=List.mem_map.mp hz;obtain⟨u,t,e,_⟩:=Me.ux s hs;exact List.mem_flatten.mpr ⟨_,List.mem_of_getElem? e,by simp⟩
  have h2:rs.flatten.length=tot rs:=by rw[List.length_flatten];rfl
  have h3:=congrArg List.length y1;rw[List.length_map]at h3;omega
 obtain⟨OD,eC,KC⟩:=hL Ec k p2 js rs OA QB hnd (by omega) Me gB Mf
 have q1:=Aj (RB.keep KC) (QB.keep KC);refine⟨OD,?_⟩
 have fin:Dg LR [some (SC ns),some (.ref q0),some (.ref k),some (.ref kh),some (.ref p),some (.ref p2)] Ec=.ok (.bl true) OD:=by
  have z:ax .IsNot (.ref p2) .non Ec=.ok (.bl true) Ec:=rfl;simp[Dg,z,eC,q1,-jz]
 unfold Di;rw[ak,r1,aI,ak,r2,aI,ak,r3,aI,ak,r4,aI,ak,r5,aI,ak,r6,aI,ak,r7,aI,ak,r8,aI,ak,r9,aI,ak,dn,fin];rfl
end Mir
namespace Dj
open PySem PySem.Spec PyProof.Rows L2 Mir
noncomputable def top(i:Nat):Stmt:=PySem.Challenge.pw_taglook_k13_hidden_rings.main.body.getD i (.Pass ⟨0,0,0,0⟩)
instance clos:aJ:=⟨fun _=>⟨"","",bQ (top 0),[],af (top 0),[],[]⟩,fun _=>0⟩
noncomputable def td:List Str:=[]
def JA:aY:=(({}:aY).zG "DEEPEST" (.int 8))
noncomputable def OE:List Str:=["_law_script","_law_k"]
noncomputable def OF:List Str:=["_law_script","_law_k"]
def OG:SM:=
 (aj (cW (m2 (ax .Lt) (aa 1) (mN (aW .len) (U (aa 0) ag)))
 (aj (aQ (m2 aA (aa 0) (aa 1)))
 ai)
 ai)
 (aj (aQ (ae (.int 0)))
 ai))
def Ra:bb:=bu 2 2 OG
def F0:List Mir.D->Out Rs:=pureOf Ra
def Mh:aY:=JA.k_ "_law_cell" F0
theorem Rb:bD OE OF (af (top 21))=true:=by decide +kernel
theorem Rc:cU JA td (top 21) OE=some OG:=rfl
noncomputable def OH:List Str:=["_law_cell_here","_law_turn","_law_many","_law_rest","_law_k","_law_turns","_law_one","_law_two"]
noncomputable def OI:List Str:=["_law_cell_here","_law_turn","_law_many"]
def OJ:SM:=
 (aj (aw 3 (m2 (az .FloorDiv) (aa 0) (ae (.int 2))))
 (aj (cW (cJ (m2 (ax .Eq) (m2 (az .Mod) (aa 0) (ae (.int 2))) (ae (.int 1))) (m2 (ax .Gt) (aa 0) (m2 (az .Pow) (ae (.int 10)) (ae (.int 18)))))
 (aj (c_ (bY 4) (bz (U (aa 1) ag))
 (aj (aw 3 (m2 (az .FloorDiv) (aa 3) (ae (.int 840))))
 ai))
 (aj (aQ (m2 (az .Mod) (m2 (az .Mod) (aa 3) (ae (.int 840))) (aa 2)))
 ai))
 ai)
 (aj (aw 5 (mN cm (U (ae (.int 48271)) (U (ae (.int 69621)) (U (ae (.int 40692)) (U (ae (.int 39373)) (U (ae (.int 16807)) (U (ae (.int 30323)) (U (ae (.int 21403)) (U (ae (.int 62089)) (U (ae (.int 45742)) (U (ae (.int 37907)) (U (ae (.int 53611)) (U (ae (.int 28411)) (U (ae (.int 59393)) (U (ae (.int 33391)) ag))))))))))))))))
 (aj (aw 6 (m2 (az .Mod) (m2 (az .Mult) (m2 (az .Add) (m2 (az .Mod) (aa 0) (ae (.int 1000000007))) (ae (.int 11))) (m2 aA (aa 5) (m2 (az .Mod) (aa 1) (ae (.int 14))))) (ae (.int 2147483629))))
 (aj (aw 7 (m2 (az .Mod) (m2 (az .Mult) (aa 6) (m2 (az .Add) (aa 6) (aa 1))) (ae (.int 1999999973))))
 (aj (aQ (m2 (az .Mod) (m2 (az .FloorDiv) (m2 (az .Mod) (m2 (az .Mult) (aa 7) (ae (.int 16807))) (ae (.int 998244353))) (ae (.int 1000))) (aa 2)))
 ai))))))
def Rf:bb:=bu 8 3 OJ
def F1:List Mir.D->Out Rs:=pureOf Rf
def Mi:aY:=Mh.k_ "_law_mix" F1
theorem Rg:bD OH OI (af (top 22))=true:=by decide +kernel
theorem Rh:cU Mh td (top 22) OH=some OJ:=rfl
noncomputable def OK:List Str:=["_law_found"]
noncomputable def OL:List Str:=["_law_found"]
def JB:SM:=
 (aj (aQ (cJ (m1 (bG .int) (aa 0)) (bX (m1 (bG .bool) (aa 0)))))
 ai)
def OM:bb:=bu 1 1 JB
def F2:List Mir.D->Out Rs:=pureOf OM
def Mj:aY:=Mi.k_ "_law_whole" F2
theorem Ri:bD OK OL (af (top 28))=true:=by decide +kernel
theorem Rj:cU Mi td (top 28) OK=some JB:=rfl
noncomputable def ON:List Str:=["thing","least","most"]
noncomputable def OO:List Str:=["thing","least","most"]
def JC:SM:=
 (aj (cW (fh (m1 (bG .bool) (aa 0)) (bX (m1 (bG .int) (aa 0))))
 (aj (aQ (ae (.bl false)))
 ai)
 ai)
 (aj (aQ (gC .LtE .LtE (aa 1) (aa 0) (aa 2)))
 ai))
def OP:bb:=bu 3 3 JC
def F3:List Mir.D->Out Rs:=pureOf OP
def OQ:aY:=Mj.k_ "is_whole" F3
theorem Rk:bD ON OO (af (top 11))=true:=by decide +kernel
theorem Rl:cU Mj td (top 11) ON=some JC:=rfl
def U0:aY:=OQ
noncomputable def OS:List Str:=["thing","depth"]
noncomputable def Ak:List Str:=["thing","depth"]
def Rm:bb:=bu 2 2 (gN fun _ _=>.bad)
def Rn:bb:=bu 2 2 (gN Rm)
def O0:bb:=bu 2 2 (gN Rn)
def U1:aY:=U0
theorem Ml:bD OS Ak (af (top 2))=true:=by decide +kernel
theorem Mm(O:bb):cU (JA.cu "own_copy" O) td (top 2) OS=some (gN O):=rfl
noncomputable def OT:List Str:=["left","name","place","row"]
noncomputable def OU:List Str:=["left","name"]
def d1:SM:=
 (aj (c_ (kn [2,3]) (tY (aa 0))
 (aj (cW (m2 (ax .In) (aa 1) (br (aa 3) false (ae (.int 1)) true (ae .non)))
 (aj (aQ (aa 2))
 ai)
 ai)
 ai))
 (aj (aQ (ae .non))
 ai))
def O1:bb:=bu 4 2 d1
def U2:aY:=U1.cu "place_behind" O1
theorem Ro:bD OT OU (af (top 15))=true:=by decide +kernel
theorem Rp:cU U1 td (top 15) OT=some d1:=rfl
noncomputable def OV:List Str:=["left","row"]
noncomputable def OW:List Str:=["left"]
def d2:SM:=
 (aj (c_ (bY 1) (cK (aa 0))
 (aj (cW (cJ (aa 1) (m2 (ax .Is) (mN (aN O1) (U (aa 0) (U (m2 aA (aa 1) (ae (.int 0))) ag))) (ae .non)))
 (aj (aQ (m2 aA (aa 1) (ae (.int 0))))
 ai)
 ai)
 ai))
 (aj (aQ (ae .non))
 ai))
def O2:bb:=bu 2 1 d2
def U3:aY:=U2.cu "free_name" O2
theorem Rq:bD OV OW (af (top 14))=true:=by decide +kernel
theorem Rr:cU U2 td (top 14) OV=some d2:=rfl
noncomputable def Mn:List Str:=["left","heads","name","met","steps","place"]
noncomputable def OX:List Str:=["left"]
def O3:bb:=bu 6 1 (z_ O1)
def U4:aY:=U3.cu "ring_among" O3
theorem Rt:bD Mn OX (af (top 16))=true:=by decide +kernel
theorem Ru:cq (je (A1 U3 (af (top 16)) Mn) U3 td 60 (af (top 16)) Mn 30) (aT (top 16))=some (z_ O1):=rfl
noncomputable def Mo:List Str:=["rows","left","order","name"]
noncomputable def Mp:List Str:=["rows"]
def T4:aY:={ U4 with xt:=true }
def O4:bb:=bu 4 1 (zZ (qL O0 O3) O2)
def U5:aY:=U4
theorem Rv:bD Mo Mp (af (top 13))=true:=by decide +kernel
theorem Rx:cq (je (sF T4 (af (top 13)) Mo "Ring" "steps" (D7 O0)) T4 td 60 (af (top 13)) Mo 30) (aT (top 13))=some (zZ (qL O0 O3) O2):=rfl
noncomputable def OY:List Str:=["rows","told","order"]
noncomputable def OZ:List Str:=["rows","told"]
def O_:SM:=(aj (aQ (m2 (ax .Eq) (aa 2) (aa 1))) ai)
def O5:bb:=nG 3 2 (D9 O4) O_ A6
def U6:aY:=U5.cu "is_merged" O5
theorem Pa:bD OY OZ (af (top 17))=true:=by decide +kernel
theorem Ry:cq (gU U5 td 60 (af (top 17)) OY 30) ((aT (top 17)).drop 1)=some O_:=rfl
noncomputable def Pb:List Str:=["rows","step","row"]
noncomputable def Pc:List Str:=["rows","step"]
def d6:SM:=
 (aj (cW (fh (bX (m1 (bG .tuple) (aa 1))) (m2 (ax .NotEq) (mN (aW .len) (U (aa 1) ag)) (ae (.int 3))))
 (aj (aQ (ae (.bl false)))
 ai)
 ai)
 (aj (cW (fh (bX (m1 (bG .str) (m2 aA (aa 1) (ae (.int 0))))) (fh (bX (m1 (bG .str) (m2 aA (aa 1) (ae (.int 1))))) (bX (mN (aV F3) (U (m2 aA (aa 1) (ae (.int 2))) (U (ae (.int 0)) (U (m2 (az .Sub) (mN (aW .len) (U (aa 0) ag)) (ae (.int 1))) ag)))))))
 (aj (aQ (ae (.bl false)))
 ai)
 ai)
 (aj (aw 2 (m2 aA (aa 0) (m2 aA (aa 1) (ae (.int 2)))))
 (aj (aQ (cJ (m2 (ax .In) (m2 aA (aa 1) (ae (.int 0))) (aa 2)) (cJ (m2 (ax .In) (m2 aA (aa 1) (ae (.int 1))) (aa 2)) (m2 (ax .Lt) (bP fL cC (aa 2) (U (m2 aA (aa 1) (ae (.int 0))) ag)) (bP fL cC (aa 2) (U (m2 aA (aa 1) (ae (.int 1))) ag))))))
 ai))))
def O6:bb:=bu 3 2 d6
def U7:aY:=U6.cu "is_claim" O6
theorem Rz:bD Pb Pc (af (top 19))=true:=by decide +kernel
theorem RC:cU U6 td (top 19) Pb=some d6:=rfl
noncomputable def Mq:List Str:=["rows","steps","ones","others"]
noncomputable def Pd:List Str:=["rows","steps"]
def O7:bb:=bu 4 2 (Ad O6)
def U8:aY:=U7.cu "is_ring" O7
theorem RD:bD Mq Pd (af (top 18))=true:=by decide +kernel
theorem RE:cq (je (A2 U7 (af (top 18)) Mq) U7 td 60 (af (top 18)) Mq 30) (aT (top 18))=some (Ad O6):=rfl
noncomputable def Pe:List Str:=["_law_cell_here","_law_many","_law_letters","_law_k","_law_base","_law_size","_law_at","_law_names_here","_law_name","_law_j","_law_turn"]
noncomputable def Pf:List Str:=["_law_cell_here","_law_many"]
def d8:SM:=
 (aj (aw 2 (ae (.str "abcdefghijklmnopqrstuvwxyz")))
 (aj (aw 4 (cp (mN (aV F1) (U (aa 1) (U (aa 0) (U (ae (.int 26)) ag)))) true (ae .non) (bz (U (ae (.int 8)) ag)) 0 [0]))
 (aj (aw 5 (m2 (az .Add) (ae (.int 1)) (mN (aV F1) (U (aa 0) (U (ae (.int 8)) (U (ae (.int 8)) ag))))))
 (aj (aw 6 (mN (aV F1) (U (aa 0) (U (ae (.int 9)) (U (aa 5) ag)))))
 (aj (aw 7 (mN cm ag))
 (aj (c_ (bY 3) (bz (U (aa 1) ag))
 (aj (aw 8 (ae (.str "")))
 (aj (c_ (bY 9) (bz (U (aa 5) ag))
 (aj (aw 8 (m2 (az .Add) (aa 8) (m2 aA (aa 2) (m2 (az .Mod) (m2 (az .Add) (m2 aA (aa 4) (aa 9)) (m2 (az .Mult) (aa 3) (mN (aW .int) (U (m2 (ax .Eq) (aa 9) (aa 6)) ag)))) (ae (.int 26))))))
 ai))
 (aj (cW (cJ (m2 (ax .Eq) (mN (aV F1) (U (aa 0) (U (ae (.int 10)) (U (ae (.int 4)) ag)))) (ae (.int 1))) (m2 (ax .Lt) (aa 1) (ae (.int 9))))
 (aj (aw 8 (bP wj ki (ae (.str "")) (U (cp (m2 aA (aa 1) (aa 0)) true (ae .non) (cK (br (aa 4) true (ae .non) false (m2 (az .Add) (aa 3) (ae (.int 1))))) 0 [2]) ag)))
 ai)
 ai)
 (aj (eh (bP fL bB (aa 7) (U (aa 8) ag)))
 ai)))))
 (aj (aw 10 (mN (aV F1) (U (aa 0) (U (ae (.int 11)) (U (aa 1) ag)))))
 (aj (aQ (m2 (az .Add) (br (aa 7) false (aa 10) true (ae .non)) (br (aa 7) true (ae .non) false (aa 10))))
 ai))))))))
def O8:bb:=bu 11 2 d8
def U9:aY:=U8.cu "_law_names" O8
theorem RG:bD Pe Pf (af (top 23))=true:=by decide +kernel
theorem RH:cU U8 td (top 23) Pe=some d8:=rfl
noncomputable def Pg:List Str:=["_law_cell_here","_law_turn","_law_names_here","_law_pool","_law_found","_law_k"]
noncomputable def Ph:List Str:=["_law_cell_here","_law_turn","_law_names_here"]
def d9:SM:=
 (aj (aw 3 (mN (aW .list) (U (aa 2) ag)))
 (aj (aw 4 (mN cm ag))
 (aj (c_ (bY 5) (bz (U (mN (aW .len) (U (aa 2) ag)) ag))
 (aj (eh (bP fL bB (aa 4) (U (bP fL gh (aa 3) (U (mN (aV F1) (U (aa 0) (U (m2 (az .Add) (aa 1) (aa 5)) (U (mN (aW .len) (U (aa 3) ag)) ag)))) ag)) ag)))
 ai))
 (aj (aQ (aa 4))
 ai))))
def O9:bb:=bu 6 3 d9
def Mr:aY:=U9.cu "_law_shuffled" O9
theorem RI:bD Pg Ph (af (top 24))=true:=by decide +kernel
theorem RJ:cU U9 td (top 24) Pg=some d9:=rfl
noncomputable def G8:List Str:=["_law_cell_here","_law_order_here","_law_some"]
noncomputable def G9:List Str:=["_law_cell_here","_law_order_here"]
def Pj:SM:=
 (aj (aw 2 (m2 (az .Add) (ae (.int 1)) (mN (aV F1) (U (aa 0) (U (ae (.int 0)) (U (ae (.int 4)) ag))))))
 (aj (aQ (cp (m2 aA (aa 2) (aa 0)) false (m2 (ax .Lt) (mN (aV F1) (U (aa 1) (U (m2 (az .Add) (ae (.int 1)) (aa 0)) (U (ae (.int 4)) ag)))) (aa 3)) (bz (U (mN (aW .len) (U (aa 1) ag)) ag)) 0 [0,1,2]))
 ai))
def JD:bb:=bu 3 2 Pj
def Ms:aY:=Mr.cu "_law_part" JD
theorem Mt:bD G8 G9 (af (top 25))=true:=by decide +kernel
theorem Mu:cU Mr td (top 25) G8=some Pj:=rfl
noncomputable def G_:List Str:=["_law_script","_law_cell_here","_law_size"]
noncomputable def Ha:List Str:=["_law_script"]
def Pk:SM:=
 (aj (aw 1 (mN (aV F0) (U (aa 0) (U (ae (.int 0)) ag))))
 (aj (aw 2 (m2 (az .Add) (ae (.int 2)) (mN (aV F1) (U (aa 1) (U (ae (.int 0)) (U (ae (.int 7)) ag))))))
 (aj (cW (m2 (ax .Eq) (mN (aV F1) (U (aa 1) (U (ae (.int 1)) (U (ae (.int 12)) ag)))) (ae (.int 5)))
 (aj (aw 2 (ae (.int 24)))
 ai)
 ai)
 (aj (aQ (mN (aN O9) (U (mN (aV F0) (U (aa 0) (U (ae (.int 2)) ag))) (U (ae (.int 0)) (U (mN (aN O8) (U (mN (aV F0) (U (aa 0) (U (ae (.int 1)) ag))) (U (aa 2) ag))) ag)))))
 ai))))
def JE:bb:=bu 3 1 Pk
def Mv:aY:=Ms.cu "_law_order" JE
theorem Mw:bD G_ Ha (af (top 26))=true:=by decide +kernel
theorem Mx:cU Ms td (top 26) G_=some Pk:=rfl
noncomputable def Hc:List Str:=["_law_script","_law_order_here","_law_most","_law_cell_here","_law_many"]
noncomputable def Hd:List Str:=["_law_script","_law_order_here","_law_most"]
def Pl:SM:=
 (aj (aw 3 (mN (aV F0) (U (aa 0) (U (ae (.int 0)) ag))))
 (aj (aw 4 (m2 (az .Add) (ae (.int 1)) (mN (aV F1) (U (aa 3) (U (ae (.int 2)) (U (ae (.int 6)) ag))))))
 (aj (cW (cJ (m2 (ax .Eq) (mN (aV F1) (U (aa 3) (U (ae (.int 3)) (U (ae (.int 8)) ag)))) (ae (.int 3))) (m2 (ax .Lt) (mN (aW .len) (U (aa 1) ag)) (ae (.int 9))))
 (aj (aw 4 (ae (.int 12)))
 ai)
 ai)
 (aj (aQ (cp (mN (aN JD) (U (mN (aV F0) (U (aa 2) (U (m2 (az .Add) (ae (.int 3)) (aa 0)) ag))) (U (aa 1) ag))) true (ae .non) (bz (U (mN (aW .min) (U (aa 4) (U (aa 2) ag))) ag)) 0 [1,0]))
 ai))))
def JF:bb:=bu 5 3 Pl
def My:aY:=Mv.cu "_law_rows" JF
theorem Mz:bD Hc Hd (af (top 27))=true:=by decide +kernel
theorem MA:cU Mv td (top 27) Hc=some Pl:=rfl
noncomputable def He:List Str:=["_law_rows_here","_law_step","_law_row"]
noncomputable def Hf:List Str:=["_law_rows_here","_law_step"]
def Pm:SM:=
 (aj (cW (fh (bX (m1 (bG .tuple) (aa 1))) (fh (m2 (ax .NotEq) (mN (aW .len) (U (aa 1) ag)) (ae (.int 3))) (bX (mN (aV F2) (U (m2 aA (aa 1) (ae (.int 2))) ag)))))
 (aj (aQ (ae (.bl false)))
 ai)
 ai)
 (aj (cW (bX (gC .LtE .Lt (ae (.int 0)) (m2 aA (aa 1) (ae (.int 2))) (mN (aW .len) (U (aa 0) ag))))
 (aj (aQ (ae (.bl false)))
 ai)
 ai)
 (aj (aw 2 (m2 aA (aa 0) (m2 aA (aa 1) (ae (.int 2)))))
 (aj (cW (fh (m2 (ax .NotIn) (m2 aA (aa 1) (ae (.int 0))) (aa 2)) (m2 (ax .NotIn) (m2 aA (aa 1) (ae (.int 1))) (aa 2)))
 (aj (aQ (ae (.bl false)))
 ai)
 ai)
 (aj (aQ (m2 (ax .Lt) (bP fL cC (aa 2) (U (m2 aA (aa 1) (ae (.int 0))) ag)) (bP fL cC (aa 2) (U (m2 aA (aa 1) (ae (.int 1))) ag))))
 ai)))))
def JG:bb:=bu 3 2 Pm
def MB:aY:=My.cu "_law_is_claim" JG
theorem MC:bD He Hf (af (top 29))=true:=by decide +kernel
theorem MD:cU My td (top 29) He=some Pm:=rfl
noncomputable def Hg:List Str:=["_law_rows_here","_law_steps","_law_ones","_law_k"]
noncomputable def Hh:List Str:=["_law_rows_here","_law_steps"]
def Pn:SM:=
 (aj (cW (fh (bX (m1 (bG .list) (aa 1))) (m2 (ax .Lt) (mN (aW .len) (U (aa 1) ag)) (ae (.int 2))))
 (aj (aQ (ae (.bl false)))
 ai)
 ai)
 (aj (aw 2 (mN cm ag))
 (aj (c_ (bY 3) (bz (U (mN (aW .len) (U (aa 1) ag)) ag))
 (aj (cW (fh (bX (mN (aN JG) (U (aa 0) (U (m2 aA (aa 1) (aa 3)) ag)))) (m2 (ax .In) (m2 aA (m2 aA (aa 1) (aa 3)) (ae (.int 0))) (aa 2)))
 (aj (aQ (ae (.bl false)))
 ai)
 ai)
 (aj (cW (cJ (m2 (ax .Gt) (aa 3) (ae (.int 0))) (m2 (ax .NotEq) (m2 aA (m2 aA (aa 1) (m2 (az .Sub) (aa 3) (ae (.int 1)))) (ae (.int 1))) (m2 aA (m2 aA (aa 1) (aa 3)) (ae (.int 0)))))
 (aj (aQ (ae (.bl false)))
 ai)
 ai)
 (aj (eh (bP fL bB (aa 2) (U (m2 aA (m2 aA (aa 1) (aa 3)) (ae (.int 0))) ag)))
 ai))))
 (aj (aQ (m2 (ax .Eq) (m2 aA (m2 aA (aa 1) (m1 qv (ae (.int 1)))) (ae (.int 1))) (m2 aA (m2 aA (aa 1) (ae (.int 0))) (ae (.int 0)))))
 ai))))
def Hi:bb:=bu 4 2 Pn
def ME:aY:=MB.cu "_law_is_ring" Hi
theorem MF:bD Hg Hh (af (top 30))=true:=by decide +kernel
theorem MH:cU MB td (top 30) Hg=some Pn:=rfl
noncomputable def Hj:List Str:=["_law_cell_here","_law_one","_law_other","_law_order_here","_law_rest","_law_ahead","_law_amid","_law_behind","_law_row"]
noncomputable def Hk:List Str:=["_law_cell_here","_law_one","_law_other","_law_order_here"]
def Po:SM:=
 (aj (aw 4 (mN (aN O9) (U (aa 0) (U (ae (.int 10)) (U (cp (aa 0) false (m2 (ax .NotIn) (aa 0) (mN ik (U (aa 1) (U (aa 2) ag)))) (cK (aa 3)) 0 [1,2]) ag)))))
 (aj (aw 5 (mN (aV F1) (U (aa 0) (U (ae (.int 0)) (U (ae (.int 3)) ag)))))
 (aj (aw 6 (m2 (az .Add) (aa 5) (mN (aV F1) (U (aa 0) (U (ae (.int 1)) (U (ae (.int 3)) ag))))))
 (aj (aw 7 (m2 (az .Add) (aa 6) (mN (aV F1) (U (aa 0) (U (ae (.int 2)) (U (ae (.int 3)) ag))))))
 (aj (aw 8 (m2 (az .Add) (m2 (az .Add) (br (aa 4) true (ae .non) false (aa 5)) (mN cm (U (aa 1) ag))) (br (aa 4) false (aa 5) false (aa 6))))
 (aj (aQ (m2 (az .Add) (m2 (az .Add) (aa 8) (mN cm (U (aa 2) ag))) (br (aa 4) false (aa 6) false (aa 7))))
 ai))))))
def JH:bb:=bu 9 4 Po
def MI:aY:=ME.cu "_law_with" JH
theorem MJ:bD Hj Hk (af (top 31))=true:=by decide +kernel
theorem MK:cU ME td (top 31) Hj=some Po:=rfl
noncomputable def Hl:List Str:=["_law_script","_law_rows_here","_law_order_here","_law_cell_here","_law_names_here","_law_k","_law_row","_law_at"]
noncomputable def Hm:List Str:=["_law_script","_law_rows_here","_law_order_here"]
def Pp:SM:=
 (aj (aw 3 (mN (aV F0) (U (aa 0) (U (ae (.int 11)) ag))))
 (aj (aw 4 (br (mN (aN O9) (U (aa 3) (U (ae (.int 10)) (U (aa 2) ag)))) true (ae .non) false (m2 (az .Add) (ae (.int 2)) (mN (aV F1) (U (aa 3) (U (ae (.int 0)) (U (ae (.int 4)) ag)))))))
 (aj (c_ (bY 5) (bz (U (mN (aW .len) (U (aa 4) ag)) ag))
 (aj (aw 6 (mN (aN JH) (U (mN (aV F0) (U (aa 0) (U (m2 (az .Add) (ae (.int 12)) (aa 5)) ag))) (U (m2 aA (aa 4) (m2 (az .Sub) (aa 5) (ae (.int 1)))) (U (m2 aA (aa 4) (aa 5)) (U (aa 2) ag))))))
 (aj (aw 7 (mN (aV F1) (U (aa 3) (U (m2 (az .Add) (ae (.int 1)) (aa 5)) (U (m2 (az .Add) (mN (aW .len) (U (aa 1) ag)) (ae (.int 1))) ag)))))
 (aj (aw 1 (m2 (az .Add) (m2 (az .Add) (br (aa 1) true (ae .non) false (aa 7)) (mN cm (U (aa 6) ag))) (br (aa 1) false (aa 7) true (ae .non))))
 ai))))
 (aj (aQ (aa 1))
 ai))))
def JI:bb:=bu 8 3 Pp
def ML:aY:=MI.cu "_law_laid" JI
theorem MM:bD Hl Hm (af (top 32))=true:=by decide +kernel
theorem MN:cU MI td (top 32) Hl=some Pp:=rfl
noncomputable def Dk:List Str:=["_law_rows_here","e"]
noncomputable def Hn:List Str:=["_law_rows_here"]
def Ho:SM:=(aj (aQ (ae .non)) ai)
def JJ:bb:=nG 2 1 (D_ O4) Ho hdS
def Pq:aY:=ML.cu "_law_refused" JJ
theorem MO:bD Dk Hn (af (top 33))=true:=by decide +kernel
theorem MP:cq (gU ML td 60 (af (top 33)) Dk 30) ((aT (top 33)).drop 1)=some Ho:=rfl
noncomputable def Hq:List Str:=["_law_script","_law_order_here","_law_rows_here","_law_handed","_law_steps","_law_again"]
noncomputable def Dm:List Str:=["_law_script"]
def Pr:SM:=
 (aj (aw 1 (mN (aN JE) (U (aa 0) ag)))
 (aj (aw 2 (mN (aN JI) (U (aa 0) (U (mN (aN JF) (U (aa 0) (U (aa 1) (U (ae (.int 8)) ag)))) (U (aa 1) ag)))))
 (aj (aw 3 (cp (mN (aW .list) (U (aa 0) ag)) true (ae .non) (cK (aa 2)) 0 []))
 (aj (aw 4 (mN (aN JJ) (U (aa 3) ag)))
 (aj (cW (fh (m2 (ax .Is) (aa 4) (ae .non)) (fh (m2 (ax .NotEq) (aa 3) (aa 2)) (bX (mN (aN Hi) (U (aa 2) (U (aa 4) ag))))))
 (aj (aQ (ae (.bl false)))
 ai)
 ai)
 (aj (cW (fh (m2 (ax .IsNot) (mN (aN O7) (U (aa 3) (U (aa 4) ag))) (ae (.bl true))) (m2 (ax .IsNot) (mN (aN O5) (U (aa 3) (U (aa 1) ag))) (ae (.bl false))))
 (aj (aQ (ae (.bl false)))
 ai)
 ai)
 (aj (eh (bP fL gf (aa 4) ag))
 (aj (aw 5 (mN (aN JJ) (U (aa 3) ag)))
 (aj (cW (m2 (ax .IsNot) (mN (aN O5) (U (aa 3) (U (mN cm ag) ag))) (ae (.bl false)))
 (aj (aQ (ae (.bl false)))
 ai)
 ai)
 (aj (aQ (cJ (m2 (ax .IsNot) (aa 5) (ae .non)) (cJ (mN (aN Hi) (U (aa 2) (U (aa 5) ag))) (m2 (ax .Eq) (aa 3) (aa 2)))))
 ai))))))))))
def Hr:bb:=bu 6 1 Pr
theorem MQ:bD Hq Dm (af (top 34))=true:=by decide +kernel
theorem MR:cU Pq td (top 34) Hq=some Pr:=rfl
theorem RK:F0=pureOf (bu 2 2 nH):=rfl
theorem RL:F1=pureOf (bu 8 3 lQ):=rfl
theorem o1:O1=bu 4 2 o7:=rfl
theorem o2:O2=bu 2 1 (zY O1):=rfl
theorem o6:O6=bu 3 2 (CZ F3):=rfl
theorem o8:O8=bu 11 2 (z5 F1):=rfl
theorem o9:O9=bu 6 3 (CM F1):=rfl
theorem RM:JD=bu 3 2 (CO F1):=rfl
theorem RN:JE=bu 3 1 (xu F1 F0 O9 O8):=rfl
theorem RO:JF=bu 5 3 (CQ F1 F0 JD):=rfl
theorem RP:JG=bu 3 2 (C0 F2):=rfl
theorem RQ:Hi=bu 4 2 (C4 JG):=rfl
theorem RR:JH=bu 9 4 (C6 F1 O9):=rfl
theorem RT:JI=bu 8 3 (C7 F1 F0 O9 JH):=rfl
theorem RU:Hr=bu 6 1 (Di JE JI JF JJ Hi O7 O5):=rfl
theorem RV(i:Int):F2 [.int i]=.ok (false,.bl true):=by
 refine gv (ao:=[]) rfl ?_ rfl;unfold OM;rw[bF (by rfl)]
 show fy (JB [some (.int i)] [])=_
 have h1:bG .bool (.int i) []=.ok (.bl false) []:=rfl;have h2:bG .int (.int i) []=.ok (.bl true) []:=rfl;simp[JB,h1,h2]
theorem RW:GQ F3:=by
 intro p n hp hn;refine gv (ao:=[]) rfl ?_ rfl;unfold OP;rw[bF (by rfl)]
 show fy (JC [some (.int p),some (.int 0),some (.int ((n:Int) - 1))] [])=_
 have h1:bG .bool (.int (p:Int)) []=.ok (.bl false) []:=rfl;have h2:bG .int (.int (p:Int)) []=.ok (.bl true) []:=rfl
 have z1:b_ .LtE (.int 0) (.int (p:Int)) []=.ok (.bl true) []:=by
  have:ax .LtE (.int 0) (.int (p:Int)) []=.ok (.bl true) []:=by simp
  exact this
 have z2:b_ .LtE (.int (p:Int)) (.int ((n:Int) - 1)) []=.ok (.bl true) []:=by
  have:ax .LtE (.int (p:Int)) (.int ((n:Int) - 1)) []=.ok (.bl true) []:=by simp;omega
  exact this
 have c:(gC .LtE .LtE (aa 1) (aa 0) (aa 2)) [some (.int p),some (.int 0),some (.int ((n:Int) - 1))] []=.ok (.bl true) []:=by
  unfold gC;simp[z1,z2];omega
 simp[JC,h1,h2,c]
theorem Pt:Ab O4:=GN GO (GL (by rw[o1];exact GJ)) (by rw[o2,o1];exact Gp)
theorem xI(ns:List Int)(hl:ns.length<=63):∃ ao,Hr [.lst (ns.map .int)] []=.ok (.bl true) ao:=by
 obtain⟨μ,hμ⟩:=z4;rw[← RL]at hμ;have nN:=xk;rw[← RK]at nN;have hS:uk O9:=by rw[o9];exact GA hμ
 rw[RU];refine xH ?_ ?_ ?_ ?_ ?_ ?_ ?_ ns
 ·rw[RN];exact GF hμ nN hS (by rw[o8];exact Gy hμ)
 ·rw[RT];exact G2 hμ nN hS (by rw[RR];exact GZ hμ hS)
 ·rw[RO];exact GH hμ nN (by rw[RM];exact GC hμ)
 ·exact G6 Pt
 ·rw[RQ,RP];exact GX (GS RV)
 ·exact GU (by rw[o6];exact GR RW)
 ·exact G7 Pt
noncomputable section
def stI:Stmt:=inClass (top 8) 0
def vI:Expr:=match aT stI with
 | .Assign _ v _::_=>v
 | _=>.Constant .none 0 ⟨0,0,0,0⟩
theorem RX:bD ["self","steps"] ["self","steps"] (af stI)=true:=by decide +kernel
def Hs:List Stmt:=match aT (top 33) with
 | .Try _ [.ExceptHandler _ _ b _] _ _ _::_=>b
 | _=>[]
end
theorem Ht{K:PySem.W.Frag}{mg:Str->Option Value}{B0:Addr}(XB:XBase K mg "LookError" B0):∃ (bn:Str) (B0:Addr) (a1 a2 a3 p1 p2 p3 p4 p5 apos pos:Pos) (pl:Env->Sem Bool),XBase K mg bn B0/\(bn == ("__debug__":Str))=false/\(af stI).names.lookup bn=some .globalImplicit /\
  aT stI=[.Assign [.Attribute (.Name "self" a1) "steps" a2] vI a3,.Expr (.Call (.Attribute (.Name bn p1) "__init__" apos) [.Name "self" p2,.Attribute (.Name "self" p3) "steps" p4] [] pos) p5] /\
  (∀ env,swapsWith vI (some (.Attribute (.Name "self" a1) "steps" a2)) a3.line env=pure false)/\(apos.endLine == pos.line)=true /\
  (∀ env:Env,eval (.Call (.Attribute (.Name bn p1) "__init__" apos) [.Name "self" p2,.Attribute (.Name "self" p3) "steps" p4] [] pos) env=(do
   let ov ← eval (.Name bn p1) env
   standAt apos.atName
   let (f,first) ← holding [ov] (getMethod ov "__init__" (pl env))
   callWith pos f first (backTo pos (starEach [.Name "self" p2,.Attribute (.Name "self" p3) "steps" p4] env)) (backToKw pos (keywordEach [] env)))):=
 ⟨"LookError",B0,_,_,_,_,_,_,_,_,_,_,_,XB,rfl,rfl,rfl,fun _=>rfl,rfl,fun _=>rfl⟩
theorem MS{P:Program}{w:World}{K:PySem.W.Frag}{mg:Str->Option Value}{base:Heap}(W:bA P w K mg base U4 8){fo fI cI:Addr}{fd:FuncData}{tk:Tok}(F:bO P w K mg base dW 8 fo fd Ak (cM (bh mg) O0))(hb:Binds K fd Ak [.int 0 tk])(hm:mg "own_copy"=some (.ref fo))(hk:PySem.W.keepIn K (.ref fo)=true) :
    ∀ (A':Around) (ot:List Env) (s':Shared) (e:Addr) (H1:Hp) (E':XK),bJ 8 (A'.deeper (envOfC "Ring.__init__" (af stI) s'.heap.objs.size fI (.ref cI)))->bj ((bW dW P w K mg base ["self","steps"] "Ring.__init__" (af stI) fI (.ref cI) A' ot s' H1 E').iT.mk1 e) (bh mg) i5 vI (D7 O0):=by
  intro A' ot s' e H1 E' hr
  have G:GoodO ((bW dW P w K mg base ["self","steps"] "Ring.__init__" (af stI) fI (.ref cI) A' ot s' H1 E').iT.mk1 e) (bh mg) U4 8 (af stI) ["self","steps"]:=
    { scope:=rfl,names:=rfl,calm:=rfl,room:=hr,cN:=W.cN,fld:=W.fld,cst:=W.cst
      iu:=fun x F h=>⟨W.iu x F h⟩,fn:=fun x F h=>⟨W.fn x F h⟩,met:=fun m C F h=>⟨W.met m C F h⟩,cls:=fun C F h=>let ⟨j,h1,h2⟩:=W.cls C F h;⟨j,h1,⟨h2⟩⟩,clo:=W.clo }
  exact ui (Dd:=[.int 0]) (qT:=[.int 0]) F hr rfl hm hk hb (.cons ⟨tk,rfl⟩ .nil) (fun _ _ _=>.one (by simp only[au])) rfl rfl rfl (ka ((ej 60 _ (af stI) ["self","steps"] _ (mN (aW .list) (U (aa 1) ag)) G rfl).1 _) mL rfl)
theorem Hu{K:PySem.W.Frag}{mg:Str->Option Value}{C N0 fI q1 q2 q3 q4 q5:Addr}(na:PySem.W.findIn K (.ref C) "steps"=some none)(hmi:mg "isinstance"=none)(aC:mg "Ring"=some (.ref C))(e1:mg "Loop"=some (.ref q1))(e2:mg "NoKind"=some (.ref q2))(e3:mg "NoName"=some (.ref q3))(e4:mg "Tangled"=some (.ref q4))(e6:mg "Twice"=some (.ref q5))(e5:mg "ValueError"=none)
  (Hv:PySem.W.kitOne K (.ref C) (.type "ValueError")=some true) (kA:PySem.W.kitAny K (.ref C) [.ref q1,.ref q2,.ref q3,.ref q4,.ref q5]=some false) (kO:PySem.W.kitOne K (.ref C) (.ref C)=some true) :
  ∀ (X:Cx) (e d:Addr) (oe:Obj),X.env.scope=af (top 33)->X.mg=mg->X.K=K->X.N=Dk->AG X e C oe d N0 fI->∃ t,gZ X Hs t/\∀ (D:Ends) (σ:L2.St) (H:Hp) (v:V),((some ("e":Str)).isSome=true->σ[1]?=some (some (.ref e)))->H d=some (.xd [("steps",v)])->D.rt v H->t D σ H:=by
 intro X e d oe h1 h2 h3 h4 D4;subst h2 h3
 obtain⟨b1,b2,b3,b4,b5,a1,a2,a3,a4,a5,a6,a7,c1,c2,c3,c4,d1,d2,d3,d4,f1,g1,g2,g3,g4,j1,x1,LF⟩:∃ (b1 b2 b3 b4 b5 a1 a2 a3 a4 a5 a6 a7 c1 c2 c3 c4 d1 d2 d3 d4 f1 g1 g2 g3 g4:Pos) (j1 x1:Nat),Hs=[.If (.Call (.Name "isinstance" a1) [.Name "e" a2,.Tuple ([(("Loop":Str),b1),("NoKind",b2),("NoName",b3),("Tangled",b4),("Twice",b5)].map fun z=>.Name z.1 z.2) x1 a3] [] a4) [.Return (some (.Constant .none j1 a5)) a6] [] a7,
   .If (.BoolOp .And [.Call (.Name "isinstance" c1) [.Name "e" c2,.Name "Ring" c3] [] c4,.Call (.Name "isinstance" d1) [.Name "e" d2,.Name "ValueError" d3] [] d4] f1) [.Return (some (.Attribute (.Name "e" g1) "steps" g2)) g3] [] g4]:=⟨_,_,_,_,_,_,_,_,_,_,_,_,_,_,_,_,_,_,_,_,_,_,_,_,_,_,_,rfl⟩
 rw[LF];have gl:∀ x:Str,(af (top 33)).names.lookup x=some .globalImplicit->Gl X x:=fun x h=>by show X.env.scope.names.lookup x=_;rw[h1];exact h
 have hi:X.N[1]?=some ("e":Str):=by rw[h4];rfl
 have hv:uu X.env.scope ("e":Str):=.inl (by rw[h1];rfl)
 have ns:∀ p1 p2 p3 p4 p5:Pos,Names X [("Loop",p1),("NoKind",p2),("NoName",p3),("Tangled",p4),("Twice",p5)] [.ref q1,.ref q2,.ref q3,.ref q4,.ref q5]:=fun _ _ _ _ _=>.cons (da (gl _ rfl) e1 rfl) (.cons (da (gl _ rfl) e2 rfl) (.cons (da (gl _ rfl) e3 rfl) (.cons (da (gl _ rfl) e4 rfl) (.cons (da (gl _ rfl) e6 rfl) .nil))))
 refine⟨_,nT (uD (pC (yy D4 hi hv (gl _ rfl) hmi (ns _ _ _ _ _) (by simp) kA rfl rfl)) (jh (l4 uB)) l0)
  (jh (uD (pw_and (pC (vg D4 hi hv (gl _ rfl) hmi (da (gl _ rfl) aC rfl) kO rfl rfl)) (pw_and1 (pC (vg D4 hi hv (gl _ rfl) hmi (pT (gl _ rfl) e5 rfl (by decide) rfl) Hv rfl rfl)))).pt (jh (l4 (EW D4 na hi hv rfl rfl))) l0)),fun D σ H v g1 g3 g5 => ?_⟩
 have g1:=g1 rfl;refine⟨g1,⟨_,g3⟩,false,rfl,?_⟩;refine⟨g1,⟨_,g3⟩,true,rfl,?_⟩;refine⟨g1,⟨_,g3⟩,true,rfl,?_⟩;exact⟨g1,_,v,g3,by simp[List.lookup],g5⟩
set_option maxHeartbeats 8000000 in
theorem all_mk{P:Program}{w:World}{K:PySem.W.Frag}{h:Heap}{mg:Str->Option Value}{fa:Addr}(X:K.In h)(G:h.Ns mainGlobals mg)(hfa:mg "law"=some (.ref fa))
  (nb:rJ K=true)
  {q0:Tok} (z0:PySem.W.nsIn K mainGlobals "DEEPEST"=some (some (.int 8 q0)))
  {f0:Addr} {RY:FuncData} (a0:cV K "_law_cell" (top 21) f0 RY)
  {f1:Addr} {RZ:FuncData} (a1:cV K "_law_mix" (top 22) f1 RZ)
  {f2:Addr} {R_:FuncData} (a2:cV K "_law_whole" (top 28) f2 R_)
  {f3:Addr} {Sa:FuncData} (a3:cV K "is_whole" (top 11) f3 Sa)
  {Hw T1:Addr} {Pu:Obj} {MT:Tok} {n1:Nat} {MU Dp:Option Addr} {MV:Array (Option Value)} {MW Dq Dr Ds Al Dt:Value} (Ed:PySem.W.nsIn K mainGlobals "own_copy"=some (some (.ref Hw))) (MX:K.lookup Hw=some ⟨MW,MU,.func (PySem.W.fnOf "own_copy" "own_copy" (bQ (top 2)) (aT (top 2)) (af (top 2)) (.ref T1) Dq Dr Ds Dp Al Dt),MV⟩) (MY:PySem.W.codeIn K Al "own_copy"=true) (Du:PySem.W.keepIn K (.ref Hw)=true) (JK:K.lookup T1=some Pu) (JL:Pu.data=.seq #[.int 0 MT] n1)
  {Sb:Addr} {MZ:FuncData} (JM:cV K "place_behind" (top 15) Sb MZ)
  {Sd:Addr} {M0:FuncData} (JN:cV K "free_name" (top 14) Sd M0)
  {Se:Addr} {M1:FuncData} (JO:cV K "ring_among" (top 16) Se M1)
  {Pw:Addr} {M3:FuncData} (Hx:cV K "merged" (top 13) Pw M3)
  {M4:Addr} {M5 M6:Option Addr} {M7:Array (Option Value)} {M8 M9 M_ Na Nb:Value} {c5:Addr} (Nc:PySem.W.nsIn K mainGlobals "is_merged"=some (some (.ref M4))) (Nd:K.lookup M4=some ⟨M8,M5,.func (PySem.W.fnOf "is_merged" "is_merged" (bQ (top 17)) (aT (top 17)) (af (top 17)) .none M9 M_ Na M6 (.ref c5) Nb),M7⟩) (Nf:PySem.W.codeIn K (.ref c5) "is_merged"=true) (JP:PySem.W.keepIn K (.ref M4)=true)
  {Sf:Addr} {Ng:FuncData} (JQ:cV K "is_claim" (top 19) Sf Ng)
  {Sg:Addr} {Nh:FuncData} (JR:cV K "is_ring" (top 18) Sg Nh)
  {Sh:Addr} {Ni:FuncData} (JS:cV K "_law_names" (top 23) Sh Ni)
  {Si:Addr} {Nj:FuncData} (JT:cV K "_law_shuffled" (top 24) Si Nj)
  {Nk:Addr} {Hy:FuncData} (Am:cV K "_law_part" (top 25) Nk Hy)
  {Nl:Addr} {Hz:FuncData} (An:cV K "_law_order" (top 26) Nl Hz)
  {Nn:Addr} {HD:FuncData} (Ao:cV K "_law_rows" (top 27) Nn HD)
  {Np:Addr} {HE:FuncData} (Ap:cV K "_law_is_claim" (top 29) Np HE)
  {Nq:Addr} {HF:FuncData} (Aq:cV K "_law_is_ring" (top 30) Nq HF)
  {Nr:Addr} {HG:FuncData} (Ar:cV K "_law_with" (top 31) Nr HG)
  {Nt:Addr} {HH:FuncData} (As:cV K "_law_laid" (top 32) Nt HH)
  {Dv:Addr} {HI HJ:Option Addr} {HK:Array (Option Value)} {HL HM HN HP HQ:Value} {Px:Addr} (Dw:PySem.W.nsIn K mainGlobals "_law_refused"=some (some (.ref Dv))) (Dx:K.lookup Dv=some ⟨HL,HI,.func (PySem.W.fnOf "_law_refused" "_law_refused" (bQ (top 33)) (aT (top 33)) (af (top 33)) .none HM HN HP HJ (.ref Px) HQ),HK⟩) (Dy:PySem.W.codeIn K (.ref Px) "_law_refused"=true) (Au:PySem.W.keepIn K (.ref Dv)=true)
  {Dz:Addr} {HR A7:Option Addr} {HS:Array (Option Value)} {HU A8 A9 A_ xJ Ba:Value} (DA:PySem.W.nsIn K mainGlobals "law"=some (some (.ref Dz))) (DB:K.lookup Dz=some ⟨HU,HR,.func (PySem.W.fnOf "law" "law" (bQ (top 34)) (aT (top 34)) (af (top 34)) .none A8 A9 A_ A7 xJ Ba),HS⟩) (DC:PySem.W.codeIn K xJ "law"=true) (DD:PySem.W.keepIn K (.ref Dz)=true)
  {C N0 B0 fI cI q1 q2 q3 q4 q5:Addr} (aC:PySem.W.nsIn K mainGlobals "Ring"=some (some (.ref C)))
  {Sj qC:Str} {Gs Py:List Value} {Sl:List Str} {Nu:List Value} {Sm:Bool} {Nv:Option Bool} {Sn:Option Addr} {So Sq Sr Ss Su:Option Value} (lC:K.lookup C=some (excClassObj Sj qC C N0 Gs Py true Sl Nu Sm Nv Sn So Sq Sr Ss Su "ValueError.__new__")) (nC:PySem.W.nsIn K N0 "__init__"=some (some (.ref fI))) (tC:og K Py=true)
  {Nw:ClassData} (x1:PySem.W.clsIn K C=some Nw) (x2:eQ Nw.mro=true) (x3:Nw.hasDict=true) (x4:PySem.W.findIn K (.ref C) "__setattr__"=some (some (.builtin "object.__setattr__"))) (x5:PySem.W.findIn K (.ref C) "__getattribute__"=some (some (.builtin "BaseException.__getattribute__"))) (Nx:PySem.W.findIn K (.ref C) "__getattr__"=some none) (x5c:PySem.W.mroIn K C (.type "BaseException")=some true) (x6:PySem.W.hasDictIn K C=true) (x7:Ih K N0 "__init__"=some (some (.ref fI))) (x8:PySem.W.keepIn K (.ref C)=true) (x9:PySem.W.typeIn K (.ref fI)=some (.type "function"))
  {Sv Sw:Option Addr} {Sx:Array (Option Value)} {Sy Sz SA SD SE:Value} (lI:K.lookup fI=some ⟨Sy,Sv,.func (PySem.W.fnOf "__init__" "Ring.__init__" (bQ stI) (aT stI) (af stI) .none Sz SA SD Sw (.ref cI) SE),Sx⟩) (yI:PySem.W.codeIn K (.ref cI) "Ring.__init__"=true) (wI:PySem.W.keepIn K (.ref fI)=true)
  (JU:PySem.W.findIn K (.ref C) "steps"=some none) (aB:PySem.W.nsIn K mainGlobals "LookError"=some (some (.ref B0))) (gB:PySem.W.specialIn K (.ref B0) "__getattribute__"=some (some (.builtin "type.__getattribute__"))) (rB:PySem.W.readsIn K B0 (.type "type")=true) (iB:PySem.W.findCls K (.ref B0) (.type "type") "__init__"=some (.val (.builtin "ValueError.__init__")))
  (i1:PySem.W.findIn K (.ref C) "__class__"=some (some (.builtin "object.__class__"))) (i2:PySem.W.specialIn K (.builtin "object.__class__") "__get__"=some (some (.builtin "getset_descriptor.__get__"))) (i3:PySem.W.takesIn K (.builtin "object.__class__")=some true) (i4:PySem.W.mroIn K C (.type "object")=some true)
  (e1:PySem.W.nsIn K mainGlobals "Loop"=some (some (.ref q1))) (e2:PySem.W.nsIn K mainGlobals "NoKind"=some (some (.ref q2))) (e3:PySem.W.nsIn K mainGlobals "NoName"=some (some (.ref q3))) (e4:PySem.W.nsIn K mainGlobals "Tangled"=some (some (.ref q4))) (e6:PySem.W.nsIn K mainGlobals "Twice"=some (some (.ref q5))) (e5:PySem.W.nsIn K mainGlobals "ValueError"=some none)
  (hex:PySem.W.exmOne K (.ref C) (.ref B0)=some true) (DE:PySem.W.exmOne K (.ref C) (.ref C)=some true) (Hv:PySem.W.kitOne K (.ref C) (.type "ValueError")=some true) (kA:PySem.W.kitAny K (.ref C) [.ref q1,.ref q2,.ref q3,.ref q4,.ref q5]=some false) (kO:PySem.W.kitOne K (.ref C) (.ref C)=some true)
  : ∃ fd:FuncData,(∀ (s:Shared) (v:Value),BindsTo s fd ⟨[v],[]⟩ [("_law_script",v)])/\∀ base:Heap,K.In base->base.Ns mainGlobals mg->bO P w K mg base dW 26 fa fd Dm (cM (bh mg) Hr):=by
 have e:=hfa.symm.trans (PySem.W.mg_of X G DA);cases e;have E0:=a0.fn;have b0:=E0.binds (ps:=OF) fun _ _ _ _ _ _=>all2 fun _ _=>rfl
 have E1:=a1.fn;have b1:=E1.binds (ps:=OI) fun _ _ _ _ _ _=>ud fun _ _ _=>rfl
 have E2:=a2.fn;have b2:=E2.binds (ps:=OL) fun _ _ _ _ _ _=>all1 fun _=>rfl
 have E3:=a3.fn;have b3:=E3.binds (ps:=OO) fun _ _ _ _ _ _=>ud fun _ _ _=>rfl
 have Ny:CA K "own_copy" "own_copy" (top 2) (.ref T1) Hw _:=⟨⟨_,_,_,_,_,_,_,_,_,rfl,MX,MY⟩,Du⟩
 have Nz:Binds K (PySem.W.fnOf "own_copy" "own_copy" (bQ (top 2)) (aT (top 2)) (af (top 2)) (.ref T1) Dq Dr Ds Dp Al Dt) Ak []:=fun s us X hl=>by
  rw[List.append_nil]at hl ⊢;exact all2 (p:=fun us=>BindsTo s _ ⟨us,[]⟩ (Ak.zip us)) (fun _ _=>PySem.W.binds_K X rfl JK JL rfl rfl) us hl
 have NA:Binds K (PySem.W.fnOf "own_copy" "own_copy" (bQ (top 2)) (aT (top 2)) (af (top 2)) (.ref T1) Dq Dr Ds Dp Al Dt) Ak [.int 0 MT]:=fun s us X hl=>
  all1 (p:=fun us=>BindsTo s _ ⟨us,[]⟩ (Ak.zip (us++[.int 0 MT]))) (fun _=>PySem.W.binds_K X rfl JK JL rfl rfl) us (by simpa[Ak] using hl)
 have EI:=jM (st:=stI) lI yI wI;have bI:=EI.binds (ps:=["self","steps"]) fun _ _ _ _ _ _=>all2 fun _ _=>rfl
 have XB:XBase K mg "LookError" B0:=⟨PySem.W.mg_of X G aB,gB,rB,iB⟩;have XC:mr K C N0 fI:=⟨⟨_,_,_,_,_,_,_,_,_,_,_,_,_,_,lC,ri tC⟩,⟨_,x1,x2,x3⟩,x4,⟨x5,Nx,x5c⟩,x6,AH x7,x8,x9⟩;have XD:vb K mg C N0 fI cI _ stI "Ring.__init__" "steps" "self" "steps" vI:=⟨⟨_,EI⟩,rfl,dP RX,XC,bI,JU,rfl,rfl,rfl,Ht XB⟩;have NB:=JM.fn;have SG:=NB.binds (ps:=OU) fun _ _ _ _ _ _=>all2 fun _ _=>rfl
 have NC:=JN.fn;have SI:=NC.binds (ps:=OW) fun _ _ _ _ _ _=>all1 fun _=>rfl
 have ND:=JO.fn;have SJ:=ND.binds (ps:=OX) fun _ _ _ _ _ _=>all1 fun _=>rfl
 have HV:=Hx.fn;have Pz:=HV.binds (ps:=Mp) fun _ _ _ _ _ _=>all1 fun _=>rfl
 have PC:=jM (st:=(top 17)) Nd Nf JP;have SK:=PC.binds (ps:=OZ) fun _ _ _ _ _ _=>all2 fun _ _=>rfl
 have NF:=JQ.fn;have SN:=NF.binds (ps:=Pc) fun _ _ _ _ _ _=>all2 fun _ _=>rfl
 have NG:=JR.fn;have SO:=NG.binds (ps:=Pd) fun _ _ _ _ _ _=>all2 fun _ _=>rfl
 have NH:=JS.fn;have SQ:=NH.binds (ps:=Pf) fun _ _ _ _ _ _=>all2 fun _ _=>rfl
 have NI:=JT.fn;have SR:=NI.binds (ps:=Ph) fun _ _ _ _ _ _=>ud fun _ _ _=>rfl
 have DF:=Am.fn;have NJ:=DF.binds (ps:=G9) fun _ _ _ _ _ _=>all2 fun _ _=>rfl
 have DG:=An.fn;have NK:=DG.binds (ps:=Ha) fun _ _ _ _ _ _=>all1 fun _=>rfl
 have DH:=Ao.fn;have NL:=DH.binds (ps:=Hd) fun _ _ _ _ _ _=>ud fun _ _ _=>rfl
 have DI:=Ap.fn;have NM:=DI.binds (ps:=Hf) fun _ _ _ _ _ _=>all2 fun _ _=>rfl
 have DJ:=Aq.fn;have NN:=DJ.binds (ps:=Hh) fun _ _ _ _ _ _=>all2 fun _ _=>rfl
 have DK:=Ar.fn;have NO:=DK.binds (ps:=Hk) fun _ _ _ _ _ _=>Ln fun _ _ _ _=>rfl
 have DL:=As.fn;have NP:=DL.binds (ps:=Hm) fun _ _ _ _ _ _=>ud fun _ _ _=>rfl
 have HW:=jM (st:=(top 33)) Dx Dy Au;have NQ:=HW.binds (ps:=Hn) fun _ _ _ _ _ _=>all1 fun _=>rfl
 have NR:=jM (st:=(top 34)) DB DC DD;refine⟨PySem.W.fnOf "law" "law" (bQ (top 34)) (aT (top 34)) (af (top 34)) .none A8 A9 A_ A7 xJ Ba,fun s v=>.of_eq rfl,fun base _ _ => ?_⟩
 have V0:bA P w K mg base ({}:aY) 0:=bA.start (oH X G nb);have V1:=V0.zG (x:="DEEPEST") (d:=.int 8) (v:=.int 8) (PySem.W.mg_of X G z0) ⟨_,rfl⟩ rfl;have Y0:bA P w K mg base JA 0:=V1;have q0:=bL Y0 E0 Rb Rc;have Y1:bA P w K mg base Mh 1:=(Y0.mono (Nat.le_succ 0)).k_ (x:="_law_cell") (PySem.W.mg_of X G a0.ns) E0.kp b0 (ju q0) (Nat.le_refl _);have q1:=bL Y1 E1 Rg Rh;have Y2:bA P w K mg base Mi 2:=(Y1.mono (Nat.le_succ 1)).k_ (x:="_law_mix") (PySem.W.mg_of X G a1.ns) E1.kp b1 (ju q1) (Nat.le_refl _);have q2:=bL Y2 E2 Ri Rj;have Y3:bA P w K mg base Mj 3:=(Y2.mono (Nat.le_succ 2)).k_ (x:="_law_whole") (PySem.W.mg_of X G a2.ns) E2.kp b2 (ju q2) (Nat.le_refl _);have q3:=bL Y3 E3 Rk Rl;have Y4:bA P w K mg base OQ 4:=(Y3.mono (Nat.le_succ 3)).k_ (x:="is_whole") (PySem.W.mg_of X G a3.ns) E3.kp b3 (ju q3) (Nat.le_refl _);have X0:bA P w K mg base U0 4:=Y4;have wA:=V1.cu (x:="own_copy") (PySem.W.mg_of X G Ed) Du Nz CD;have rA:=nE wA Ny Ml (Mm _);have wB:=(V1.mono (Nat.le_succ 0)).cu (x:="own_copy") (PySem.W.mg_of X G Ed) Du Nz rA;have SS:=nE wB Ny Ml (Mm _);have wC:=(V1.mono (by decide:0<=2)).cu (x:="own_copy") (PySem.W.mg_of X G Ed) Du Nz SS
 have r0:bO P w K mg base dW 4 Hw _ Ak (cM (bh mg) O0):=nE wC Ny Ml (Mm _);have X1:bA P w K mg base U1 5:=X0.mono (Nat.le_succ 4);have r1:=bL X1 NB Ro Rp;have X2:bA P w K mg base U2 6:=X1.cu (PySem.W.mg_of X G JM.ns) NB.kp SG r1;have r2:=bL X2 NC Rq Rr;have X3:bA P w K mg base U3 7:=X2.cu (PySem.W.mg_of X G JN.ns) NC.kp SI r2;have r3:=sE X3 ND Rt Ru (fun X G _ st c h=>xb G st c h)
 have X4:bA P w K mg base U4 8:=X3.cu (PySem.W.mg_of X G JO.ns) ND.kp SJ r3;have SU:bA P w K mg base T4 8:=X4.toXt;have r4:bO P w K mg base (iV P w) 11 Pw _ Mp (kH (bh mg) O4):=zV SU rfl ⟨HV.ex,HV.kp⟩ Rv Rx (fun cdv A outer s H E hr G' st' c' h=>qH XD hr (PySem.W.mg_of X G aC) rfl G' (MS X4 (r0.mono (by decide)) NA (PySem.W.mg_of X G Ed) Du) st' c' h)
 have X5:bA P w K mg base U5 12:=X4.mono (by decide:8<=12)
 have r5:=o4 (nm:=none) (cn:="Ring") (fld:="steps") (i:=0) (cb:=D9 O4) (hnd:=A6) (R:=fun _ H Q=>Q (.bl false) H) X5 PC rfl Pa rfl Ry (PySem.W.mg_of X G aC) XC ⟨i1,i2,i3,i4⟩ (PySem.W.mg_of X G aC) DE rfl (fun _ h=>nomatch h) (fun _ h=>nomatch h) rfl
  (fun A outer s H E xe E' hr G' w9=>Gj (j:=0) (i:=2) (y:="order") G' (r4.mono (by decide)) rfl (PySem.W.mg_of X G Hx.ns) HV.kp Pz w9 rfl rfl (dP Pa).nd rfl rfl)
  C_ (fun X e d oe _ _ _ _ _=>⟨_,jh (l4 Ay),fun D σ H v _ _ h=>h⟩) (fun α Z Ω H d v r ay Q S r1 hq k=>by
   simp only[A6,jD]at hq;cases hq;exact k _ H α Z (bN.refl S.has) S (aX rfl))
 have X6:bA P w K mg base U6 13:=X5.cu (PySem.W.mg_of X G Nc) JP SK r5;have r6:=bL X6 NF Rz RC;have X7:bA P w K mg base U7 14:=X6.cu (PySem.W.mg_of X G JQ.ns) NF.kp SN r6;have r7:=sE X7 NG RD RE (fun X G _ st c h=>xc G st c h)
 have X8:bA P w K mg base U8 15:=X7.cu (PySem.W.mg_of X G JR.ns) NG.kp SO r7;have r8:=bL X8 NH RG RH;have X9:bA P w K mg base U9 16:=X8.cu (PySem.W.mg_of X G JS.ns) NH.kp SQ r8;have r9:=bL X9 NI RI RJ;have PD:bA P w K mg base Mr 17:=X9.cu (PySem.W.mg_of X G JT.ns) NI.kp SR r9;have r10:=bL PD DF Mt Mu;have PF:bA P w K mg base Ms 18:=PD.cu (PySem.W.mg_of X G Am.ns) DF.kp NJ r10;have r11:=bL PF DG Mw Mx;have PH:bA P w K mg base Mv 19:=PF.cu (PySem.W.mg_of X G An.ns) DG.kp NK r11;have r12:=bL PH DH Mz MA;have PJ:bA P w K mg base My 20:=PH.cu (PySem.W.mg_of X G Ao.ns) DH.kp NL r12;have r13:=bL PJ DI MC MD;have PK:bA P w K mg base MB 21:=PJ.cu (PySem.W.mg_of X G Ap.ns) DI.kp NM r13;have r14:=bL PK DJ MF MH;have PL:bA P w K mg base ME 22:=PK.cu (PySem.W.mg_of X G Aq.ns) DJ.kp NN r14;have r15:=bL PL DK MJ MK;have PM:bA P w K mg base MI 23:=PL.cu (PySem.W.mg_of X G Ar.ns) DK.kp NO r15;have r16:=bL PM DL MM MN;have PN:bA P w K mg base ML 24:=PM.cu (PySem.W.mg_of X G As.ns) DL.kp NP r16
 have r17:=o4 (nm:=some "e") (cn:="Ring") (fld:="steps") (i:=1) (cb:=D_ O4) (hnd:=hdS) (R:=fun v H Q=>Q v H) PN HW rfl MO rfl MP (PySem.W.mg_of X G aC) XC ⟨i1,i2,i3,i4⟩ (PySem.W.mg_of X G aB) hex rfl (fun _ h=>by cases h;rfl) (fun _ h=>by cases h;rfl) rfl
  (fun A outer s H E xe E' hr G' w9=>Gk (j:=0) G' (r4.mono (by decide)) rfl (PySem.W.mg_of X G Hx.ns) HV.kp Pz w9 rfl rfl)
  C9 (Hu JU (oH X G nb _ (by decide)) (PySem.W.mg_of X G aC) (PySem.W.mg_of X G e1) (PySem.W.mg_of X G e2) (PySem.W.mg_of X G e3) (PySem.W.mg_of X G e4) (PySem.W.mg_of X G e6) (PySem.W.mg_none_of X G e5) Hv kA kO) (fun α Z Ω H d v r ay Q S r1 hq k=>by
   simp only[hdS,jD]at hq;cases hq;exact k _ H α Z (bN.refl S.has) S r1)
 have SV:bA P w K mg base Pq 25:=PN.cu (PySem.W.mg_of X G Dw) Au NQ r17;have r18:=bL SV NR MQ MR;exact r18
theorem walk{l:PySem.W.OpenLaw}{q:Program}{loose:List Str}{XP:(Str->Option Value)->Heap->Prop}{YP:World->Heap->Prop}{d:DefRec}{K:Params->PySem.W.Frag}(hn:l.most=some 63)(hdf:d.params.defaults=[])
  (hY:∀ (w:World) (h:Heap),YP w h->(K w.params).In h) (hK:∀ pm,oF (K pm)=true)
  (F:∀ (w:World) (mg:Str->Option Value) (fa:Addr) (h:Heap),(K w.params).In h->h.Ns mainGlobals mg->mg d.name=some (.ref fa) ->
   ∃ fd:FuncData,(∀ (s:Shared) (u:Value),BindsTo s fd ⟨[u],[]⟩ [("_law_script",u)])/\∀ base:Heap,(K w.params).In base->base.Ns mainGlobals mg->bO l.prog w (K w.params) mg base dW 26 fa fd Dm (cM (bh mg) Hr)) :
  PySem.W.WalkO q loose XP YP l.row.toRowW d [] (fun f vs=>PySem.call f vs):=
 L2.yn (n:=63) (k:=26) (x:="_law_script") (CX:=fun _=>dW) (sp:=fun w=>FG Hr) hn (by decide) hdf ⟨rfl,by decide,by decide⟩ hY (fun w mg fa h a b c=>let ⟨fd,q1,q2⟩:=F w mg fa h a b c;⟨fd,q1,fun base d e=>(q2 base d e).imp fun vs H Q E z=>z (bh mg)⟩) (fun w H a ns hl _ hS κ=>zF (Fd (hK w.params) hS) (xI ns hl).choose_spec) fun _ _ _ _ _ z=>z
end Dj
def PySem.W.Fast.tw11140847730118457919:PySem.Program:=PySem.Challenge.pw_taglook_k13_hidden_rings
theorem PySem.W.Fast.te11140847730118457919:PySem.Challenge.pw_taglook_k13_hidden_rings=PySem.W.Fast.tw11140847730118457919:=rfl
def PySem.W.Fast.tw4913081736958141040:Nat:=0
def PySem.W.Fast.tw13699856021697267887:Nat:=0
def PySem.W.Fast.tw14965944527613387110:Nat:=0
def PySem.W.Fast.tw15333357371496048451:Nat:=0
def PySem.W.Fast.tw17934825322482277622:Nat:=0
def PySem.W.Fast.tw7775707349644750094:Nat:=0
def PySem.W.Fast.tw6540988401549456470:Nat:=0
def PySem.W.Fast.tw15941595910871408677:Nat:=0
def PySem.W.Fast.tw5749413635210662812:Nat:=0
def PySem.W.Fast.tw5831380116156177834:Nat:=0
def PySem.W.Fast.tw10845823256599308780:Nat:=0
def PySem.W.Fast.tw3925164056210269362:Nat:=0
def PySem.W.Fast.tw15380820021179184387:Nat:=0
def PySem.W.Fast.tw6961346439965691371:Nat:=0
open PySem PySem.W PyProof.Rows
set_option maxRecDepth 100000 in
set_option maxHeartbeats 0 in
theorem PySem.Challenge.cw_taglook_k13_hidden_rings_holds : PySem.Challenge.rw_taglook_k13_hidden_rings.Holds := by
 w_on;o_law;k_head;(case hw=>w_witness2)
 k_fill
 refine Dj.walk (l:=PySem.Challenge.rw_taglook_k13_hidden_rings) rfl rfl (fun w h Y=>PySem.W.kIn_of Y) ?hK ?F
 case hK=>intro pm;exact(Eq.refl true)
 case F=>
  intro w mg fa h KX G hmg;refine' Dj.all_mk KX G hmg ?nb ?z0 ?a0 ?a1 ?a2 ?a3 ?Ed ?MX ?MY ?Du ?JK ?JL ?JM ?JN ?JO ?Hx ?Nc ?Nd ?Nf ?JP ?JQ ?JR ?JS ?JT ?Am ?An ?Ao ?Ap ?Aq ?Ar ?As ?Dw ?Dx ?Dy ?Au ?DA ?DB ?DC ?DD ?aC ?lC ?nC ?tC ?x1 ?x2 ?x3 ?x4 ?x5 ?Nx ?x5c ?x6 ?x7 ?x8 ?x9 ?lI ?yI ?wI ?JU ?aB ?gB ?rB ?iB ?i1 ?i2 ?i3 ?i4 ?e1 ?e2 ?e3 ?e4 ?e6 ?e5 ?hex ?DE ?Hv ?kA ?kO
  (case nb=>exact(Eq.refl true))
  (case z0=>k_is)
  (case a0 | a1 | a2 | a3=>refine' Mir.kF ?a ?l ?c ?k;(case a=>k_is);(case l=>k_is);(case c=>k_is);(case k=>k_is))
  (case Ed | MX | MY | Du | JK=>k_is)
  (case JL=>exact rfl)
  (case JM | JN | JO | Hx=>refine' Mir.kF ?a ?l ?c ?k;(case a=>k_is);(case l=>k_is);(case c=>k_is);(case k=>k_is))
  (case Nc | Nd | Nf | JP=>k_is)
  (case JQ | JR | JS | JT | Am | An | Ao | Ap | Aq | Ar | As=>refine' Mir.kF ?a ?l ?c ?k;(case a=>k_is);(case l=>k_is);(case c=>k_is);(case k=>k_is))
  (case Dw | Dx | Dy | Au | DA | DB | DC | DD | aC | lC | nC=>k_is)
  (case tC=>exact(Eq.refl true))
  (case x1=>k_is)
  (case x2 | x3=>exact rfl)
  (case x4 | x5 | Nx | x5c | x6=>k_is)
  (case x7=>exact rfl)
  (case x8 | x9 | lI | yI | wI | JU | aB | gB | rB | iB | i1 | i2 | i3 | i4 | e1 | e2 | e3 | e4 | e6 | e5=>k_is)
  (case hex | DE | Hv=>exact(Eq.refl (some true)))
  (case kA=>exact(Eq.refl (some false)))
  (case kO=>exact(Eq.refl (some true)))
