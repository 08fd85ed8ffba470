import PyProof.Rows.All
import Wide.All
import OpenK.AllK
import Wide.FinOn
import Lean
import PyProof.EqAt
import PyProof.EqKinds
import PyProof.TupleCall
import PyProof.EnumFor
import PyProof.EnumMake
import PyProof.EnumStmt
import PyProof.Rows.EnumRows
import PyProof.RulesTry
import PyProof.Rows.StrWeight2
import PyProof.AutoListH
import PyProof.Draws
import PyProof.Rows.SortStr
import PyProof.Rows.SortShell
import PyProof.Rows.SortWalk
import PyProof.Rows.StrMeet
import PyProof.DictIter
import PyProof.DictWalks
import KE.KDictOf
import PyProof.AttrMissSeq
import PyProof.ListRange
import PyProof.DictItems
import PyProof.FitsReplace
import PyProof.ExcClass3
import PyProof.ExcAttrAll.ValueError
import KE.KIsAll
import PyProof.ExcBaseAll.ValueError
import PyProof.RulesAs
import KE.KTryMore
import PyProof.ListCopy
import PyProof.Rows.FactsT1
import PyProof.Rows.FactsT2
import PyProof.Rows.SetFrom
import PyProof.SetRoads
import PySem.Challenge.RW_taglook_k37_facts_known
set_option Elab.async false
set_option bootstrap.genMatcherCode false
set_option genSizeOfSpec false
set_option linter.all false
set_option maxRecDepth 100000
set_option maxHeartbeats 4000000
noncomputable section
namespace L2
open PySem PySem.Spec PyProof.Rows
abbrev Key:=Sum Int Str
noncomputable def kc:Key->Value->Bool
 |.inl k,v=>Value.isInt k v
 |.inr x,v=>Value.isStrOf x v
noncomputable def Li(w:World):Key->Int
 |.inl k=>hashInt k
 |.inr x=>hashStr w x
theorem bJ:∀{k:Key}{v:Value},kc k v=true->(∃i t,k=Sum.inl i/\v=Value.int i t)\/(∃x t,k=Sum.inr x/\v=Value.str x t)
 |.inl i,v,h=>by
  obtain⟨t,e⟩:=Value.isInt_shape (k:=i) (v:=v) h;exact .inl ⟨i,t,rfl,e⟩
 |.inr x,v,h=>by
  obtain⟨t,e⟩:=Value.isStrOf_shape (x:=x) (v:=v) h;exact .inr ⟨x,t,rfl,e⟩
theorem uy(i:Int)(t:Tok):kc (.inl i) (.int i t)=true:=by simp[kc,Value.isInt]
theorem uz(x:Str)(t:Tok):kc (.inr x) (.str x t)=true:=by simp[kc,Value.isStrOf]
theorem Dm(a b:Int):decide ((Sum.inl a:Key)=Sum.inl b)=(a==b):=by
 by_cases e:a=b
 .subst e;simp
 .have h:¬ (Sum.inl a:Key)=Sum.inl b:=λq=>e (Sum.inl.inj q)
  rw[decide_eq_false h];exact(beq_eq_false_iff_ne.mpr e).symm
theorem Dp(a b:Str):decide ((Sum.inr a:Key)=Sum.inr b)=decide (a=b):=by
 by_cases e:a=b
 .subst e;simp
 .have h:¬ (Sum.inr a:Key)=Sum.inr b:=λq=>e (Sum.inr.inj q)
  rw[decide_eq_false h,decide_eq_false e]
theorem Dq(a:Int)(b:Str):decide ((Sum.inl a:Key)=Sum.inr b)=false:=decide_eq_false (λq=>nomatch q)
theorem Dr(a:Str)(b:Int):decide ((Sum.inr a:Key)=Sum.inl b)=false:=decide_eq_false (λq=>nomatch q)
def bu(prog:Program)(w:World):PySem.KeyKind prog w Key where
 is:=kc
 hash:=Li w
 inj:=λv a b g f=>by
  rcases bJ g with ⟨i,t,rfl,rfl⟩|⟨x,t,rfl,rfl⟩
  .rcases bJ f with ⟨j,u,rfl,e⟩|⟨y,u,rfl,e⟩
   .injection e with c _;rw[c]
   .exact nomatch e
  .rcases bJ f with ⟨j,u,rfl,e⟩|⟨y,u,rfl,e⟩
   .exact nomatch e
   .injection e with c _;rw[c]
 byValue:=λk v h=>by
  rcases bJ h with ⟨i,t,rfl,rfl⟩|⟨x,t,rfl,rfl⟩<;>rfl
 pyHash:=λd h=>by
  rcases bJ d with ⟨i,t,rfl,rfl⟩|⟨x,t,rfl,rfl⟩
  .exact wpAny_pyHash_int h
  .exact wpAny_pyHash_str h
 eqBool:=λl d h=>by
  rcases bJ l with ⟨i,t,rfl,rfl⟩|⟨x,t,rfl,rfl⟩
  .rcases bJ d with ⟨j,u,rfl,rfl⟩|⟨y,u,rfl,rfl⟩
   .rw[Dm]at h;exact wpAny_eqBool_int h
   .rw[Dq]at h;exact SeqAt.EqAt.int_str i t y u _ _ _ _ h
  .rcases bJ d with ⟨j,u,rfl,rfl⟩|⟨y,u,rfl,rfl⟩
   .rw[Dr]at h;exact SeqAt.EqAt.str_int x t j u _ _ _ _ h
   .rw[Dp]at h;exact wpAny_eqBool_str h
 «strs» := λk x t v h=>by
  rcases bJ h with ⟨i,u,rfl,e⟩|⟨y,u,rfl,e⟩
  .exact nomatch e
  .injection e with c _
   subst c;cases v<;>rfl
theorem oK(prog:Program)(w:World)(i:Int)(t:Tok):(bu prog w).is (.inl i) (.int i t)=true:=uy i t
theorem oM(prog:Program)(w:World)(x:Str)(t:Tok):(bu prog w).is (.inr x) (.str x t)=true:=uz x t
inductive V where
 |non|bl (b:Bool)|int (i:Int)|str (x:Str)|FI (b:Array UInt8)|flt (b:UInt64)|ref (a:Addr)|ty (n:String)
 deriving DecidableEq
def RelV:V->Value->Prop
 |.non,u=>u=Value.none
 |.bl b,u=>u=Value.bool b
 |.int i,u=>∃t,u=Value.int i t
 |.str x,u=>∃t,u=Value.str x t
 |.FI b,u=>∃t,u=Value.bytes b t
 |.flt b,u=>∃t,u=Value.float b t
 |.ref a,u=>u=Value.ref a
 |.ty n,u=>u=Value.type n
abbrev Vals:List V->List Value->Prop:=Paired RelV
theorem Vals.length{xs:List V}{us:List Value}(r:Vals xs us):xs.length=us.length:=Paired.length r
theorem Vals.get:∀{xs:List V}{us:List Value}{i:Nat}{x:V},Vals xs us->xs[i]?=some x->∃u,us[i]?=some u/\RelV x u
 |_,_,_,_,.nil,e=>by simp at e
 |_,_,0,_,.cons r _,e=>by simp at e;subst e;exact⟨_,rfl,r⟩
 |_,_,i+1,x,.cons _ t,e=>by
  obtain⟨u,h1,h2⟩:=Vals.get (i:=i) (x:=x) t (by simpa using e)
  exact⟨u,by simpa using h1,h2⟩
theorem Vals.set{x:V}{u:Value}(r:RelV x u):∀{xs:List V}{us:List Value} (i:Nat),Vals xs us->Vals (xs.set i x) (us.set i u)
 |_,_,_,.nil=>.nil
 |_,_,0,.cons _ t=>.cons r t
 |_,_,i+1,.cons q t=>.cons q (Vals.set r i t)
theorem Vals.append:∀{xs a:List V}{us b:List Value},Vals xs us->Vals a b->Vals (xs++a) (us++b)
 |_,_,_,_,.nil,s=>s
 |_,_,_,_,.cons r t,s=>.cons r (Vals.append t s)
theorem Vals.take:∀{xs:List V}{us:List Value} (n:Nat),Vals xs us->Vals (xs.take n) (us.take n)
 |_,_,0,_=>.nil
 |_,_,_+1,.nil=>.nil
 |_,_,n+1,.cons r t=>.cons r (Vals.take n t)
theorem Vals.drop:∀{xs:List V}{us:List Value} (n:Nat),Vals xs us->Vals (xs.drop n) (us.drop n)
 |_,_,0,r=>r
 |_,_,_+1,.nil=>.nil
 |_,_,n+1,.cons _ t=>Vals.drop n t
def fh:Option V->Option Value->Prop
 |some v,some u=>RelV v u
 |none,none=>True
 |_,_=>False
def KV{κ:Type}:List (κ×V)->List (κ×Value)->Prop:=Paired λ(p:κ×V) (q:κ×Value)=>p.1=q.1/\RelV p.2 q.2
noncomputable def kV:Key->V
 |.inl i=>.int i
 |.inr x=>.str x
inductive HO where
 |lst (xs:List V)
 |tup (xs:List V)
 |dK (kvs:List (Key×V))|dT (kvs:List (List Key×V))
 |set (S:Int->Bool) (n:Nat)
 |ins (C dx:Addr) (fs:List (Str×V))
 |own (x:Addr)
 |xd (fs:List (Str×V))
 |met (f x:Addr)
 |Lj (lo hi:Int)
 |cw (o:Obj) (u:HO)
 |lS (ps:Array Value)
 |ext (φ:Heap->Prop)
abbrev Hp:=Addr->Option HO
noncomputable def upd(H:Hp)(a:Addr)(o:HO):Hp:=λb=>if b=a then some o else H b
theorem aF{H:Hp}{a:Addr}{o:HO}:upd H a o a=some o:=by unfold upd;rw[if_pos rfl]
theorem ai{H:Hp}{a b:Addr}{o:HO}(h:b≠a):upd H a o b=H b:=by unfold upd;rw[if_neg h]
theorem Ct{H:Hp}{a b:Addr}{o u:HO}(h:H a=some o)(h':H b=some u)(d:o≠u):a≠b:=by
 intro e;subst e;rw[h]at h';exact d (Option.some.inj h')
theorem aM{H:Hp}{a b:Addr}{o:HO}(h:H a=some o)(h':H b=none):a≠b:=by
 intro e;subst e;rw[h]at h';cases h'
section
variable(P:Program)(w:World)
def bQ(H:Hp)(h:Heap)(a:Addr):HO->Prop
 |.lst xs=>xs.length<=sizeLine/\∃(b:List Value) (n:Nat),Vals xs b/\h.get? a=some {cls:=.type "list",data:=.seq b.toArray n}
 |.tup xs=>xs.length<=sizeLine/\∃b:List Value,Vals xs b/\IsTup h a b.toArray
 |.dK kvs=>kvs.length<=sizeLine/\(a==sysModules)=false/\∃vs,KV kvs vs/\h.DictOf (bu P w) a vs
 |.dT kvs=>kvs.length<=sizeLine/\(a==sysModules)=false/\∃xs:List (List Key×Addr×Value),
   Paired (λ(p:List Key×V) (q:List Key×Addr×Value)=>p.1=q.1/\H q.2.1=some (.tup (p.1.map kV))/\RelV p.2 q.2.2) kvs xs /\
   ∃o es i,h.get? a=some o/\o.ExactDict/\o.data=.dict es i/\es.toList=xs.map (entryOfKey (tupleKind (bu P w)))/\(xs.map (·.1)).Nodup
 |.set S n=>h.SetOf (intKind P w) a S n
 |.ins C dx fs=>H dx=some (.own a)/\fs.length<=1000/\dx≠a/\h.get? a=some (PySem.W.instObj C dx) /\
   ∃c,h.Ns1 dx c/\(∀f,fh (fs.lookup f) (c f))/\PySem.Within c (fs.map (·.1))
 |.own _=>∃o,h.get? a=some o
 |.xd fs=>∃c,h.Ns1 a c/\∀f,fh (fs.lookup f) (c f)
 |.Lj lo hi=>∃t u v,h.get? a=some {cls:=.type "range",data:=.fields #[.int lo t,.int hi u,.int 1 v]}
 |.cw o u=>h.get? a=some o/\bQ H h a u
 |.lS ps=>h.get? a=some {cls:=.none,data:=.fields ps}
 |.met f x=>h.get? a=some (PySem.W.methodObj (.ref f) (.ref x))
 |.ext d=>d h/\(∃o,h.get? a=some o)/\∀e g:Heap,d e->(∀o,e.get? a=some o->g.get? a=some o)->d g
def ff(H:Hp)(h:Heap):Prop:=∀a o,H a=some o->bQ P w H h a o
end
section
variable{P:Program}{w:World}{H H':Hp}{h h':Heap}{a:Addr}{o:HO}
theorem bQ.lt(x:bQ P w H h a o):a<h.objs.size:=by
 cases o with
 |lst c=>obtain⟨_,_,_,_,e⟩:=x;exact Heap.lt_size e
 |tup c=>obtain⟨_,_,_,p⟩:=x;exact p.lt
 |dK b=>obtain⟨_,_,_,_,o,_,_,e,_⟩:=x;exact Heap.lt_size e
 |dT b=>obtain⟨_,_,_,_,o,_,_,e,_⟩:=x;exact Heap.lt_size e
 |set S n=>obtain⟨o,_,_,_,e,_⟩:=x;exact Heap.lt_size e
 |ins C g d=>obtain⟨_,_,_,e,_⟩:=x;exact Heap.lt_size e
 |own y=>obtain⟨_,e⟩:=x;exact Heap.lt_size e
 |xd d=>obtain⟨_,⟨_,_,_,e,_⟩,_⟩:=x;exact Heap.lt_size e
 |Lj i j=>obtain⟨_,_,_,e⟩:=x;exact Heap.lt_size e
 |cw k u=>obtain⟨e,_⟩:=x;exact Heap.lt_size e
 |lS l=>exact Heap.lt_size (show h.get? a=some _ from x)
 |met f y=>exact Heap.lt_size (show h.get? a=some _ from x)
 |ext m=>obtain⟨_,⟨_,e⟩,_⟩:=x;exact Heap.lt_size e
theorem Paired.zz{e g:Type}{F G:e->g->Prop}:∀{c:List e}{d:List g},Paired F c d->(∀a b,F a b->G a b)->Paired G c d
 |_,_,.nil,_=>.nil
 |_,_,.cons r t,f=>.cons (f _ _ r) (Paired.zz t f)
theorem bQ.stay(x:bQ P w H h a o)(k:∀b u,(b=a\/H b=some (.own a))->h.get? b=some u->h'.get? b=some u)
  (E:∀b,H b=some (.own a)->H' b=some (.own a)) (F:∀b xs,H b=some (.tup xs)->H' b=some (.tup xs)):bQ P w H' h' a o:=by
 induction o with
 |lst xs=>obtain⟨z,l,n,r,e⟩:=x;exact⟨z,l,n,r,k _ _ (.inl rfl) e⟩
 |tup xs=>obtain⟨z,l,r,g,e,c⟩:=x;exact⟨z,l,r,g,k _ _ (.inl rfl) e,c⟩
 |dK m=>obtain⟨z,y,G,r,g,i,j,e,c⟩:=x;exact⟨z,y,G,r,g,i,j,k _ _ (.inl rfl) e,c⟩
 |dT m=>
  obtain⟨z,y,xs,r,g,i,j,e,c⟩:=x;exact⟨z,y,xs,Paired.zz r λp q z=>⟨z.1,F _ _ z.2.1,z.2.2⟩,g,i,j,k _ _ (.inl rfl) e,c⟩
 |set S n=>obtain⟨g,i,j,t,e,c⟩:=x;exact⟨g,i,j,t,k _ _ (.inl rfl) e,c⟩
 |ins C M I=>
  obtain⟨d,z,J,e,s,⟨A,i,j,K,c⟩,r⟩:=x;exact⟨E _ d,z,J,k _ _ (.inl rfl) e,s,⟨A,i,j,k _ _ (.inr d) K,c⟩,r⟩
 |own y=>obtain⟨g,e⟩:=x;exact⟨g,k _ _ (.inl rfl) e⟩
 |xd I=>obtain⟨s,⟨A,i,j,e,c⟩,r⟩:=x;exact⟨s,⟨A,i,j,k _ _ (.inl rfl) e,c⟩,r⟩
 |Lj N O=>obtain⟨t,u,v,e⟩:=x;exact⟨t,u,v,k _ _ (.inl rfl) e⟩
 |cw g u L=>obtain⟨e,q⟩:=x;exact⟨k _ _ (.inl rfl) e,L q⟩
 |lS B=>
  have e:h.get? a=some {cls:=.none,data:=.fields B}:=x
  show h'.get? a=some {cls:=.none,data:=.fields B}
  exact k a _ (.inl rfl) e
 |met f y=>
  have e:h.get? a=some (PySem.W.methodObj (.ref f) (.ref y)):=x
  show h'.get? a=some (PySem.W.methodObj (.ref f) (.ref y))
  exact k a _ (.inl rfl) e
 |ext Q=>obtain⟨p,⟨o,e⟩,D⟩:=x;exact⟨D _ _ p λo q=>k _ _ (.inl rfl) q,⟨o,k _ _ (.inl rfl) e⟩,D⟩
theorem ff.lt(x:ff P w H h)(e:H a=some o):a<h.objs.size:=(x a o e).lt
theorem ff.fresh(x:ff P w H h)(e:h.objs.size<=a):H a=none:=by
 cases q:H a with
 |none=>rfl
 |some u=>exact absurd (Nat.lt_of_lt_of_le (x.lt q) e) (Nat.lt_irrefl _)
theorem ff.kept(x:ff P w H h)(k:∀b u,h.get? b=some u->h'.get? b=some u):ff P w H h':=λa o e=>
 (x a o e).stay (λb u _ q=>k b u q) (λ_ q=>q) λ_ _ q=>q
theorem ff.laid(x:ff P w H h)(k:∀b u,h.get? b=some u->h'.get? b=some u)(i:h.objs.size<=a)(d:bQ P w (upd H a o) h' a o):ff P w (upd H a o) h':=λb u e=>by
 have f:=x.fresh i
 by_cases g:b=a
 .subst g;rw[aF]at e;cases e;exact d
 .rw[ai g]at e
  exact(x b u e).stay (λc v _ q=>k c v q) (λc q=>by rw[ai (aM q f)];exact q) λc j q=>by rw[ai (aM q f)];exact q
end
def Rd(H:Hp)(a:Addr)(u:HO):Prop:=H a=some u\/∃o,H a=some (.cw o u)
theorem Rd.ok{P:Program}{w:World}{H:Hp}{h:Heap}{a:Addr}{u:HO}(r:Rd H a u)(x:ff P w H h):bQ P w H h a u:=by
 rcases r with r|⟨o,r⟩
 .exact x a u r
 .obtain⟨_,q⟩:=x a _ r
  exact q
def Ge:Option HO->Prop
 |some (.lst _)=>True
 |some (.dK _)=>True
 |some (.dT _)=>True
 |some (.set _ _)=>True
 |some (.ins _ _ _)=>True
 |some (.ext _)=>True
 |_=>False
section
variable{P:Program}{w:World}{H:Hp}{h h':Heap}{x e:Addr}{o':HO}
theorem ff.write(ok:ff P w H h)(g:Ge (H x))(n:e=x\/H e=some (.own x))(k:∀b u,b≠e->h.get? b=some u->h'.get? b=some u)(l:∃u,h'.get? e=some u)
  (m:bQ P w (upd H x o') h' x o'):ff P w (upd H x o') h':=λb u q=>by
 have d:∀c y,H c=some (.own y)->c≠x:=λc y r z=>by subst z;rw[r]at g;exact g
 have f:∀c i,H c=some (.tup i)->c≠x:=λc i r z=>by subst z;rw[r]at g;exact g
 by_cases j:b=x
 .subst j;rw[aF]at q;cases q;exact m
 .rw[ai j]at q
  by_cases a:b=e
  .have o:H b=some (.own x):=by
    rcases n with z|z
    .exact absurd (a.trans z) j
    .rw[a];exact z
   rw[q]at o;cases o
   obtain⟨v,p⟩:=l;exact⟨v,by rw[a];exact p⟩
  .refine(ok b u q).stay (λc v hc r=>k c v ?_ r) (λc r=>by rw[ai (d c b r)];exact r) λc i r=>by rw[ai (f c i r)];exact r
   rcases hc with rfl|hc
   .exact a
   .rintro rfl
    rcases n with z|z
    .exact d c b hc z
    .rw[hc]at z;cases z;exact j rfl
end
structure Un(fs ex:List Addr)(H H':Hp)(h h':Heap):Prop where
 keep:∀b o,h.get? b=some o->H b=none->b∉fs->b∉ex->h'.get? b=some o
 slot:∀b o,h.get? b=some o->H b=none->b∈fs->b∉ex->∃sl,h'.get? b=some {o with slots:=sl}
 free:∀b o,h.get? b=some o->H b=none->b∉ex->H' b=none
 there:∀b o,h.get? b=some o->b∉ex->∃o',h'.get? b=some o'
 tups:∀b xs,H b=some (.tup xs)->H' b=some (.tup xs)
 eX:∀b o u,H b=some (.cw o u)->H' b=some (.cw o u)
 fK:∀b ps,H b=some (.lS ps)->∃more,H' b=some (.lS (ps++more))
section
variable{fs fs' ex ex':List Addr}{H H1 H2:Hp}{h h1 h2 h':Heap}{a x e:Addr}{o:HO}
theorem Un.any(u:Un fs ex H H1 h h1){b:Addr}{ob:Obj}(q:h.get? b=some ob)(n:H b=none)(a:b∉ex):∃d,h1.get? b=some {ob with slots:=d}:=by
 by_cases c:b∈fs
 .exact u.slot b ob q n c a
 .exact⟨ob.slots,u.keep b ob q n c a⟩
theorem Un.trans(a:Un fs ex H H1 h h1)(b:Un fs ex H1 H2 h1 h2):Un fs ex H H2 h h2 where
 keep:=λc d q n g e=>b.keep c d (a.keep c d q n g e) (a.free c d q n e) g e
 slot:=λc d q n g e=>by
  obtain⟨o,f⟩:=a.slot c d q n g e;obtain⟨j,k⟩:=b.slot c _ f (a.free c d q n e) g e;exact⟨j,k⟩
 free:=λc d q n e=>by
  obtain⟨l,f⟩:=a.there c d q e;exact b.free c l f (a.free c d q n e) e
 there:=λc d q e=>by
  obtain⟨l,f⟩:=a.there c d q e;exact b.there c l f e
 tups:=λc i q=>b.tups c i (a.tups c i q)
 eX:=λc d i q=>b.eX c d i (a.eX c d i q)
 fK:=λc m q=>by
  obtain⟨m1,f⟩:=a.fK c m q;obtain⟨m2,k⟩:=b.fK c _ f;exact⟨m1++m2,by rw[k,Array.append_assoc]⟩
theorem Un.kept(k:∀b u,h.get? b=some u->h'.get? b=some u):Un fs ex H H h h':=
 ⟨λb a q _ _ _=>k b a q,λb a q _ _ _=>⟨a.slots,k b a q⟩,λ_ _ _ n _=>n,λb a q _=>⟨a,k b a q⟩,λ_ _ q=>q,λ_ _ _ q=>q,λ_ c q=>⟨#[],by rw[q];simp⟩⟩
theorem Un.refl:Un fs ex H H h h:=Un.kept λ_ _ q=>q
theorem Un.laid(k:∀b u,h.get? b=some u->h'.get? b=some u)(d:h.objs.size<=a)(c:H a=none):Un fs ex H (upd H a o) h h' where
 keep:=λb u q _ _ _=>k b u q
 slot:=λb u q _ _ _=>⟨u.slots,k b u q⟩
 free:=λb u q n _=>by rw[ai (Nat.ne_of_lt (Nat.lt_of_lt_of_le (Heap.lt_size q) d))];exact n
 there:=λb u q _=>⟨u,k b u q⟩
 tups:=λb e q=>by rw[ai (aM q c)];exact q
 eX:=λb u e q=>by rw[ai (aM q c)];exact q
 fK:=λb f q=>⟨#[],by rw[ai (aM q c),q];simp⟩
theorem Un.write(c:Ge (H x))(j:e=x\/H e=some (.own x))(k:∀b u,b≠e->h.get? b=some u->h'.get? b=some u)(d:∃u,h'.get? e=some u):Un fs ex H (upd H x o) h h':=by
 have g:∀b,H b=none->b≠x:=λb n z=>by subst z;rw[n]at c;exact c
 have i:∀b,H b=none->b≠e:=λb n z=>by
  subst z;rcases j with r|r
  .exact g b n r
  .rw[n]at r;cases r
 have f:∀b u,H b=some u->¬ Ge (some u)->b≠x:=λb u q l z=>by subst z;rw[q]at c;exact l c
 refine⟨λb u q n _ _=>k b u (i b n) q,λb u q n _ _=>⟨u.slots,k b u (i b n) q⟩,λb u q n _=>by rw[ai (g b n)];exact n,λb u q _=>?_,
  λb m q=>by rw[ai (f b _ q λz=>z)];exact q,λb u m q=>by rw[ai (f b _ q λz=>z)];exact q,λb p q=>⟨#[],by rw[ai (f b _ q λz=>z),q];simp⟩⟩
 by_cases a:b=e
 .subst a;exact d
 .exact⟨u,k b u a q⟩
theorem Un.mono(u:Un fs ex H H1 h h1)(e:∀b∈fs,b∈fs')(d:∀b∈ex,b∈ex'):Un fs' ex' H H1 h h1:=
 ⟨λb c q n f a=>u.keep b c q n (λz=>f (e b z)) λz=>a (d b z),λ_ _ q n _ a=>u.any q n λz=>a (d _ z),λb c q n a=>u.free b c q n λz=>a (d b z),λb c q a=>u.there b c q λz=>a (d b z),u.tups,u.eX,u.fK⟩
end
noncomputable def JD(h:Heap)(H:Hp):List Addr:=(List.range h.objs.size).filter λa=>(H a).isSome
def ke(h:Heap)(H:Hp):Heap:=PySem.W.hideAll h (JD h H)
theorem uA(h:Heap)(H:Hp):(ke h H).objs.size=h.objs.size:=PySem.W.hideAll_size _ _
theorem vZ{h:Heap}{H:Hp}{b:Addr}{o:Obj}(e:h.get? b=some o)(n:H b=none):(ke h H).get? b=some o:=
 PySem.W.hideAll_get _ e λa=>by
  have q:(H b).isSome=true:=(List.mem_filter.mp a).2;rw[n]at q;simp at q
theorem zA{h:Heap}{H:Hp}{b:Addr}{o:Obj}(e:(ke h H).get? b=some o):h.get? b=some o/\H b=none:=by
 have a:h.get? b=some o:=PySem.W.of_hideAll (JD h H) e;refine⟨a,?_⟩;cases q:H b with
 |none=>rfl
 |some x=>
  have c:b∈JD h H:=List.mem_filter.mpr ⟨List.mem_range.mpr (Heap.lt_size a),by simp[q]⟩
  have z:(ke h H).get? b=none:=PySem.W.hideAll_none (JD h H) c;rw[z]at e;cases e
noncomputable def zB(g h:Heap)(L:Addr):List (Addr×Obj):=(List.range h.objs.size).filterMap λa=>if a=L\/(g.get? a).isSome=true then none else (h.get? a).map λo=>(a,o)
def rest(g h:Heap)(L d:Addr):List (Addr×Obj):=(zB g h L).filter λp=>decide (p.1≠d)
structure Mod(K:PySem.W.Frag)(mg:Str->Option Value)(base:Heap):Prop where
 zC:K.In base
 glob:base.Ns mainGlobals mg
 blt:∃mb,base.Ns builtinsNs mb/\∀x:Str,x≠"__name__"->mb x=bootBuiltins x
 nolimit:base.NoLimit
structure Cx where
 prog:Program
 w:World
 K:PySem.W.Frag
 mg:Str->Option Value
 base:Heap
 A:Around
 N:List Str
 s₀:Shared
 H₀:Hp
 env:Env
 outer:List Env
 stack:List Env
 ex:List Addr
 fn:Str->Bool
 calm:Bool
 pn:List (Addr×Obj)
 xe:Value->Shared->Prop
noncomputable def frs(l:List Env):List Addr:=l.filterMap (·.frame)
abbrev Cx.fs(X:Cx):List Addr:=frs X.outer
def uB(a:Scope)(x:Str):Prop:=a.names.lookup x=some .local\/a.names.lookup x=some .cell\/a.names.lookup x=some .free
def Loc(a:Scope)(x:Str):Prop:=a.names.lookup x=some .local\/a.names.lookup x=some .cell
def Look(env:Env)(h:Heap)(m:Str->Option Value)(x:Str)(u:Value):Prop:=
 (env.kindOf x=some .local/\m x=some u)\/((env.kindOf x=some .cell\/env.kindOf x=some .free)/\∃c,env.cells.lookup x=some c/\h.IsCell c (some u))
structure Cx.Ok(X:Cx):Prop where
 mod:Mod X.K X.mg X.base
 kind:X.env.scope.kind=.function
 glob:X.env.globals=mainGlobals
 blt:X.env.builtins=builtinsNs
 above:X.s₀.heap.objs.size<=X.env.locals
 inj:∀x y c,X.env.cells.lookup x=some c->X.env.cells.lookup y=some c->x=y
 has:∀x,(X.env.kindOf x=some .cell\/X.env.kindOf x=some .free)->∃c,X.env.cells.lookup x=some c
 cab:∀x c,X.fn x=true->X.env.cells.lookup x=some c->X.s₀.heap.objs.size<=c
 hd:X.calm=true->X.A.handled=none
 frames:X.A.frames=some X.stack
 zr:X.stack=X.outer\/(X.stack=X.env::X.outer/\X.env.frame=some X.env.locals)
 zD:∀b∈X.ex,b≠X.env.locals/\∀x c,X.env.cells.lookup x=some c->c≠b
 bs:∀b o,X.base.get? b=some o->X.s₀.heap.get? b=some o/\X.H₀ b=none
 qJ:X.base.objs.size<=X.s₀.heap.objs.size
 lD:∀b o,X.base.get? b=some o->b∉X.ex
 lE:∀b∈X.ex,b∉X.fs
 fi:X.s₀.heap.FunFrames X.base X.outer
 so:∀b∈X.fs,X.H₀ b=none
structure Inv(X:Cx)(pins:List (Addr×Obj))(σ:List (Option V))(H:Hp)(s:Shared):Prop where
 ok:X.Ok
 os:s.os=X.s₀.os
 bare:AllBare s.gens
 base:Un X.fs X.ex X.H₀ H X.s₀.heap s.heap
 loc:∃m,s.heap.Ns X.env.locals m/\∀(i:Nat) (x:Str) (v:V),X.N[i]?=some x->σ[i]?=some (some v)->uB X.env.scope x->∃u,RelV v u/\Look X.env s.heap m x u
 cell:∀x c,X.env.cells.lookup x=some c->∃v,s.heap.IsCell c v
 free:H X.env.locals=none
 cD:∀x c,X.env.cells.lookup x=some c->(H c=none\/∃o u,H c=some (.cw o u))/\(X.fn x=true->H c=none)
 pin:∀p∈X.pn++pins,s.heap.get? p.1=some p.2/\H p.1=none/\p.1≠X.env.locals/\p.1∉X.fs/\∀v,p.2.data≠.cell v
 hok:ff X.prog X.w H s.heap
 len:σ.length=X.N.length
section
variable{X:Cx}{pins:List (Addr×Obj)}{σ:List (Option V)}{H H':Hp}{s:Shared}{h':Heap}
theorem Cx.Ok.Lk(ok:X.Ok){b:Addr}{o:Obj}(e:X.base.get? b=some o):b∉X.fs:=λa=>by
 have:=(ok.fi.mem a).1;rw[e]at this;cases this
theorem Inv.bs(I:Inv X pins σ H s):∀b o,X.base.get? b=some o->s.heap.get? b=some o/\H b=none:=λb o e=>
 ⟨I.base.keep b o (I.ok.bs b o e).1 (I.ok.bs b o e).2 (I.ok.Lk e) (I.ok.lD b o e),I.base.free b o (I.ok.bs b o e).1 (I.ok.bs b o e).2 (I.ok.lD b o e)⟩
theorem Inv.bk(I:Inv X pins σ H s):∀b o,X.base.get? b=some o->s.heap.get? b=some o:=λb o e=>(I.bs b o e).1
theorem Inv.mod(I:Inv X pins σ H s):Mod X.K X.mg X.base:=I.ok.mod
theorem Inv.eg(I:Inv X pins σ H s):X.K.In s.heap:=I.ok.mod.zC.keeps I.bk
theorem Inv.nolimit(I:Inv X pins σ H s):s.heap.NoLimit:=I.ok.mod.nolimit.keeps I.bk
theorem Inv.lt(I:Inv X pins σ H s):X.env.locals<s.heap.objs.size:=let ⟨_,a,_⟩:=I.loc;a.lt
theorem Inv.sz(I:Inv X pins σ H s):X.s₀.heap.objs.size<=s.heap.objs.size:=Nat.le_trans I.ok.above (Nat.le_of_lt I.lt)
theorem Inv.Ll(I:Inv X pins σ H s){a:Addr}(h:s.heap.objs.size<=a):a∉X.fs:=λb=>by
 obtain⟨_,o,c,_⟩:=I.ok.fi.mem b;exact absurd (Nat.lt_of_lt_of_le (Heap.lt_size c) (Nat.le_trans I.sz h)) (Nat.lt_irrefl _)
theorem Inv.Gf(I:Inv X pins σ H s):∀x c,X.env.cells.lookup x=some c->c≠X.env.locals:=λx c e z=>by
 obtain⟨v,o,d,f⟩:=I.cell x c e;obtain⟨m,⟨g,h,i,a,b,_⟩,_⟩:=I.loc;rw[z,a]at d;cases d;rw[b]at f;cases f
theorem Inv.fi(I:Inv X pins σ H s):s.heap.FunFrames X.base X.outer:=by
 have a:∀(l:List Env),(∀b∈frs l,b∈X.fs)->X.s₀.heap.FunFrames X.base l->s.heap.FunFrames X.base l:=by
  intro l
  induction l with
  |nil=>intro _ _;trivial
  |cons h r i=>
   intro g j;obtain⟨k,⟨L,o,c,m,n,p⟩,q⟩:=j;have d:L∈X.fs:=g L (by unfold frs;rw[List.filterMap_cons,c];exact List.mem_cons_self)
   obtain⟨t,e⟩:=I.base.slot L o n (I.ok.so L d) d λz=>I.ok.lE L z d
   exact⟨k,⟨L,_,c,m,e,p⟩,i (λb f=>g b (by unfold frs;rw[List.filterMap_cons,c];exact List.mem_cons_of_mem _ f)) q⟩
 exact a X.outer (λ_ f=>f) I.ok.fi
theorem Inv.stack(I:Inv X pins σ H s):s.heap.FunFrames X.base X.stack:=by
 rcases I.ok.zr with e|⟨e,a⟩
 .rw[e];exact I.fi
 .rw[e]
  obtain⟨m,b,_⟩:=I.loc;refine .cons (by rw[I.ok.kind];decide) a b ?_ I.fi
  exact Heap.get?_none_of_le (Nat.le_trans I.ok.qJ I.ok.above)
theorem Inv.mT(I:Inv X pins σ H s):∀b∈frs X.stack,b∈X.env.locals::X.fs:=λb a=>by
 rcases I.ok.zr with e|⟨e,c⟩
 .rw[e]at a;exact List.mem_cons_of_mem _ a
 .rw[e]at a
  unfold frs at a;rw[List.filterMap_cons,c]at a;exact a
theorem Inv.jS(I:Inv X pins σ H s):∀b∈frs X.stack,H b=none:=λb hb=>by
 rcases List.mem_cons.mp (I.mT b hb)with e|hb
 .rw[e];exact I.free
 .obtain⟨_,o,a,_⟩:=I.ok.fi.mem hb
  exact I.base.free b o a (I.ok.so b hb) λz=>I.ok.lE b z hb
theorem Inv.step{g':Array GenState}{t':Nat}{d':Drawn}{ch:List Addr}(I:Inv X pins σ H s)
  (h:∀b∈ch,(b∈X.ex\/X.s₀.heap.objs.size<=b)/\b≠X.env.locals/\(∀x c,X.env.cells.lookup x=some c->c≠b)/\∀p∈X.pn++pins,p.1≠b)
  (keep:∀b o,b≠X.env.locals->b∉X.fs->b∉ch->s.heap.get? b=some o->H b=none->h'.get? b=some o)
  (slot:∀b o,b≠X.env.locals->b∈X.fs->b∉ch->s.heap.get? b=some o->H b=none->∃M,h'.get? b=some {o with slots:=M}) (free:∀b o,b∉ch->s.heap.get? b=some o->H b=none->H' b=none)
  (there:∀b o,b∉ch->s.heap.get? b=some o->∃E,h'.get? b=some E)
  (tups:∀b xs,H b=some (.tup xs)->H' b=some (.tup xs)) (eX:∀b o u,H b=some (.cw o u)->H' b=some (.cw o u)) (fK:∀b ps,H b=some (.lS ps)->∃more,H' b=some (.lS (ps++more)))
  (ns:∀m,s.heap.Ns X.env.locals m->h'.Ns X.env.locals m) (F:ff X.prog X.w H' h') (S:AllBare g') :
  Inv X pins σ H' {s with heap:=h',gens:=g',drawn:=d',toks:=t' }:=by
 have G:∀b o,X.s₀.heap.get? b=some o->b≠X.env.locals:=λb o e=>Nat.ne_of_lt (Nat.lt_of_lt_of_le (Heap.lt_size e) I.ok.above)
 have t:∀b o,X.s₀.heap.get? b=some o->b∉X.ex->b∉ch:=λb o e f A=>by
  rcases(h b A).1 with z|z
  .exact f z
  .exact absurd (Nat.lt_of_lt_of_le (Heap.lt_size e) z) (Nat.lt_irrefl _)
 have j:∀x c,X.env.cells.lookup x=some c->∀v,s.heap.IsCell c v->h'.IsCell c v:=λx c e v ⟨o,y,J⟩=>by
  have a:c∉ch:=λz=>(h c z).2.2.1 x c e rfl
  rcases(I.cD x c e).1 with C|⟨D,K,L⟩
  .by_cases O:c∈X.fs
   .obtain⟨M,q⟩:=slot c o (I.Gf x c e) O a y C
    exact⟨_,q,J⟩
   .exact⟨o,keep c o (I.Gf x c e) O a y C,J⟩
  .have g:s.heap.get? c=some D:=(I.hok c _ L).1
   have B:h'.get? c=some D:=(F c _ (eX c D K L)).1;rw[y]at g;cases g
   exact⟨o,B,J⟩
 refine⟨I.ok,I.os,S,⟨λb o e n A f=>?_,λb o e n A f=>?_,λb o e n f=>?_,λb o e f=>?_,λb xs e=>tups b xs (I.base.tups b xs e),λb o xs e=>eX b o xs (I.base.eX b o xs e),λb ps e=>?_⟩,?_,λx c e=>?_,?_,λx c e=>?_,λp P=>?_,F,I.len⟩
 .exact keep b o (G b o e) A (t b o e f) (I.base.keep b o e n A f) (I.base.free b o e n f)
 .obtain⟨M,g⟩:=I.base.slot b o e n A f
  obtain⟨N,B⟩:=slot b _ (G b o e) A (t b o e f) g (I.base.free b o e n f);exact⟨N,B⟩
 .obtain⟨E,g⟩:=I.base.there b o e f
  exact free b E (t b o e f) g (I.base.free b o e n f)
 .obtain⟨E,g⟩:=I.base.there b o e f
  exact there b E (t b o e f) g
 .obtain⟨m1,g⟩:=I.base.fK b ps e
  obtain⟨m2,B⟩:=fK b _ g;exact⟨m1++m2,by rw[B,Array.append_assoc]⟩
 .obtain⟨m,C,T⟩:=I.loc
  refine⟨m,ns m C,λi x v g B U=>?_⟩
  obtain⟨u,r,l⟩:=T i x v g B U;refine⟨u,r,?_⟩;rcases l with l|⟨k,c,e,z⟩
  .exact .inl l
  .exact .inr ⟨k,c,e,j x c e _ z⟩
 .obtain⟨v,z⟩:=I.cell x c e
  exact⟨v,j x c e v z⟩
 .obtain⟨m,⟨o,_,_,y,_⟩,_⟩:=I.loc
  exact free _ o (λz=>(h _ z).2.1 rfl) y I.free
 .obtain⟨v,o,y,J⟩:=I.cell x c e
  have a:c∉ch:=λz=>(h c z).2.2.1 x c e rfl
  refine⟨?_,λV=>free c o a y ((I.cD x c e).2 V)⟩
  rcases(I.cD x c e).1 with C|⟨D,K,L⟩
  .exact .inl (free c o a y C)
  .exact .inr ⟨D,K,eX c D K L⟩
 .obtain⟨e,n,Q,R,d⟩:=I.pin p P
  have a:p.1∉ch:=λz=>(h p.1 z).2.2.2 p P rfl
  exact⟨keep p.1 p.2 Q R a e n,free p.1 p.2 a e n,Q,R,d⟩
theorem Inv.un{t':Nat}(I:Inv X pins σ H s)(u:Un X.fs [] H H' s.heap h')(c:ff X.prog X.w H' h'):Inv X pins σ H' {s with heap:=h',toks:=t' }:=by
 obtain⟨m,⟨o,l,p,h,r⟩,_⟩:=id I.loc;obtain⟨q,i⟩:=u.any h I.free (by simp)
 exact I.step (g':=s.gens) (d':=s.drawn) (ch:=[]) (λ_ z=>nomatch z) (λb o _ d _ e n=>u.keep b o e n d (by simp)) (λb o _ d _ e n=>u.slot b o e n d (by simp)) (λb o _ e n=>u.free b o e n (by simp)) (λb o _ e=>u.there b o e (by simp)) u.tups u.eX u.fK (λt j=>by
  obtain⟨x,f,g,a,k⟩:=j;rw[h]at a;cases a
  exact⟨_,f,g,i,k⟩) c I.bare
theorem Inv.call{g':Array GenState}{t':Nat}{d':Drawn}{ch:List Addr}(I:Inv X pins σ H s)(u:Un (frs X.stack) ch H H' s.heap h')(g:ff X.prog X.w H' h')(l:AllBare g')
  (d:∀b∈ch,(b∈X.ex\/X.s₀.heap.objs.size<=b)/\b≠X.env.locals/\(∀x c,X.env.cells.lookup x=some c->c≠b)/\∀p∈X.pn++pins,p.1≠b) :
  Inv X pins σ H' {s with heap:=h',gens:=g',drawn:=d',toks:=t' }:=by
 obtain⟨m,⟨o,A,B,k,r⟩,_⟩:=id I.loc;obtain⟨C,h⟩:=u.any k I.free λz=>(d _ z).2.1 rfl
 exact I.step (ch:=ch) d (λb o h q a e n=>u.keep b o e n (λz=>(List.mem_cons.mp (I.mT b z)).elim h q) a) (λb o _ _ a e n=>u.any e n a) (λb o a e n=>u.free b o e n a) (λb o a e=>u.there b o e a) u.tups u.eX u.fK (λD t=>by
  obtain⟨E,i,j,f,y⟩:=t;rw[k]at f;cases f
  exact⟨_,i,j,h,y⟩) g l
theorem Inv.turned{t':Nat}{it:Addr}(I:Inv X pins σ H s)(k:∀b o,b≠it->s.heap.get? b=some o->h'.get? b=some o)(g:H it=none)(f:it≠X.env.locals)
  (h:it∈X.ex\/X.s₀.heap.objs.size<=it) (i:∀x c,X.env.cells.lookup x=some c->c≠it) (j:∀p∈X.pn++pins,p.1≠it):Inv X pins σ H {s with heap:=h',toks:=t' }:=by
 have d:∀b u,H b=some u->b≠it:=λb u e z=>by rw[z,g]at e;cases e
 refine I.step (g':=s.gens) (d':=s.drawn) (ch:=[it]) (λb l=>?_) (λb o _ _ a e _=>k b o (λz=>a (by simp[z])) e) (λb o _ _ a e _=>⟨o.slots,k b o (λz=>a (by simp[z])) e⟩) (λ_ _ _ _ n=>n)
  (λb o a e=>⟨o,k b o (λz=>a (by simp[z])) e⟩) (λ_ _ e=>e) (λ_ _ _ e=>e) (λb B e=>⟨#[],by rw[e];simp⟩) (λm t=>?_) (λb u e=>?_) I.bare
 .have e:b=it:=by simpa using l
  subst e;exact⟨h,f,i,j⟩
 .obtain⟨o,w,y,A,r⟩:=t
  exact⟨o,w,y,k _ o (Ne.symm f) A,r⟩
 .refine(I.hok b u e).stay (λc v a q=>k c v ?_ q) (λ_ q=>q) λ_ _ q=>q
  rcases a with z|z
  .rw[z];exact d b u e
  .exact d c _ z
theorem Inv.tok(I:Inv X pins σ H s)(t:Nat):Inv X pins σ H {s with toks:=t}:=I.un (h':=s.heap) (t':=t) Un.refl I.hok
theorem Inv.kept{t':Nat}(I:Inv X pins σ H s)(k:∀b u,s.heap.get? b=some u->h'.get? b=some u):Inv X pins σ H {s with heap:=h',toks:=t' }:=I.un (Un.kept k) (I.hok.kept k)
theorem Inv.laid{a:Addr}{o:HO}{t':Nat}(I:Inv X pins σ H s)(k:∀b u,s.heap.get? b=some u->h'.get? b=some u)(c:s.heap.objs.size<=a)(d:bQ X.prog X.w (upd H a o) h' a o) :
  Inv X pins σ (upd H a o) {s with heap:=h',toks:=t' }:=I.un (Un.laid k c (I.hok.fresh c)) (I.hok.laid k c d)
theorem Inv.write{x e:Addr}{o:HO}{t':Nat}(I:Inv X pins σ H s)(d:Ge (H x))(f:e=x\/H e=some (.own x))(k:∀b u,b≠e->s.heap.get? b=some u->h'.get? b=some u)(a:∃u,h'.get? e=some u)
  (c:bQ X.prog X.w (upd H x o) h' x o):Inv X pins σ (upd H x o) {s with heap:=h',toks:=t' }:=I.un (Un.write d f k a) (I.hok.write d f k a c)
theorem Inv.weak{a:List (Option V)}(I:Inv X pins σ H s)(c:a.length=σ.length)(w:∀(i:Nat) v,a[i]?=some (some v)->σ[i]?=some (some v)):Inv X pins a H s:=
 ⟨I.ok,I.os,I.bare,I.base,let ⟨m,d,b⟩:=I.loc;⟨m,d,λi x v e f g=>b i x v e (w i v f) g⟩,I.cell,I.free,I.cD,I.pin,I.hok,c.trans I.len⟩
theorem Inv.sr{a:List (Addr×Obj)}(I:Inv X pins σ H s)(h:∀p∈a,s.heap.get? p.1=some p.2/\H p.1=none/\p.1≠X.env.locals/\p.1∉X.fs/\∀v,p.2.data≠.cell v):Inv X a σ H s:=
 ⟨I.ok,I.os,I.bare,I.base,I.loc,I.cell,I.free,I.cD,λp b=>(List.mem_append.mp b).elim (λz=>I.pin p (List.mem_append_left _ z)) (h p),I.hok,I.len⟩
theorem oN{N:List Str}(c:N.Nodup){i j:Nat}{x:Str}(a:N[i]?=some x)(b:N[j]?=some x):i=j:=by
 obtain⟨f,d⟩:=List.getElem?_eq_some_iff.mp a;obtain⟨g,e⟩:=List.getElem?_eq_some_iff.mp b;exact(List.getElem_inj c).mp (d.trans e.symm)
theorem lT{M:Model}{A:Around}{E:Value->Shared->Prop}{i:Nat}{x:Str}{v:V}{u:Value}{Q:Unit->Shared->Prop}(I:Inv X pins σ H s)(hN:X.N.Nodup)(O:X.N[i]?=some x)(t:Loc X.env.scope x)(r:RelV v u)
  (h:∀s',Inv X pins (σ.set i (some v)) H s'->(∃a,Heap.SameBut a s.heap s'.heap/\(a=X.env.locals\/X.env.cells.lookup x=some a))->Q () s') (hf:X.fn x=true\/X.env.scope.names.lookup x=some .local:=by first|exact .inl rfl|exact .inr rfl|assumption):wpAny M A (storeName X.env x u) Q E s:=by
 obtain⟨m,hn,hl⟩:=id I.loc;have P:(X.env.scope.kind==.class||(X.env.scope.kind==.module&&X.env.locals != X.env.globals))=false:=by rw[I.ok.kind];rfl
 have F:i<σ.length:=by rw[I.len];exact(List.getElem?_eq_some_iff.mp O).1
 have G:=I.Gf
 have g:∀{a:Addr}{L:Heap},(∃o,s.heap.get? a=some o/\H a=none)->Heap.SameBut a s.heap L->ff X.prog X.w H L:=λ{a L} ha f b ob e=>by
  obtain⟨_,_,B⟩:=ha;refine(I.hok b ob e).stay (λc Y hc q=>(f.2 c ?_).trans q) (λ_ q=>q) λ_ _ q=>q
  rintro rfl;rcases hc with rfl|hc
  .rw[B]at e;cases e
  .rw[B]at hc;cases hc
 rcases t with hk|hk
 .refine wpAny_storeName_local hk hn (λL a0 f=>?_) P
  obtain⟨oL,_,_,b0,_⟩:=id hn;refine h _ ⟨I.ok,I.os,I.bare,⟨λb o e n J t=>?_,λb o e n J t=>?_,I.base.free,λb o e t=>?_,I.base.tups,I.base.eX,I.base.fK⟩,⟨_,a0,λj y v' l C e3=>?_⟩,λy c e=>?_,I.free,I.cD,λp hp=>?_,g ⟨oL,b0,I.free⟩ f,by simpa using I.len⟩ ⟨_,f,.inl rfl⟩
  .exact(f.2 b (Nat.ne_of_lt (Nat.lt_of_lt_of_le (Heap.lt_size e) I.ok.above))).trans (I.base.keep b o e n J t)
  .obtain⟨sl,l⟩:=I.base.slot b o e n J t
   exact⟨sl,(f.2 b (Nat.ne_of_lt (Nat.lt_of_lt_of_le (Heap.lt_size e) I.ok.above))).trans l⟩
  .obtain⟨o',l⟩:=I.base.there b o e t
   exact⟨o',(f.2 b (Nat.ne_of_lt (Nat.lt_of_lt_of_le (Heap.lt_size e) I.ok.above))).trans l⟩
  .by_cases K:j=i
   .subst K
    rw[O]at l;cases l
    rw[List.getElem?_set_self F]at C;cases C;exact⟨u,r,.inl ⟨hk,by simp⟩⟩
   .rw[List.getElem?_set_ne (Ne.symm K)]at C
    obtain⟨u',r',q⟩:=hl j y v' l C e3;refine⟨u',r',?_⟩;rcases q with ⟨k,e⟩|⟨k,c,e,z⟩
    .refine .inl ⟨k,?_⟩
     have:y≠x:=λe=>K (oN hN l (e▸O))
     simp[this,e]
    .exact .inr ⟨k,c,e,z.sameBut f (G y c e)⟩
  .obtain⟨Y,z⟩:=I.cell y c e
   exact⟨Y,z.sameBut f (G y c e)⟩
  .obtain⟨e,n,Z,nf,d⟩:=I.pin p hp
   exact⟨(f.2 p.1 Z).trans e,n,Z,nf,d⟩
 .have D:X.fn x=true:=by
   rcases hf with z|z
   .exact z
   .rw[z]at hk;cases hk
  obtain⟨c,hc⟩:=I.ok.has x (.inl hk);obtain⟨Y,z⟩:=I.cell x c hc;refine wpAny_storeName_cell I.ok.kind hk hc z (λL R f=>?_)
  obtain⟨oc,S,T⟩:=id z;refine h {s with heap:=L} ⟨I.ok,I.os,I.bare,⟨λb o e n J t=>?_,λb o e n J t=>?_,I.base.free,λb o e t=>?_,I.base.tups,I.base.eX,I.base.fK⟩,⟨m,hn.sameBut f (Ne.symm (G x c hc)),λj y v' l C e3=>?_⟩,λy c' e=>?_,I.free,I.cD,λp hp=>?_,g ⟨oc,S,(I.cD x c hc).2 D⟩ f,by simpa using I.len⟩ ⟨c,f,.inr hc⟩
  .exact(f.2 b (Nat.ne_of_lt (Nat.lt_of_lt_of_le (Heap.lt_size e) (I.ok.cab x c D hc)))).trans (I.base.keep b o e n J t)
  .obtain⟨sl,l⟩:=I.base.slot b o e n J t
   exact⟨sl,(f.2 b (Nat.ne_of_lt (Nat.lt_of_lt_of_le (Heap.lt_size e) (I.ok.cab x c D hc)))).trans l⟩
  .obtain⟨o',l⟩:=I.base.there b o e t
   exact⟨o',(f.2 b (Nat.ne_of_lt (Nat.lt_of_lt_of_le (Heap.lt_size e) (I.ok.cab x c D hc)))).trans l⟩
  .by_cases K:j=i
   .subst K
    rw[O]at l;cases l
    rw[List.getElem?_set_self F]at C;cases C;exact⟨u,r,.inr ⟨.inl hk,c,hc,R⟩⟩
   .rw[List.getElem?_set_ne (Ne.symm K)]at C
    obtain⟨u',r',q⟩:=hl j y v' l C e3;refine⟨u',r',?_⟩;rcases q with q|⟨k,c',e,z'⟩
    .exact .inl q
    .refine .inr ⟨k,c',e,z'.sameBut f ?_⟩
     rintro rfl;exact K (oN hN l (I.ok.inj _ _ _ e hc▸O))
  .by_cases U:c'=c
   .subst U;exact⟨_,R⟩
   .obtain⟨w2,z2⟩:=I.cell y c' e
    exact⟨w2,z2.sameBut f U⟩
  .obtain⟨e,n,Z,nf,d⟩:=I.pin p hp
   refine⟨(f.2 p.1 ?_).trans e,n,Z,nf,d⟩;intro q;rw[q,S]at e;have q':oc=p.2:=Option.some.inj e;exact d Y (by rw[←q'];exact T)
theorem iw{M:Model}{A:Around}{E:Value->Shared->Prop}{i:Nat}{x:Str}{v:V}{u:Value}{Q:Unit->Shared->Prop}(I:Inv X pins σ H s)(b:X.N.Nodup)(c:X.N[i]?=some x)(d:Loc X.env.scope x)(r:RelV v u)
  (h:∀a,Inv X pins (σ.set i (some v)) H a->Q () a) (e:X.fn x=true\/X.env.scope.names.lookup x=some .local:=by first|exact .inl rfl|exact .inr rfl|assumption):wpAny M A (storeName X.env x u) Q E s:=
 lT I b c d r (λa f _=>h a f) e
theorem Inv.call'{a:Shared}{ch:List Addr}(I:Inv X pins σ H s)(g:a.os=s.os)(u:Un (frs X.stack) ch H H' s.heap a.heap)(d:ff X.prog X.w H' a.heap)(h:AllBare a.gens)
  (f:∀b∈ch,(b∈X.ex\/X.s₀.heap.objs.size<=b)/\b≠X.env.locals/\(∀x c,X.env.cells.lookup x=some c->c≠b)/\∀p∈X.pn++pins,p.1≠b):Inv X pins σ H' a:=by
 obtain⟨j,g',d',t',i⟩:=a;have e:i=s.os:=g;subst e;exact I.call (g':=g') (t':=t') (d':=d') u d h f
end
abbrev XK:=Value->Option Addr->Hp->Prop
abbrev St:=List (Option V)
abbrev VK:=V->Hp->Prop
abbrev TE:=St->Hp->VK->Prop
abbrev TT:=St->Hp->(Bool->Hp->Prop)->Prop
abbrev TA:=St->Hp->(List V->Hp->Prop)->Prop
structure Ends where
 nx:St->Hp->Prop
 rt:VK
 bk:St->Hp->Prop:=λ_ _=>False
 ct:St->Hp->Prop:=λ_ _=>False
abbrev TS:=Ends->St->Hp->Prop
def EP(X:Cx)(pins:List (Addr×Obj))(b:St)(Q:VK)(u:Value)(c:Shared):Prop:=∃v a,Inv X pins b a c/\RelV v u/\Q v a
def TP(X:Cx)(pins:List (Addr×Obj))(c:St)(Q:Bool->Hp->Prop)(b:Bool)(d:Shared):Prop:=∃a,Inv X pins c a d/\Q b a
def AP(X:Cx)(pins:List (Addr×Obj))(c:St)(Q:List V->Hp->Prop)(us:List Value)(d:Shared):Prop:=∃a b,Inv X pins c b d/\Vals a us/\Q a b
def SP(X:Cx)(pins:List (Addr×Obj))(D:Ends)(f:Flow)(c:Shared):Prop:=
 match f with
 |.next=>∃a b,Inv X pins a b c/\D.nx a b
 |.brk=>∃a b,Inv X pins a b c/\D.bk a b
 |.cont=>∃a b,Inv X pins a b c/\D.ct a b
 |.ret u=>∃v a b,Inv X pins a b c/\RelV v u/\D.rt v b
def PE(X:Cx)(e:Expr)(t:TE):Prop:=
 ∀(pins:List (Addr×Obj)) (s:Shared) (a:St) (H:Hp) (Q:VK),Inv X pins a H s->t a H Q->wpAny (model X.prog X.w) X.A (eval e X.env) (EP X pins a Q) X.xe s
def PT(X:Cx)(e:Expr)(t:TT):Prop:=
 ∀(pins:List (Addr×Obj)) (s:Shared) (a:St) (H:Hp) (Q:Bool->Hp->Prop),Inv X pins a H s->t a H Q->wpAny (model X.prog X.w) X.A (isTrue e X.env (eval e X.env)) (TP X pins a Q) X.xe s
def PW(X:Cx)(e:Expr)(t:TT):Prop:=
 ∀(a:Sem Value) (pins:List (Addr×Obj)) (s:Shared) (b:St) (H:Hp) (Q:Bool->Hp->Prop),Inv X pins b H s->t b H Q->wpAny (model X.prog X.w) X.A (isTrue e X.env a) (TP X pins b Q) X.xe s
theorem PW.pt{X:Cx}{e:Expr}{t:TT}(h:PW X e t):PT X e t:=h _
def PA(X:Cx)(es:List Expr)(t:TA):Prop:=
 ∀(a:Pos) (pins:List (Addr×Obj)) (s:Shared) (b:St) (H:Hp) (Q:List V->Hp->Prop),Inv X pins b H s->t b H Q->wpAny (model X.prog X.w) X.A (spliced (backTo a (starEach es X.env))) (AP X pins b Q) X.xe s
def PS(X:Cx)(st:Stmt)(t:TS):Prop:=
 ∀(pins:List (Addr×Obj)) (s:Shared) (a:St) (H:Hp) (D:Ends),Inv X pins a H s->t D a H->wpAny (model X.prog X.w) X.A (exec st X.env) (SP X pins D) X.xe s
def iv(X:Cx)(st:List Stmt)(t:TS):Prop:=
 ∀(pins:List (Addr×Obj)) (s:Shared) (a:St) (H:Hp) (D:Ends),Inv X pins a H s->t D a H->wpAny (model X.prog X.w) X.A (execs st X.env) (SP X pins D) X.xe s
theorem bM{b:Type}{t:Sem b}{Q Q':b->Shared->Prop}{M:Model}{A:Around}{E:Value->Shared->Prop}{s:Shared}(h:wpAny M A t Q E s)(c:∀a s,Q a s->Q' a s):wpAny M A t Q' E s:=wpAny_mono h c λ_ _ x=>x
section
variable{X:Cx}
noncomputable def Lm(i:Nat):TE:=λa H Q=>∃v,a[i]?=some (some v)/\Q v H
noncomputable def tC(v:V):TE:=λ_ H Q=>Q v H
theorem eY{i:Nat}{x:Str}{pos:Pos}(j:X.N[i]?=some x)(k:uB X.env.scope x)(d:(x==("__debug__":Str))=false:=by decide)(f:(x==("__classdict__":Str))=false:=by decide):PE X (.Name x pos) (Lm i):=by
 intro pins s n H Q I h;obtain⟨v,e,h⟩:=h;obtain⟨m,o,p⟩:=I.loc;obtain⟨u,r,l⟩:=p i x v j e k;have b:EP X pins n Q u s:=⟨v,H,I,r,h⟩;rcases l with ⟨hk,q⟩|⟨hk,c,g,a⟩
 .exact wpAny_Name (wpAny_loadName_local I.ok.kind hk o q b) d
 .rcases hk with hk|hk
  .exact wpAny_Name (wpAny_loadName_cell I.ok.kind hk g a b) d
  .exact wpAny_Name (wpAny_loadName_free I.ok.kind hk g a b f) d
theorem Ds{i j pos}:PE X (.Constant (.int i) j pos) (tC (.int i)):=λ_ _ _ H _ I h=>wpAny_Constant_int ⟨.int i,H,I.tok _,⟨_,rfl⟩,h⟩
theorem Cu{b j pos}:PE X (.Constant (.bool b) j pos) (tC (.bl b)):=λ_ _ _ H _ I h=>Constant_bool ⟨.bl b,H,I,rfl,h⟩
theorem Dt{j pos}:PE X (.Constant .none j pos) (tC .non):=λ_ _ _ H _ I h=>Constant_none ⟨.non,H,I,rfl,h⟩
theorem Du{x j pos}:PE X (.Constant (.str x) j pos) (tC (.str x)):=λ_ _ _ H _ I h=>Calls.Constant_str ⟨.str x,H,I.tok _,⟨_,rfl⟩,h⟩
def Gl(X:Cx)(x:Str):Prop:=X.env.kindOf x=some .globalImplicit
theorem eh{E:Value->Shared->Prop}{pins:List (Addr×Obj)}{s:Shared}{a:St}{H:Hp}{x:Str}{u:Value}{pos:Pos}{Q:Value->Shared->Prop}(I:Inv X pins a H s)(b:Gl X x)(c:X.mg x=some u)(h:Q u s)
  (d:(x==("__debug__":Str))=false:=by decide):wpAny (model X.prog X.w) X.A (eval (.Name x pos) X.env) Q E s:=
 Calls.Name_function_global I.ok.kind b (Calls.loadGlobal_global (by rw[I.ok.glob];exact I.mod.glob.keeps I.bk) c h) d
theorem gi{E:Value->Shared->Prop}{pins:List (Addr×Obj)}{s:Shared}{a:St}{H:Hp}{x:Str}{u:Value}{pos:Pos}{Q:Value->Shared->Prop}(I:Inv X pins a H s)(b:Gl X x)(c:X.mg x=none)(d:bootBuiltins x=some u)(h:Q u s)
  (e:x≠"__name__":=by decide) (f:(x==("__debug__":Str))=false:=by decide):wpAny (model X.prog X.w) X.A (eval (.Name x pos) X.env) Q E s:=by
 obtain⟨j,g,i⟩:=I.mod.blt;exact Calls.Name_function_global I.ok.kind b (Calls.loadGlobal_builtin (by rw[I.ok.glob];exact I.mod.glob.keeps I.bk) c (by rw[I.ok.blt];exact g.keeps I.bk) ((i x e).trans d) h) f
theorem zE{x:Str}{v:V}{u:Value}{pos:Pos}(a:Gl X x)(b:X.mg x=some u)(r:RelV v u)(c:(x==("__debug__":Str))=false:=by decide):PE X (.Name x pos) (tC v):=
 λ_ _ _ H _ I h=>eh I a b ⟨v,H,I,r,h⟩ c
theorem su{x:Str}{v:V}{u:Value}{pos:Pos}(a:Gl X x)(b:X.mg x=none)(c:bootBuiltins x=some u)(r:RelV v u)(d:x≠"__name__":=by decide)(e:(x==("__debug__":Str))=false:=by decide):PE X (.Name x pos) (tC v):=
 λ_ _ _ H _ I h=>gi I a b c ⟨v,H,I,r,h⟩ d e
variable{a b:Expr}{ta tb:TE}{pos:Pos}
noncomputable def tB(t:TE):TT:=λa H Q=>t a H λx b=>∃c,x=.bl c/\Q c b
theorem qL{e:Expr}{t:TE}(h:PE X e t)(b:∀a,isTrue e X.env a=(do let v ←a;standAt e.pos;holding [v] (truthy v)):=by intro _;rfl):PT X e (tB t):=by
 intro pins s c H Q I f;refine isTrue_plain (bM (h pins s c H _ I f) λv i ⟨x,H1,I1,g,q1⟩=>?_) (b _)
 obtain⟨d,rfl,q⟩:=q1;cases g;exact wpAny_truthy_bool ⟨H1,I1,q⟩
variable{tA JE:TT}{rest:List Expr}
noncomputable def Ln(t u:TT):TT:=λa H Q=>t a H λc b=>if c=true then u a b Q else Q false b
noncomputable def QA(t u:TT):TT:=λa H Q=>t a H λc b=>if c=true then Q true b else u a b Q
noncomputable def Lo(t:TT):TT:=λa H Q=>t a H λc b=>Q (!c) b
theorem pw_and1(b:PT X a tA):PW X (.BoolOp .And [a] pos) tA:=by
 intro f pins s d H Q I h;refine isTrue_and (bM (b pins s d H Q I h) λc g e=>?_)
 cases c with
 |true=>exact isTrue_and_nil e
 |false=>exact e
theorem pw_or1(b:PT X a tA):PW X (.BoolOp .Or [a] pos) tA:=by
 intro f pins s d H Q I h;refine isTrue_or (bM (b pins s d H Q I h) λc g e=>?_)
 cases c with
 |false=>exact isTrue_or_nil e
 |true=>exact e
theorem pw_and(f:PT X a tA)(g:PW X (.BoolOp .And (b::rest) pos) JE):PW X (.BoolOp .And (a::b::rest) pos) (Ln tA JE):=by
 intro i pins s d H Q I h;refine isTrue_and (bM (f pins s d H _ I h) λc j ⟨e,I1,q1⟩=>?_)
 cases c with
 |true=>exact g i pins j d e Q I1 q1
 |false=>exact⟨e,I1,q1⟩
theorem pw_or(f:PT X a tA)(g:PW X (.BoolOp .Or (b::rest) pos) JE):PW X (.BoolOp .Or (a::b::rest) pos) (QA tA JE):=by
 intro i pins s d H Q I h;refine isTrue_or (bM (f pins s d H _ I h) λc j ⟨e,I1,q1⟩=>?_)
 cases c with
 |true=>exact⟨e,I1,q1⟩
 |false=>exact g i pins j d e Q I1 q1
theorem v_(b:PT X a tA):PT X (.UnaryOp .Not a pos) (Lo tA):=by
 intro pins s d H Q I h;exact isTrue_not (b pins s d H (λc e=>Q (!c) e) I h)
theorem Dv{op}{t:TE}(h:PE X a t):PE X (.BoolOp op [a] pos) t:=λpins s b H Q I c=>BoolOp_one (h pins s b H Q I c)
noncomputable def Gg(t:TT)(d tb:TE):TE:=λa H Q=>t a H λc b=>if c=true then d a b Q else tb a b Q
end
def mU(K:PySem.W.Frag)(H:Hp)(a:Addr)(xs:List V):Prop:=
 Rd H a (.lst xs) \/
  ∃(o:Obj) (b:Array Value) (n:Nat),K.lookup a=some o/\o.cls=.type "list"/\o.dict=none/\o.data=.seq b n/\b.size<=sizeLine/\Vals xs b.toList
def qM(K:PySem.W.Frag)(H:Hp)(a:Addr)(xs:List V):Prop:=
 Rd H a (.tup xs) \/
  ∃(o:Obj) (b:Array Value) (n:Nat),K.lookup a=some o/\o.cls=.type "tuple"/\o.data=.seq b n/\b.size<=sizeLine/\Vals xs b.toList
noncomputable def Lp:Value->Option V
 |.none=>some .non
 |.bool b=>some (.bl b)
 |.int i _=>some (.int i)
 |.str x _=>some (.str x)
 |.bytes b _=>some (.FI b)
 |.float b _=>some (.flt b)
 |.ref a=>some (.ref a)
 |.type n=>some (.ty n)
 |_=>none
theorem RelV.abs{x:V}{u:Value}(r:RelV x u):Lp u=some x:=by
 cases x with
 |non=>cases r;rfl
 |bl _=>cases r;rfl
 |int _=>obtain⟨t,rfl⟩:=r;rfl
 |str _=>obtain⟨t,rfl⟩:=r;rfl
 |FI _=>obtain⟨t,rfl⟩:=r;rfl
 |flt _=>obtain⟨t,rfl⟩:=r;rfl
 |ref _=>cases r;rfl
 |ty _=>cases r;rfl
theorem RelV.inj{x y:V}{u:Value}(r:RelV x u)(q:RelV y u):x=y:=Option.some.inj (r.abs.symm.trans q.abs)
theorem Vals.inj:∀{xs a:List V}{us:List Value},Vals xs us->Vals a us->xs=a
 |_,_,_,.nil,.nil=>rfl
 |_,_,_,.cons r t,.cons b c=>by rw[r.inj b,Vals.inj t c]
section
variable{X:Cx}{pins:List (Addr×Obj)}{σ:St}{H:Hp}{s:Shared}{a:Addr}{xs ys:List V}
theorem Inv.list(I:Inv X pins σ H s)(h:mU X.K H a xs):∃b:List Value,Vals xs b/\PlainL s.heap a b.toArray/\xs.length<=sizeLine:=by
 rcases h with h|⟨o,b,n,c,d,f,g,i,r⟩
 .obtain⟨z,b,n,r,e⟩:=h.ok I.hok
  exact⟨b,r,⟨_,n,e,rfl,rfl,rfl⟩,z⟩
 .refine⟨b.toList,r,⟨o,n,I.eg a o c,d,f,by simpa using g⟩,?_⟩
  have e:=r.length;simp only[Array.length_toList]at e;omega
theorem Inv.tuple(I:Inv X pins σ H s)(h:qM X.K H a xs):∃b:List Value,Vals xs b/\IsTup s.heap a b.toArray/\xs.length<=sizeLine:=by
 rcases h with h|⟨o,b,n,c,d,f,g,r⟩
 .obtain⟨z,b,r,p⟩:=h.ok I.hok
  exact⟨b,r,p,z⟩
 .refine⟨b.toList,r,⟨o,I.eg a o c,d,n,by simpa using f⟩,?_⟩
  have e:=r.length;simp only[Array.length_toList]at e;omega
theorem Inv.wa(I:Inv X pins σ H s)(h:mU X.K H a xs)(h':mU X.K H a ys):xs=ys:=by
 obtain⟨c,r,⟨o,n,e,_,_,d⟩,_⟩:=I.list h;obtain⟨b,i,⟨j,k,f,_,_,g⟩,_⟩:=I.list h';rw[e]at f;cases f
 rw[d]at g;injection g with d1 _;have:c=b:=by simpa using congrArg Array.toList d1
 subst this;exact r.inj i
theorem Inv.uC(I:Inv X pins σ H s)(h:qM X.K H a xs)(h':qM X.K H a ys):xs=ys:=by
 obtain⟨c,r,⟨o,e,_,n,d⟩,_⟩:=I.tuple h;obtain⟨b,i,⟨j,f,_,k,g⟩,_⟩:=I.tuple h';rw[e]at f;cases f
 rw[d]at g;injection g with d1 _;have:c=b:=by simpa using congrArg Array.toList d1
 subst this;exact r.inj i
end
abbrev Cx.wish(X:Cx)(E:Value->Shared->Prop):Cx:={X with xe:=E}
abbrev Cx.hP(X:Cx):Cx:=X.wish λ_ _=>False
theorem Cx.Ok.wish{X:Cx}(ok:X.Ok)(E:Value->Shared->Prop):(X.wish E).Ok:=
 ⟨ok.mod,ok.kind,ok.glob,ok.blt,ok.above,ok.inj,ok.has,ok.cab,ok.hd,ok.frames,ok.zr,ok.zD,ok.bs,ok.qJ,ok.lD,ok.lE,ok.fi,ok.so⟩
theorem Cx.Ok.gj{X:Cx}{E:Value->Shared->Prop}(ok:(X.wish E).Ok):X.Ok:=
 ⟨ok.mod,ok.kind,ok.glob,ok.blt,ok.above,ok.inj,ok.has,ok.cab,ok.hd,ok.frames,ok.zr,ok.zD,ok.bs,ok.qJ,ok.lD,ok.lE,ok.fi,ok.so⟩
section
variable{X:Cx}{pins:List (Addr×Obj)}{σ:St}{H:Hp}{s:Shared}{E:Value->Shared->Prop}
theorem Inv.wish(I:Inv X pins σ H s)(E:Value->Shared->Prop):Inv (X.wish E) pins σ H s:=⟨I.ok.wish E,I.os,I.bare,I.base,I.loc,I.cell,I.free,I.cD,I.pin,I.hok,I.len⟩
theorem Inv.gj(I:Inv (X.wish E) pins σ H s):Inv X pins σ H s:=⟨I.ok.gj,I.os,I.bare,I.base,I.loc,I.cell,I.free,I.cD,I.pin,I.hok,I.len⟩
theorem SP.gj{D:Ends}{f:Flow}{c:Shared}(h:SP (X.wish E) pins D f c):SP X pins D f c:=by
 cases f with
 |next=>obtain⟨a,b,I,q⟩:=h;exact⟨a,b,I.gj,q⟩
 |brk=>obtain⟨a,b,I,q⟩:=h;exact⟨a,b,I.gj,q⟩
 |cont=>obtain⟨a,b,I,q⟩:=h;exact⟨a,b,I.gj,q⟩
 |ret u=>obtain⟨v,a,b,I,r,q⟩:=h;exact⟨v,a,b,I.gj,r,q⟩
theorem iv.hP{st:List Stmt}{t:TS}(h:iv X.hP st t):iv X st t:=λpins s a H D I b=>
 wpAny_mono (h pins s a H D (I.wish _) b) (λ_ _ q=>q.gj) λ_ _ z=>False.elim z
end
section
variable{X:Cx}{st:Stmt}{rest:List Stmt}{t u:TS}{e:Expr}{te:TE}{pos:Pos}
noncomputable def Gh:TS:=λD a H=>D.nx a H
noncomputable def Lq(t u:TS):TS:=λD a H=>t {D with nx:=u D} a H
theorem mV:iv X [] Gh:=λ_ _ a H _ I h=>wpAny_execs_nil ⟨a,H,I,h⟩
theorem oO(b:PS X st t)(c:iv X rest u):iv X (st::rest) (Lq t u):=by
 intro pins s d H D I h;refine wpAny_execs_cons (bM (b pins s d H {D with nx:=u D} I h) λf e q=>?_)
 cases f with
 |next=>
  obtain⟨a,g,i,q⟩:=q;exact c pins e a g D i q
 |ret v=>exact q
 |brk=>exact q
 |cont=>exact q
theorem mW(a:PS X st t):iv X [st] t:=by
 intro pins s b H D I h;refine wpAny_execs_cons (bM (a pins s b H D I h) λf c q=>?_)
 cases f with
 |next=>exact wpAny_execs_nil q
 |ret v=>exact q
 |brk=>exact q
 |cont=>exact q
theorem Inv.quiet{pins:List (Addr×Obj)}{a:St}{H:Hp}{s:Shared}(I:Inv X pins a H s):interactive X.env=false:=by simp[interactive,I.ok.kind]
noncomputable def Gi(te:TE):TS:=λD a H=>te a H λ_ b=>D.nx a b
theorem zF(b:PE X e te)(c:swapsWith e none pos.line X.env=pure false:=by rfl):PS X (.Expr e pos) (Gi te):=by
 intro pins s a H D I h;exact wpAny_Expr_any (bM (b pins s a H _ I h) λv d ⟨x,H1,I1,r1,q1⟩=>⟨a,H1,I1,q1⟩) I.quiet c
noncomputable def Lr(te:TE):TS:=λD a H=>te a H D.rt
theorem qN(b:PE X e te):PS X (.Return (some e) pos) (Lr te):=by
 intro pins s a H D I h;exact wpAny_Return_some (bM (b pins s a H _ I h) λv c ⟨x,H1,I1,r1,q1⟩=>⟨x,a,H1,I1,r1,q1⟩)
noncomputable def Ls(c:TT)(t u:TS):TS:=λD a H=>c a H λb d=>if b=true then t D a d else u D a d
theorem wb{c:Expr}{a b:List Stmt}{f:TT}(j:PT X c f)(k:iv X a t)(l:iv X b u):PS X (.If c a b pos) (Ls f t u):=by
 intro pins s e H D I h;refine wpAny_If (bM (j pins s e H _ I h) λd g ⟨i,I1,q1⟩=>?_)
 cases d with
 |true=>exact k pins g e i D I1 q1
 |false=>exact l pins g e i D I1 q1
end
abbrev TG:=V->St->Hp->(St->Hp->Prop)->Prop
abbrev zt:=List V->St->Hp->(St->Hp->Prop)->Prop
def PG(X:Cx)(a:Expr)(t:TG):Prop:=
 ∀(pins:List (Addr×Obj)) (s:Shared) (c:St) (H:Hp) (v:V) (u:Value) (Q:St->Hp->Prop),Inv X pins c H s->RelV v u->t v c H Q ->
  wpAny (model X.prog X.w) X.A (assign a X.env u) (λ_ e=>∃b d,Inv X pins b d e/\Q b d) X.xe s
def FJ(X:Cx)(f:List Expr)(t:zt):Prop:=
 ∀(pins:List (Addr×Obj)) (s:Shared) (b:St) (H:Hp) (c:List V) (d:List Value) (Q:St->Hp->Prop),Inv X pins b H s->Vals c d->t c b H Q ->
  wpAny (model X.prog X.w) X.A (assignInOrder ((assignEach f X.env).map (·.2)) d) (λ_ g=>∃a e,Inv X pins a e g/\Q a e) X.xe s
abbrev Lu:=V->V->V->Hp->(Hp->Prop)->Prop
def Lv(X:Cx)(t:Lu):Prop:=
 ∀(pins:List (Addr×Obj)) (s:Shared) (a:St) (H:Hp) (o i v:V) (b c u:Value) (Q:Hp->Prop),Inv X pins a H s->RelV o b->RelV i c->RelV v u->t o i v H Q ->
  wpAny (model X.prog X.w) X.A (setItem b c u) (λ_ e=>∃d,Inv X pins a d e/\Q d) X.xe s
section
variable{X:Cx}{pos:Pos}
noncomputable def hU(i:Nat):TG:=λv a H Q=>Q (a.set i (some v)) H
theorem gK{i:Nat}{x:Str}(a:X.N.Nodup)(b:X.N[i]?=some x)(c:Loc X.env.scope x)(d:X.fn x=true\/X.env.scope.names.lookup x=some .local:=by first|exact .inl rfl|exact .inr rfl|assumption):PG X (.Name x pos) (hU i):=by
 intro pins s f H v u Q I r h;exact wpAny_assign_Name (iw I a b c r (λg e=>⟨_,H,e,h⟩) d)
noncomputable def Gj:zt:=λa b H Q=>a=[]/\Q b H
noncomputable def Cv(t:TG)(u:zt):zt:=λb c H Q=>∃v r,b=v::r/\t v c H λa d=>u r a d Q
theorem sv:FJ X [] Gj:=by
 intro pins s a H b c Q I r h;obtain⟨e,h⟩:=h;subst e;cases r;exact assignInOrder_nil ⟨a,H,I,h⟩
theorem kf{e:Expr}{es:List Expr}{t:TG}{u:zt}(b:PG X e t)(c:FJ X es u)
  (d:(assignEach (e::es) X.env).map (·.2)=assign e X.env::(assignEach es X.env).map (·.2):=by rfl):FJ X (e::es) (Cv t u):=by
 intro pins s f H k l Q I r h;obtain⟨v,vr,g,h⟩:=h;subst g;cases r with
 |cons r i=>
  rw[d];refine assignInOrder_cons (bM (b pins s f H _ _ _ I r h) λ_ j ⟨a,H1,I1,q1⟩=>?_)
  exact c pins j a H1 _ _ Q I1 i q1
noncomputable def qO(K:PySem.W.Frag)(n:Nat)(t:zt):TG:=λv c H Q=>∃a b,v=.ref a/\qM K H a b/\b.length=n/\t b c H Q
theorem wc{es:List Expr}{k:Nat}{t:zt}{n:Nat}(i:X.calm=true)(h:FJ X es t)
  (j:(assignEach es X.env).length=n:=by rfl) (c:(assignEach es X.env).findIdx? (·.1)=none:=by rfl):PG X (.Tuple es k pos) (qO X.K n t):=by
 intro pins s f H v u Q I r d;obtain⟨a,l,m,p,q,d⟩:=d;subst m;cases r;obtain⟨w,g,x,B⟩:=I.tuple p;refine assign_Tuple_tuple (I.ok.hd i) x (by simp[j,←q,g.length]) c λy z=>?_
 have A:Inv X pins f H {s with heap:=y}:=I.kept (t':=s.toks) λb o e=>z b o (Nat.ne_of_lt (Heap.lt_size e)) e
 exact h pins _ f H l _ Q A (by simpa using g) d
noncomputable def Dw(te:TE)(g:TG):TS:=λD a H=>te a H λx b=>g x a b D.nx
theorem wd{a e:Expr}{te:TE}{g:TG}(c:PE X e te)(d:PG X a g)(f:swapsWithSole [a] e pos.line X.env=pure false:=by rfl)(i:swappedStores [a] e X.env=pure none:=by rfl)
  (j:(assignEach [a] X.env).map (·.2)=[assign a X.env]:=by rfl):PS X (.Assign [a] e pos) (Dw te g):=by
 intro pins s b H D I h;refine wpAny_Assign_stores (bM (c pins s b H _ I h) λv k ⟨x,H1,I1,r1,q1⟩=>?_) f i
 rw[j];exact bM (d pins k b H1 x v _ I1 r1 q1) λ_ l q=>q
theorem Dx{i:Nat}{x:Str}{e:Expr}{te:TE}{a:Pos}(b:X.N.Nodup)(c:X.N[i]?=some x)(d:Loc X.env.scope x)(f:PE X e te)(g:swapsWith e (some (.Name x a)) pos.line X.env=pure false:=by rfl)(j:X.fn x=true\/X.env.scope.names.lookup x=some .local:=by first|exact .inl rfl|exact .inr rfl|assumption) :
  PS X (.Assign [.Name x a] e pos) (Dw te (hU i)):=by
 intro pins s k H D I h;refine wpAny_Assign_Name (bM (f pins s k H _ I h) λv q ⟨y,l,m,n,o⟩=>?_) g
 exact iw m b c d n (λr p=>⟨_,l,p,o⟩) j
noncomputable def Dy(c:TT)(tb:TS):TS:=λD a H=>∃W:Nat->St->Hp->Prop,(∃m,W m a H)/\∀m a H,W m a H ->
 c a H λb e=>if b=true then ∃N:St->Hp->Prop,(∀d f,N d f->∃g,g<m/\W g d f)/\tb {D with nx:=N,ct:=N,bk:=D.nx} a e else D.nx a e
theorem we{c:Expr}{body:List Stmt}{r:TT}{tb:TS}(t:PassesOwn (model X.prog X.w) X.A X.env X.xe)(B:PT X c r)(C:iv X body tb):PS X (.While c body [] pos) (Dy r tb):=by
 intro pins s E H D I h;obtain⟨W,⟨F,G⟩,e⟩:=h;refine wpAny_While (codeAny_whileLoop (λn J=>∃g u,Inv X pins g u J/\W n g u) ?_ F ⟨E,H,I,G⟩)
 rintro n K ⟨d,x,L,M⟩;refine wpAny_passesOwn t (bM (B pins K d x _ L (e n d x M)) λb O ⟨y,I2,j⟩=>?_)
 cases b with
 |true=>
  obtain⟨N,z,j⟩:=j;rw[if_pos rfl];refine wpAny_passesOwn t (bM (C pins O d y _ I2 j) λf P k=>?_)
  cases f with
  |next=>
   obtain⟨a,i,l,m⟩:=k;obtain⟨o,p,q⟩:=z a i m;exact⟨o,p,a,i,l,q⟩
  |cont=>
   obtain⟨a,i,l,m⟩:=k;obtain⟨o,p,q⟩:=z a i m;exact⟨o,p,a,i,l,q⟩
  |brk=>exact k
  |ret v=>exact k
 |false=>
  rw[if_neg Bool.false_ne_true];exact wpAny_execs_nil ⟨d,y,I2,j⟩
end
structure It where
 go:Nat->Hp->Prop
 JF:Nat->Hp->V->Hp->Prop
 stop:Nat->Hp->Prop
def mX(X:Cx)(pins:List (Addr×Obj))(H:Hp)(b:Addr):Prop:=
 H b=none/\b≠X.env.locals/\b∉X.fs/\(b∈X.ex\/X.s₀.heap.objs.size<=b)/\(∀x c,X.env.cells.lookup x=some c->c≠b)/\∀p∈X.pn++pins,p.1≠b
theorem Inv.zG{X:Cx}{pins:List (Addr×Obj)}{f:St}{H d:Hp}{s:Shared}{b:Addr}(I:Inv X pins f H s)(a:s.heap.objs.size<=b)(g:d b=none):mX X pins d b:=by
 refine⟨g,Nat.ne_of_gt (Nat.lt_of_lt_of_le I.lt a),I.Ll a,.inr (Nat.le_trans I.sz a),λx c e z=>?_,λp h z=>?_⟩
 .obtain⟨v,q⟩:=I.cell x c e
  exact absurd (Nat.lt_of_lt_of_le q.lt (by rw[z];exact a)) (Nat.lt_irrefl _)
 .exact absurd (Nat.lt_of_lt_of_le (Heap.lt_size (I.pin p h).1) (by rw[z];exact a)) (Nat.lt_irrefl _)
structure Turn(P:Program)(w:World)(K:PySem.W.Frag)(tg:Expr)(J:It)(fp:List Addr)(it:Addr)(tn:Nat->Heap->Prop):Prop where
 mem:it∈fp
 obj:∀i h,tn i h->∀b∈fp,∃o,h.get? b=some o/\∀v,o.data≠.cell v
 keep:∀i h h',tn i h->(∀b∈fp,∀o,h.get? b=some o->h'.get? b=some o)->tn i h'
 item:∀(X:Cx),X.prog=P->X.w=w->X.K=K->X.calm=true->∀(i:Nat) (pins:List (Addr×Obj)) (s:Shared) (σ:St) (H:Hp) (E:Value->Shared->Prop),Inv X pins σ H s->(∀b∈fp,mX X pins H b)->tn i s.heap->J.go i H ->
  wpAny (model P w) X.A (pyNext (.ref it)) (λr s1=>∃u,r=some u /\
   wpAny (model P w) X.A (letOwnedTupleGo tg (.ref it) u) (λ_ s2=>∃x H',Inv X pins σ H' s2/\RelV x u/\J.JF i H x H'/\tn (i+1) s2.heap/\∀b∈fp,H' b=none) E s1) E s
 done:∀(X:Cx),X.prog=P->X.w=w->X.K=K->X.calm=true->∀(i:Nat) (pins:List (Addr×Obj)) (s:Shared) (σ:St) (H:Hp) (E:Value->Shared->Prop),Inv X pins σ H s->(∀b∈fp,mX X pins H b)->tn i s.heap->J.stop i H ->
  wpAny (model P w) X.A (pyNext (.ref it)) (λr s1=>r=none/\Inv X pins σ H s1) E s
 self:∀(A:Around) (i:Nat) (s:Shared) (Q:Value->Shared->Prop) (E:Value->Shared->Prop),tn i s.heap->Q (.ref it) s->wpAny (model P w) A (pyIter (.ref it)) Q E s
abbrev TI:=St->Hp->(It->Hp->Prop)->Prop
def PIE(X:Cx)(pins:List (Addr×Obj))(g:St)(h:Expr)(R:It->Hp->Prop)(a:Value)(s2:Shared):Prop:=
 ∃(d:Addr) (e:List Addr) (f:Nat->Heap->Prop) (J:It) (c:Hp),a=.ref d/\Inv X pins g c s2/\Turn X.prog X.w X.K h J e d f/\f 0 s2.heap/\(∀b∈e,mX X pins c b)/\R J c
def PI(X:Cx)(b iter:Expr)(c:TI):Prop:=
 ∀(pins:List (Addr×Obj)) (s:Shared) (a:St) (H:Hp) (R:It->Hp->Prop),Inv X pins a H s->c a H R ->
  wpAny (model X.prog X.w) X.A (eval iter X.env) (λv d=>wpAny (model X.prog X.w) X.A (pyIter v) (PIE X pins a b R) X.xe d) X.xe s
theorem lU{M:Model}{A:Around}{E:Value->Shared->Prop}{s:Shared}{b:Expr}{it:Addr}{u:Value}{o:Obj}{n:String}{vs:Array Value}{Q:Unit->Shared->Prop}(c:s.heap.get? it=some o)(d:o.cls=.type n)(e:o.data=.fields vs)
    (f:["enumerate","zip","dict_itemiterator","dict_reverseitemiterator","odict_iterator","itertools.zip_longest","itertools.pairwise"].contains n=false) (a:Q () s):wpAny M A (letOwnedTupleGo b (.ref it) u) Q E s:=by
  unfold letOwnedTupleGo
  cases b<;>first
    |exact wpAny_pure a
    | (cases u<;>first
        |exact wpAny_pure a
        | (refine wpAny_bind (wpAny_load c ?_)
           rw[d,e]
           show wpAny M A (if (["enumerate","zip","dict_itemiterator","dict_reverseitemiterator","odict_iterator","itertools.zip_longest","itertools.pairwise"].contains n&&vs[0]?==some (rawInt _))=true then _ else _) Q E s
           rw[if_neg (by intro h;rw[f,Bool.false_and]at h;cases h)]
           exact wpAny_pure a))
noncomputable def Lw(K:PySem.W.Frag)(a:Addr):It:=
 ⟨λi H=>∃b x,mU K H a b/\b[i]?=some x,λi H x c=>c=H/\∀b,mU K H a b->b[i]?=some x,λi H=>∃b,mU K H a b/\b.length<=i⟩
noncomputable def Lx(K:PySem.W.Frag)(a:Addr):It:=
 ⟨λi H=>∃b x,qM K H a b/\b[i]?=some x,λi H x c=>c=H/\∀b,qM K H a b->b[i]?=some x,λi H=>∃b,qM K H a b/\b.length<=i⟩
noncomputable def Dz(a:Int)(n:Nat):It:=⟨λi _=>i<n,λi H x b=>b=H/\x=.int (a+i),λi _=>n<=i⟩
theorem uD{P:Program}{w:World}{K:PySem.W.Frag}{O:Expr}(a it:Addr):Turn P w K O (Lw K a) [it] it (λi h=>h.IsListIter it a i) where
 mem:=by simp
 obj:=λi h f b g=>by
  have e:b=it:=by simpa using g
  subst e;obtain⟨o,e,c,d⟩:=f;exact⟨o,e,λv z=>by rw[d]at z;cases z⟩
 keep:=λi h l f k=>f.at λo e=>k it (by simp) o e
 item:=by
  intro X q r t M i pins s N H E I m f y;subst q r t;obtain⟨Q,x,n,A⟩:=y;obtain⟨B,C,p,R⟩:=I.list n;obtain⟨u,S,T⟩:=C.get A;obtain⟨D,F,U,G,J,L⟩:=m it (by simp)
  refine wpAny_pyNext_list_item f p.isList (x:=u) (by simpa using S) λl j V=>?_
  have Y:Inv X pins N H {s with heap:=l}:=I.turned (t':=s.toks) (λb o g e=>(V.2 b g).trans e) D F G J L
  obtain⟨o,e,c,d⟩:=id j;exact⟨u,rfl,lU (s:={s with heap:=l}) e c d (by decide) ⟨x,H,Y,T,⟨rfl,λys Z=>by rw[I.wa Z n];exact A⟩,j,λb g=>(m b g).1⟩⟩
 done:=by
  intro X q r t M i pins s N H E I m f y;subst q r t;obtain⟨Q,n,A⟩:=y;obtain⟨B,C,p,R⟩:=I.list n;obtain⟨D,F,U,G,J,L⟩:=m it (by simp)
  have hl:=C.length;exact wpAny_pyNext_list_end (I.ok.hd M) f p.isList (by simp;omega) λl eb=>⟨rfl,I.turned (t':=s.toks) (λb o g e=>eb b o g e) D F G J L⟩
 self:=λ_ _ _ _ _ f h=>wpAny_pyIter_listiter f h
theorem qP{P:Program}{w:World}{K:PySem.W.Frag}{O:Expr}(a it:Addr):Turn P w K O (Lx K a) [it] it (λi h=>h.IsTupleIter it a i) where
 mem:=by simp
 obj:=λi h f b g=>by
  have e:b=it:=by simpa using g
  subst e;obtain⟨o,e,c,d⟩:=f;exact⟨o,e,λv z=>by rw[d]at z;cases z⟩
 keep:=λi h m f k=>f.at λo e=>k it (by simp) o e
 item:=by
  intro X r t y M i pins s N H E I n f A;subst r t y;obtain⟨Q,x,q,B⟩:=A;obtain⟨j,C,p,R⟩:=I.tuple q;obtain⟨u,S,T⟩:=C.get B;obtain⟨D,F,U,G,J,L⟩:=n it (by simp)
  refine wpAny_pyNext_tuple_item f (show s.heap.IsTuple a j.toArray from p) (x:=u) (by simpa using S) λm l V=>?_
  have Y:Inv X pins N H {s with heap:=m}:=I.turned (t':=s.toks) (λb o g e=>(V.2 b g).trans e) D F G J L
  obtain⟨o,e,c,d⟩:=id l;exact⟨u,rfl,lU (s:={s with heap:=m}) e c d (by decide) ⟨x,H,Y,T,⟨rfl,λys Z=>by rw[I.uC Z q];exact B⟩,l,λb g=>(n b g).1⟩⟩
 done:=by
  intro X r t y M i pins s N H E I n f A;subst r t y;obtain⟨Q,q,B⟩:=A;obtain⟨j,C,p,R⟩:=I.tuple q;obtain⟨D,F,U,G,J,L⟩:=n it (by simp)
  have hl:=C.length;exact wpAny_pyNext_tuple_end (I.ok.hd M) f (show s.heap.IsTuple a j.toArray from p) (by simp;omega) λm eb=>⟨rfl,I.turned (t':=s.toks) (λb o g e=>eb b o g e) D F G J L⟩
 self:=λ_ _ _ _ _ f h=>wpAny_pyIter_tupleiter f h
theorem qQ{P:Program}{w:World}{K:PySem.W.Frag}{F:Expr}(it:Addr)(f:Int)(n:Nat):Turn P w K F (Dz f n) [it] it (λi h=>IsRangeIter h it (f+(i:Nat)*1) ((n:Int) - (i:Nat)) 1) where
 mem:=by simp
 obj:=λi h a b c=>by
  have e:b=it:=by simpa using c
  subst e
  exact⟨_,a,λv z=>by
   have G:Data.fields _=Data.cell v:=z;cases G⟩
 keep:=λi h g a k=>k it (by simp) _ a
 item:=by
  intro X l m p q i pins s C H E I j a r;subst l m p;obtain⟨u,x,J,y,A,B⟩:=j it (by simp)
  have W:=Walks.range (prog:=X.prog) (w:=X.w) (I.ok.hd q) it f 1 n;refine W.item i s _ _ r a λv g D L d M=>?_
  obtain⟨t,rfl⟩:=L;have N:Inv X pins C H {s with heap:=g,toks:=D}:=I.turned (λb o c e=>M b o (by simpa using c) e) u x y A B
  refine⟨_,rfl,lU (s:={s with heap:=g,toks:=D}) (n:="range_iterator") d rfl rfl (by decide) ⟨.int (f+i),H,N,⟨t,?_⟩,⟨rfl,rfl⟩,d,λb c=>(j b c).1⟩⟩
  rw[Int.mul_one]
 done:=by
  intro X l m p q i pins s C H E I j a r;subst l m p;obtain⟨u,x,J,y,A,B⟩:=j it (by simp)
  exact wpAny_pyNext_range_end (I.ok.hd q) a (by have:n<=i:=r;omega) λg O=>⟨rfl,I.turned (t':=s.toks) (λb o c e=>O b o c e) u x y A B⟩
 self:=λ_ _ _ _ _ a h=>wpAny_pyIter_rangeiter a h
section
variable{X:Cx}{tg:Expr}
theorem oP{pins:List (Addr×Obj)}{d:St}{H:Hp}{s:Shared}{R:It->Hp->Prop}{E:Value->Shared->Prop}{a c:Int}{t u v:Tok}{tk:Nat}(I:Inv X pins d H s)(g : -(2 ^ 62)<=a)(h:a<2 ^ 62)(i : -(2 ^ 62)<=c)(j:c<2 ^ 62)
  (q:R (Dz a (c - a).toNat) H):wpAny (model X.prog X.w) X.A (pyIter (.ref s.heap.objs.size)) (PIE X pins d tg R) E {s with heap:=s.heap.push {cls:=.type "range",data:=.fields #[.int a t,.int c u,.int 1 v]},toks:=tk}:=by
 refine wpAny_pyIter_range (IsRange.new ..) (small_one g h i j) ?_;have f:Inv X pins d H {s with heap:=s.heap.push {cls:=.type "range",data:=.fields #[.int a t,.int c u,.int 1 v]},toks:=tk}:=I.kept λb o e=>Heap.get?_push_of_some _ e
 refine⟨(s.heap.push {cls:=.type "range",data:=.fields #[.int a t,.int c u,.int 1 v]}).objs.size,[(s.heap.push {cls:=.type "range",data:=.fields #[.int a t,.int c u,.int 1 v]}).objs.size],_,_,H,rfl,
  f.kept (t':=tk) λb o e=>Heap.get?_push_of_some _ e,qQ _ a (c - a).toNat,?_,λb k=>?_,q⟩
 .have l:a+((0:Nat):Int)*1=a:=by simp
  have m:(((c - a).toNat:Nat):Int) - ((0:Nat):Int)=Builtin.Range.rangeSize a c 1:=by rw[rangeSize_one];split<;>omega
  show IsRangeIter _ _ (a+((0:Nat):Int)*1) ((((c - a).toNat:Nat):Int) - ((0:Nat):Int)) 1
  rw[l,m];exact Heap.get?_push_size _ rfl
 .have e:b=(s.heap.push {cls:=.type "range",data:=.fields #[.int a t,.int c u,.int 1 v]}).objs.size:=by simpa using k
  subst e;exact f.zG (Nat.le_refl _) (f.hok.fresh (Nat.le_refl _))
def Gk(a:TA):TI:=λb H R=>a b H λc d=>∃j:Int,c=[.int j] /\ -(2 ^ 62)<=j/\j<2 ^ 62/\R (Dz 0 j.toNat) d
def Gm(a:TA):TI:=λb H R=>a b H λc d=>∃i j:Int,c=[.int i,.int j]/\(-(2 ^ 62)<=i/\i<2 ^ 62 /\ -(2 ^ 62)<=j/\j<2 ^ 62)/\R (Dz i (j - i).toNat) d
theorem uE{a:Expr}{c:TA}{p pos:Pos}(d:Gl X "range")(f:X.mg "range"=none)(g:PA X [a] c)(i:starEach [a] X.env=[(false,eval a X.env)]:=by rfl):PI X tg (.Call (.Name "range" p) [a] [] pos) (Gk c):=by
 intro pins s k H R I h;refine Call_ (gi I d f boot_range (PyProof.Rows.callWith_type1 (bM (g pos pins s k H _ I h) λo u ⟨w,H1,I1,l,b⟩=>?_) i rfl))
 obtain⟨j,e,b,m,q⟩:=b;subst e;cases l with
 |cons r n=>
  cases n;obtain⟨t,rfl⟩:=r;exact call_range_1 (oP I1 (by omega) (by omega) b m (by simpa using q))
theorem uF{a b:Expr}{g:TA}{p pos:Pos}(k:Gl X "range")(l:X.mg "range"=none)(m:PA X [a,b] g)(n:starEach [a,b] X.env=[(false,eval a X.env),(false,eval b X.env)]:=by rfl)(c:starEach [b] X.env=[(false,eval b X.env)]:=by rfl) :
  PI X tg (.Call (.Name "range" p) [a,b] [] pos) (Gm g):=by
 intro pins s o H R I h;refine Call_ (gi I k l boot_range (PyProof.Rows.callWith_type1 (bM (m pos pins s o H _ I h) λA B ⟨C,H1,I1,u,d⟩=>?_) (by rw[n,c]) (by rw[c];rfl)))
 obtain⟨i,j,e,⟨d,w,x,y⟩,q⟩:=d;subst e;cases u with
 |cons r f=>
  cases f with
  |cons z f=>
   cases f;obtain⟨t,rfl⟩:=r;obtain⟨D,rfl⟩:=z;exact call_range_2 (oP I1 d w x y q)
noncomputable def Ly(f:TI)(g:TG)(tb:TS):TS:=λD a H=>f a H λJ h=>∃W:Nat->Nat->St->Hp->Prop,(∃m,W 0 m a h)/\∀i m a H,W i m a H ->
 (J.stop i H/\D.nx a H)\/(J.go i H/\∃N:St->Hp->Prop,(∀b c,N b c->∃e,e<m/\W (i+1) e b c)/\∀x c,J.JF i H x c->g x a c λd j=>tb {D with nx:=N,ct:=N,bk:=D.nx} d j)
noncomputable def kg(fp:List Addr)(h:Heap):List (Addr×Obj):=fp.filterMap λb=>(h.get? b).map λo=>(b,o)
theorem fL{fp:List Addr}{h:Heap}{b:Addr}{o:Obj}(a:b∈fp)(e:h.get? b=some o):(b,o)∈kg fp h:=List.mem_filterMap.mpr ⟨b,a,by rw[e];rfl⟩
theorem uG{fp:List Addr}{h:Heap}{p:Addr×Obj}(a:p∈kg fp h):p.1∈fp/\h.get? p.1=some p.2:=by
 obtain⟨b,c,e⟩:=List.mem_filterMap.mp a;cases q:h.get? b with
 |none=>rw[q]at e;cases e
 |some o=>
  rw[q]at e;have d:(b,o)=p:=Option.some.inj e;subst d;exact⟨c,q⟩
theorem Inv.pinned{pins:List (Addr×Obj)}{a:St}{H:Hp}{s:Shared}{fp:List Addr}(I:Inv X pins a H s)(g:∀b∈fp,mX X pins H b)(h:∀b∈fp,∃o,s.heap.get? b=some o/\∀v,o.data≠.cell v):Inv X (pins++kg fp s.heap) a H s:=
 I.sr λp i=>(List.mem_append.mp i).elim (λz=>I.pin p (List.mem_append_right _ z)) λz=>by
  obtain⟨c,e⟩:=uG z;obtain⟨j,k,l,_⟩:=g p.1 c;obtain⟨o,f,d⟩:=h p.1 c;rw[e]at f;cases f
  exact⟨e,j,k,l,d⟩
theorem Inv.ix{pins pl:List (Addr×Obj)}{a:St}{H:Hp}{s:Shared}(I:Inv X (pins++pl) a H s):Inv X pins a H s:=I.sr λp b=>I.pin p (List.mem_append_right _ (List.mem_append_left _ b))
theorem DA{iter:Expr}{body:List Stmt}{R:TI}{g:TG}{tb:TS}{pos:Pos}(z:PassesOwn (model X.prog X.w) X.A X.env X.xe)(S:X.calm=true)(hi:PI X tg iter R)(hg:PG X tg g)(c:iv X body tb)
  (hs:∀x,foldedSetIterable iter X.env x=pure x:=by intro _;rfl):PS X (.For tg iter body [] pos) (Ly R g tb):=by
 intro pins s U H D I h;refine wpAny_For (bM (hi pins s U H _ I h) λv s1 h1=>bM h1 λa0 s2 h2=>?_) hs
 obtain⟨it,B,V,J,H2,e,I2,T,L,Y,W,⟨m0,w0⟩,C⟩:=h2;subst e;have j:∀{t:Hp},(∀b∈B,t b=none)->∀b∈B,mX X pins t b:=λhn b c=>⟨hn b c,(Y b c).2⟩
 refine codeAny_forLoop_any (λn Z=>∃i k t,Inv X pins k t Z/\V i Z.heap/\(∀b∈B,t b=none)/\W i n k t) ?_ m0 ⟨0,U,H2,I2,L,λb c=>(Y b c).1,w0⟩
 rintro n s3 ⟨i,l,K,I3,E,F,w3⟩;rcases C i n l K w3 with ⟨stop,qn⟩|⟨go,N,hN,step⟩
 .refine wpAny_passesOwn z (bM (T.done X rfl rfl rfl S i pins s3 l K X.xe I3 (j F) E stop) λr s4 ⟨M,I4⟩=>?_)
  subst M;exact wpAny_execs_nil ⟨l,K,I4,qn⟩
 .refine wpAny_passesOwn z (bM (T.item X rfl rfl rfl S i pins s3 l K X.xe I3 (j F) E go) λr s4 ⟨u,M,h4⟩=>?_)
  subst M;refine wpAny_passesOwn z (bM h4 λ_ s5 ⟨x,H5,I5,r5,y5,Lz,QB⟩=>?_)
  have O:=I5.pinned (j QB) (T.obj _ _ Lz);refine wpAny_passesOwn z (bM (hg _ s5 l H5 x u _ O r5 (step x H5 y5)) λ_ s6 ⟨P,H6,I6,q6⟩=>?_)
  refine wpAny_passesOwn z (bM (c _ s6 P H6 _ I6 q6) λf Q y=>?_)
  have again:∀{a:St}{p:Hp},Inv X (pins++kg B s5.heap) a p Q->N a p->∃m,m<n/\∃i k t,Inv X pins k t Q/\V i Q.heap/\(∀b∈B,t b=none)/\W i m k t:=λ{a p} q G=>by
   obtain⟨m',hm,w7⟩:=hN a p G;refine⟨m',hm,i+1,a,p,q.ix,T.keep _ _ _ Lz λb c o e=>(q.pin (b,o) (List.mem_append_right _ (List.mem_append_right _ (fL c e)))).1,λb c=>?_,w7⟩
   obtain⟨o,e,d⟩:=T.obj _ _ Lz b c;exact(q.pin (b,o) (List.mem_append_right _ (List.mem_append_right _ (fL c e)))).2.1
  cases f with
  |next=>obtain⟨a,p,q,G⟩:=y;exact again q G
  |cont=>obtain⟨a,p,q,G⟩:=y;exact again q G
  |brk=>obtain⟨a,p,q,y⟩:=y;exact⟨a,p,q.ix,y⟩
  |ret v=>obtain⟨x7,a,p,q,r7,y⟩:=y;exact⟨x7,a,p,q.ix,r7,y⟩
end
abbrev R2:=V->V->Hp->VK->Prop
def ia(X:Cx)(f:Value->Value->Sem Value)(r:R2):Prop:=
 ∀(pins:List (Addr×Obj)) (s:Shared) (a:St) (H:Hp) (x y:V) (v u:Value) (Q:VK),Inv X pins a H s->RelV x v->RelV y u->r x y H Q ->
  wpAny (model X.prog X.w) X.A (f v u) (EP X pins a Q) X.xe s
def LA(X:Cx)(f:Value->Sem Value)(r:V->Hp->VK->Prop):Prop:=
 ∀(pins:List (Addr×Obj)) (s:Shared) (a:St) (H:Hp) (x:V) (v:Value) (Q:VK),Inv X pins a H s->RelV x v->r x H Q ->
  wpAny (model X.prog X.w) X.A (f v) (EP X pins a Q) X.xe s
def ed(X:Cx)(f:Value)(r:List V->Hp->VK->Prop):Prop:=
 ∀(pins:List (Addr×Obj)) (s:Shared) (a:St) (H:Hp) (b:List V) (c:List Value) (Q:VK),Inv X pins a H s->Vals b c->r b H Q ->
  wpAny (model X.prog X.w) X.A (call f c) (EP X pins a Q) X.xe s
def LB(X:Cx)(r:V->Hp->(Bool->Hp->Prop)->Prop):Prop:=
 ∀(pins:List (Addr×Obj)) (s:Shared) (a:St) (H:Hp) (x:V) (v:Value) (Q:Bool->Hp->Prop),Inv X pins a H s->RelV x v->r x H Q ->
  wpAny (model X.prog X.w) X.A (truthy v) (TP X pins a Q) X.xe s
noncomputable def FK(r:R2)(b tb:TE):TE:=λa H Q=>b a H λx c=>tb a c λy d=>r x y d Q
noncomputable def QC(r:V->Hp->VK->Prop)(a:TE):TE:=λb H Q=>a b H λx c=>r x c Q
noncomputable def rI(C:Int->Int->Prop)(g:Int->Int->V):R2:=λx y H Q=>∃i j,x=.int i/\y=.int j/\C i j/\Q (g i j) H
noncomputable def zH(g:Int->Int->V):R2:=λx y H Q=>∃i j,x=.int i/\y=.int j/\Q (g i j) H
def rU(g:Int->V):V->Hp->VK->Prop:=λx H Q=>∃i,x=.int i/\Q (g i) H
section
variable{X:Cx}{a b c:Expr}{ta tb tc:TE}{pos:Pos}
theorem DB(j:PE X a ta)(k:PE X b tb){pins:List (Addr×Obj)}{s:Shared}{c:St}{H:Hp}{R:V->V->Hp->Prop}(I:Inv X pins c H s)
  (h:ta c H λx i=>tb c i λy d=>R x y d) {Q:Value->Shared->Prop}{f:Value->Value->Sem Value}
  (l:∀v u s2 x y d,Inv X pins c d s2->RelV x v->RelV y u->R x y d->wpAny (model X.prog X.w) X.A (f v u) Q X.xe s2) :
  wpAny (model X.prog X.w) X.A (eval a X.env) (λv e=>wpAny (model X.prog X.w) X.A (eval b X.env) (λu g=>wpAny (model X.prog X.w) X.A (f v u) Q X.xe g) X.xe e) X.xe s:=by
 refine bM (j pins s c H _ I h) λv m ⟨x,i,I1,r1,q1⟩=>?_
 refine bM (k pins m c i _ I1 q1) λu s2 ⟨y,d,I2,r2,q2⟩=>?_
 exact l v u s2 x y d I2 r1 r2 q2
theorem Cw{op:Operator}{r:R2}(c:ia X (binaryOp op) r)(d:PE X a ta)(e:PE X b tb):PE X (.BinOp a op b pos) (FK r ta tb):=by
 intro pins s f H Q I h;exact wpAny_BinOp (DB d e I h λv u g x y i j k l q=>c pins g f i x y v u Q j k l q)
theorem Gn{op:UnaryOp}{r:V->Hp->VK->Prop}(c:LA X (unaryOp op) r)(d:PE X a ta):PE X (.UnaryOp op a pos) (QC r ta):=by
 intro pins s b H Q I h;exact UnaryOp_ (bM (d pins s b H _ I h) λv e ⟨x,H1,I1,r1,q1⟩=>c pins e b H1 x v Q I1 r1 q1)
theorem JG{f:Value->Value->Sem Value}{C:Int->Int->Prop}{g:Int->Int->Int}
  (rule:∀(i j:Int) (t u:Tok) (s:Shared) (Q:Value->Shared->Prop) (E:Value->Shared->Prop),C i j->Q (.int (g i j) s.toks) {s with toks:=s.toks+1}->wpAny (model X.prog X.w) X.A (f (.int i t) (.int j u)) Q E s) :
  ia X f (rI C λi j=>.int (g i j)):=by
 intro pins s e H x y v u Q I a b h;obtain⟨i,j,rfl,rfl,c,q⟩:=h;obtain⟨t,rfl⟩:=a;obtain⟨d,rfl⟩:=b;exact rule i j t d s _ _ c ⟨.int (g i j),H,I.tok _,⟨_,rfl⟩,q⟩
theorem Gp{f:Value->Value->Sem Value}{g:Int->Int->Int}
  (rule:∀(i j:Int) (t u:Tok) (s:Shared) (Q:Value->Shared->Prop) (E:Value->Shared->Prop),Q (.int (g i j) s.toks) {s with toks:=s.toks+1}->wpAny (model X.prog X.w) X.A (f (.int i t) (.int j u)) Q E s) :
  ia X f (zH λi j=>.int (g i j)):=by
 intro pins s d H x y v u Q I a b h;obtain⟨i,j,rfl,rfl,q⟩:=h;obtain⟨t,rfl⟩:=a;obtain⟨c,rfl⟩:=b;exact rule i j t c s _ _ ⟨.int (g i j),H,I.tok _,⟨_,rfl⟩,q⟩
theorem zI{f:Value->Value->Sem Value}{g:Int->Int->Bool}
  (rule:∀(i j:Int) (t u:Tok) (s:Shared) (Q:Value->Shared->Prop) (E:Value->Shared->Prop),Q (.bool (g i j)) s->wpAny (model X.prog X.w) X.A (f (.int i t) (.int j u)) Q E s) :
  ia X f (zH λi j=>.bl (g i j)):=by
 intro pins s d H x y v u Q I a b h;obtain⟨i,j,rfl,rfl,q⟩:=h;obtain⟨t,rfl⟩:=a;obtain⟨c,rfl⟩:=b;exact rule i j t c s _ _ ⟨.bl (g i j),H,I,rfl,q⟩
def Gq(i j:Int):Prop:=0<j/\j<1073741824
def Gr(i j:Int):Prop:=0<=j/\j<=1000000/\i.natAbs<2 ^ 64
def zJ(i j:Int):Prop:=(-(2 ^ 64)<i/\i<2 ^ 64)\/(-(2 ^ 64)<j/\j<2 ^ 64)
theorem zJ.ok{i j:Int}(h:zJ i j):IntMulOk i j:=by
 rcases h with ⟨a,b⟩|⟨a,b⟩
 .exact .of_left (intBits_le_64 a b)
 .exact .of_right (intBits_le_64 a b)
theorem DC:ia X (binaryOp .Add) (zH λi j=>.int (i+j)):=Gp λ_ _ _ _ _ _ _ q=>add_int q
theorem DD:ia X (binaryOp .Sub) (zH λi j=>.int (i - j)):=Gp λ_ _ _ _ _ _ _ q=>sub_int q
theorem DE:ia X (binaryOp .Mult) (rI zJ λi j=>.int (i*j)):=JG λ_ _ _ _ _ _ _ a q=>mul_int q a.ok
theorem zK:ia X (binaryOp .FloorDiv) (rI Gq λi j=>.int (i / j)):=JG λi j _ _ _ _ _ a q=>by
 have b:(0:Int)<j:=a.1;have c:j<1073741824:=a.2;exact floordiv_int (by omega) (by rw[Int.fdiv_eq_ediv_of_nonneg i (by omega)];exact q) (.inl (PyProof.noPylong_small (by omega)))
theorem DF:ia X (binaryOp .Mod) (rI (λ_ j=>0<j) λi j=>.int (i%j)):=JG λi j _ _ _ _ _ a q=>by
 have b:(0:Int)<j:=a;exact mod_int' (by omega) (by rw[Int.fmod_eq_emod_of_nonneg i (by omega)];exact q)
theorem DG:ia X (binaryOp .Pow) (rI Gr λi j=>.int (i ^ j.toNat)):=JG λ_ _ _ _ _ _ _ a q=>pow_int_small a.1 a.2.1 a.2.2 q
theorem QD{f:Value->Sem Value}{g:Int->Int}
  (rule:∀(i:Int) (t:Tok) (s:Shared) (Q:Value->Shared->Prop) (E:Value->Shared->Prop),Q (.int (g i) s.toks) {s with toks:=s.toks+1}->wpAny (model X.prog X.w) X.A (f (.int i t)) Q E s) :
  LA X f (rU λi=>.int (g i)):=by
 intro pins s b H x v Q I a h;obtain⟨i,rfl,q⟩:=h;obtain⟨t,rfl⟩:=a;exact rule i t s _ _ ⟨.int (g i),H,I.tok _,⟨_,rfl⟩,q⟩
theorem DH:LA X (unaryOp .USub) (rU λi=>.int (-i)):=QD λ_ _ _ _ _ q=>neg_int q
theorem wg{pins:List (Addr×Obj)}{a:St}{H:Hp}{s:Shared}{Q:VK}{k k':Bool}(I:Inv X pins a H s)(q:Q (.bl k) H)(e:k=k'):EP X pins a Q (.bool k') s:=by
 subst e;exact⟨.bl k,H,I,rfl,q⟩
theorem Gs:ia X (compareOp .Lt) (zH λi j=>.bl (decide (i<j))):=zI λ_ _ _ _ _ _ _ q=>lt_int q
theorem Gu:ia X (compareOp .LtE) (zH λi j=>.bl (decide (i<=j))):=zI λ_ _ _ _ _ _ _ q=>le_int q
theorem Gv:ia X (compareOp .Gt) (zH λi j=>.bl (decide (j<i))):=zI λ_ _ _ _ _ _ _ q=>gt_int q
theorem Gw:ia X (compareOp .GtE) (zH λi j=>.bl (decide (j<=i))):=zI λ_ _ _ _ _ _ _ q=>ge_int q
theorem uH:ia X (compareOp .In) (λx y H Q=>∃i j,x=.str i/\y=.str j/\Q (.bl (!(Builtin.Str.occurrences j i 0 j.length 1).isEmpty)) H):=by
 intro pins s c H x y v u Q I a b h;obtain⟨i,j,rfl,rfl,q⟩:=h;obtain⟨t,rfl⟩:=a;obtain⟨d,rfl⟩:=b;exact in_str (wg I q rfl)
theorem mY:ia X (compareOp .NotIn) (λx y H Q=>∃i j,x=.str i/\y=.str j/\Q (.bl (!(!(Builtin.Str.occurrences j i 0 j.length 1).isEmpty))) H):=by
 intro pins s c H x y v u Q I a b h;obtain⟨i,j,rfl,rfl,q⟩:=h;obtain⟨t,rfl⟩:=a;obtain⟨d,rfl⟩:=b;exact notIn_str (wg I q rfl)
theorem ia.or{f:Value->Value->Sem Value}{r a:R2}(h:ia X f r)(h':ia X f a):ia X f (λx y H Q=>r x y H Q\/a x y H Q):=by
 intro pins s b H x y v u Q I c d q;rcases q with q|q
 .exact h pins s b H x y v u Q I c d q
 .exact h' pins s b H x y v u Q I c d q
theorem sx{op:CmpOp}{r:R2}(c:ia X (compareOp op) r)(d:PE X a ta)(e:PE X b tb)(f:behindInMarks op b=false):PE X (.Compare a [op] [b] pos) (FK r ta tb):=by
 intro pins s g H Q I h;exact wpAny_Compare1 (DB d e I h λv u i x y j k l m q=>c pins i g j x y v u Q k l m q) f
noncomputable def wh(t:TE):TT:=λa H Q=>t a H λx b=>∃k,x=.bl k/\Q k b
theorem sy{op:CmpOp}{r:R2}(f:ia X (compareOp op) r)(g:PE X a ta)(i:PE X b tb)(j:behindInMarks op b=false):PT X (.Compare a [op] [b] pos) (wh (FK r ta tb)):=by
 intro pins s d H Q I h
 refine wpAny_isTrue_Compare1 (bM (g pins s d H _ I h) λv l ⟨x,H1,I1,r1,q1⟩=>bM (i pins l d H1 _ I1 q1) λu m ⟨y,H2,I2,r2,q2⟩=>
  bM (f pins m d H2 x y v u _ I2 r1 r2 q2) λc o ⟨z,H3,I3,n,k,e,q3⟩=>?_) j
 subst e;cases n;exact wpAny_truthy_bool ⟨H3,I3,q3⟩
noncomputable def qR(r c:R2)(d tb e:TE):TE:=λa H Q=>d a H λx f=>tb a f λy g=>r x y g λz b=>∃k,z=.bl k /\
 (if k=true then e a b λh i=>c y h i Q else Q (.bl false) b)
theorem wj{op f:CmpOp}{r j:R2}(l:ia X (compareOp op) r)(i:ia X (compareOp f) j)(m:PE X a ta)(n:PE X b tb)(o:PE X c tc)
  (p:lastMarks [op,f] [b,c]=false:=by with_unfolding_all rfl):PE X (.Compare a [op,f] [b,c] pos) (qR r j ta tb tc):=by
 intro pins s g H Q I h
 refine Compare_chain (bM (m pins s g H _ I h) λv q ⟨x,H1,I1,r1,q1⟩=>chain_link (bM (n pins q g H1 _ I1 q1) λu t ⟨y,H2,I2,r2,q2⟩=>
  bM (l pins t g H2 x y v u _ I2 r1 r2 q2) λd w ⟨z,H3,I3,A,k,e,q3⟩=>?_)) p
 subst e;cases A;refine wpAny_truthy_bool ?_;cases k with
 |false=>exact ite_ff ⟨.bl false,H3,I3,rfl,q3⟩
 |true=>exact ite_tt (chain_last (bM (o pins w g H3 _ I3 q3) λB C ⟨D,H4,I4,r4,q4⟩=>i pins C g H4 y D u B Q I4 r2 r4 q4))
theorem wk{op f:CmpOp}{r j:R2}(l:ia X (compareOp op) r)(i:ia X (compareOp f) j)(m:PE X a ta)(n:PE X b tb)(o:PE X c tc)
  (p:lastMarks [op,f] [b,c]=false:=by with_unfolding_all rfl):PT X (.Compare a [op,f] [b,c] pos) (wh (qR r j ta tb tc)):=by
 intro pins s g H Q I h
 refine isTrue_chain (bM (m pins s g H _ I h) λv q ⟨x,H1,I1,r1,q1⟩=>test_link (bM (n pins q g H1 _ I1 q1) λu t ⟨y,H2,I2,r2,q2⟩=>
  bM (l pins t g H2 x y v u _ I2 r1 r2 q2) λd w ⟨z,H3,I3,A,k,e,q3⟩=>?_)) p
 subst e;cases A;refine wpAny_truthy_bool ?_;cases k with
 |false=>
  obtain⟨J,B,C⟩:=q3;cases B;exact ite_ff ⟨H3,I3,C⟩
 |true=>
  refine ite_tt (test_last (bM (o pins w g H3 _ I3 q3) λD E ⟨F,H4,I4,r4,q4⟩=>bM (i pins E g H4 y F u D _ I4 r2 r4 q4) λK L ⟨M,H5,I5,G,k2,e2,q5⟩=>?_))
  subst e2;cases G;exact wpAny_truthy_bool ⟨H5,I5,q5⟩
def oQ(K:PySem.W.Frag)(x:V)(H:Hp)(k:Bool):Prop:=
 match x with
 |.non=>k=false
 |.bl b=>k=b
 |.int i=>k=(i != 0)
 |.str y=>y.length<=sizeLine/\k=((y.length:Int) != 0)
 |.FI y=>y.size<=sizeLine/\k=((y.size:Int) != 0)
 |.ref p=>(∃a,mU K H p a/\k=!a.isEmpty)\/(∃a,qM K H p a/\k=!a.isEmpty)\/∃c,H p=some (.dK c)/\k=!c.isEmpty
 |_=>False
theorem qS{κ:Type}{a:List (κ×V)}{vs:List (κ×Value)}(r:KV a vs):(!vs.isEmpty)=!a.isEmpty:=by
 cases r<;>rfl
theorem kh{xs:List V}{a:List Value}(r:Vals xs a):(!a.toArray.isEmpty)=!xs.isEmpty:=by
 cases r<;>simp
theorem gk:(sizeLine:Nat)<2 ^ 63:=by rw[sizeLine_eq];decide
theorem mZ:LB X (λx H Q=>∃k,oQ X.K x H k/\Q k H):=by
 intro pins s B H x v Q I g h;obtain⟨k,e,q⟩:=h;have C:=gk;have D:sizeLine=16777216:=sizeLine_eq;cases x with
 |non=>
  cases g;have a:k=false:=e;subst a;exact truthy_none ⟨H,I,q⟩
 |bl b=>
  cases g;have a:k=b:=e;subst a;exact wpAny_truthy_bool ⟨H,I,q⟩
 |int i=>
  obtain⟨t,rfl⟩:=g;have a:k=(i != 0):=e;subst a;exact PySem.P.truthy_int ⟨H,I,q⟩
 |str y=>
  obtain⟨t,rfl⟩:=g;obtain⟨z,a⟩:y.length<=sizeLine/\k=((y.length:Int) != 0):=e;subst a;exact PySem.P.truthy_str (by omega) ⟨H,I.tok _,q⟩
 |FI y=>
  obtain⟨t,rfl⟩:=g;obtain⟨z,a⟩:y.size<=sizeLine/\k=((y.size:Int) != 0):=e;subst a;exact PySem.W.truthy_bytes (by omega) ⟨H,I.tok _,q⟩
 |ref p=>
  cases g;have a:(∃f,mU X.K H p f/\k=!f.isEmpty)\/(∃f,qM X.K H p f/\k=!f.isEmpty)\/∃c,H p=some (.dK c)/\k=!c.isEmpty:=e;rcases a with ⟨f,j,a⟩|⟨f,j,a⟩|⟨c,j,a⟩
  .subst a
   obtain⟨n,r,o,u⟩:=I.list j;have d:=r.length;exact wpAny_truthy_list o.isList (by simp only[List.size_toArray];omega) ⟨H,I.tok _,by rw[kh r];exact q⟩
  .subst a
   obtain⟨n,r,o,u⟩:=I.tuple j;have d:=r.length;exact truthy_tuple o (by simp only[List.size_toArray];omega) ⟨H,I.tok _,by rw[kh r];exact q⟩
  .subst a
   obtain⟨u,A,l,r,m⟩:c.length<=sizeLine/\(p==sysModules)=false/\∃l,KV c l/\s.heap.DictOf (bu X.prog X.w) p l:=I.hok p _ j;have d:c.length=l.length:=Paired.length r;exact wpAny_truthy_dict A m (by omega) ⟨H,I.tok _,by rw[qS r];exact q⟩
 |_=>exact(show False from e).elim
theorem wm(e:PE X a ta)(f:∀b,isTrue a X.env b=(do let v ←b;standAt a.pos;holding [v] (truthy v))) :
  PT X a (λc H Q=>ta c H λx d=>∃k,oQ X.K x d k/\Q k d):=by
 intro pins s c H Q I h;exact isTrue_plain (bM (e pins s c H _ I h) λv g ⟨x,H1,I1,r1,q1⟩=>mZ pins g c H1 x v Q I1 r1 q1) (f _)
theorem qT:ia X (binaryOp .Add) (λx y H Q=>∃i j,x=.str i/\y=.str j/\i.length+j.length<=sizeLine/\Q (.str (i++j)) H):=by
 intro pins s e H x y v u Q I a b h;obtain⟨i,j,rfl,rfl,c,q⟩:=h;obtain⟨t,rfl⟩:=a;obtain⟨d,rfl⟩:=b;exact add_str (λd f=>⟨.str (i++j),H,I.tok _,⟨_,rfl⟩,q⟩) c
theorem vals1{x:V}{us:List Value}(r:Vals [x] us):∃u,us=[u]/\RelV x u:=by
 cases r with
 |cons a b=>cases b;exact⟨_,rfl,a⟩
theorem vals2{x y:V}{us:List Value}(r:Vals [x,y] us):∃u a,us=[u,a]/\RelV x u/\RelV y a:=by
 cases r with
 |cons b c=>
  cases c with
  |cons d e=>cases e;exact⟨_,_,rfl,b,d⟩
theorem uI(b:X.calm=true):ed X (.builtin "max") (λxs H Q=>∃i j,xs=[.int i,.int j]/\Q (.int (if j>i then j else i)) H):=by
 intro pins s c H xs d Q I r h;obtain⟨i,j,rfl,q⟩:=h;obtain⟨u,e,rfl,⟨t,rfl⟩,⟨f,rfl⟩⟩:=vals2 r;refine max_two_ints (I.ok.hd b) λg l k=>⟨_,H,I.kept k,?_,q⟩
 by_cases a:j>i
 .rw[if_pos a,if_pos a];exact⟨_,rfl⟩
 .rw[if_neg a,if_neg a];exact⟨_,rfl⟩
theorem uJ(b:X.calm=true):ed X (.builtin "min") (λxs H Q=>∃i j,xs=[.int i,.int j]/\Q (.int (if j<i then j else i)) H):=by
 intro pins s c H xs d Q I r h;obtain⟨i,j,rfl,q⟩:=h;obtain⟨u,e,rfl,⟨t,rfl⟩,⟨f,rfl⟩⟩:=vals2 r;refine min_two_ints (I.ok.hd b) λg l k=>⟨_,H,I.kept k,?_,q⟩
 by_cases a:j<i
 .rw[if_pos a,if_pos a];exact⟨_,rfl⟩
 .rw[if_neg a,if_neg a];exact⟨_,rfl⟩
end
structure qU(h:Heap)(x dx C:Addr)(mA:Str->Option Value):Prop where
 obj:h.get? x=some (PySem.W.instObj C dx)
 ns:h.Ns1 dx mA
 ne:dx≠x
theorem gM{h:Heap}{c:Addr}{d:Str->Option Value}(n:h.Ns1 c d):∃od,h.get? c=some od/\∀name,PySem.W.lookIn name od=some (d name):=by
 obtain⟨o,f,p,g,i,j,_,k⟩:=n;refine⟨o,g,λname=>?_⟩
 have e:=k name;unfold nsFind findBy at e;rw[←Array.find?_toList]at e;unfold PySem.W.lookIn;rw[i];dsimp only;split
 .rename_i y q
  rw[q]at e;exact congrArg some e
 .rename_i q
  rw[q]at e
  have a:f.toList.any (·.refKey)=false:=by
   rw[List.any_eq_false];intro y l;obtain⟨z,t,b⟩:=j y (Array.mem_toList_iff.mp l);simp[DictEntry.refKey,b]
  have m:¬ f.toList.any (·.refKey)=true:=by rw[a];exact Bool.false_ne_true
  rw[if_neg m];exact congrArg some e
theorem qU.look{h:Heap}{x a C:Addr}{b:Str->Option Value}(I:qU h x a C b):∃od,PySem.W.InstAt h x (PySem.W.instObj C a) C (some od)/\∀name,PySem.W.lookIn name od=some (b name):=
 let ⟨od,c,d⟩:=gM I.ns
 ⟨od,⟨I.obj,rfl,rfl,c⟩,d⟩
section
variable{prog:Program}{w:World}{A:Around}{E:Value->Shared->Prop}{s:Shared}{K:PySem.W.Frag}{x dx C f:Addr}{mA:Str->Option Value}{name:Str}{v:Value}
theorem get_map{a:Bool}{Q:Value->Shared->Prop}(X:K.In s.heap)(I:qU s.heap x dx C mA)(c:PySem.W.plainGet K C name=true)(d:PySem.W.hasDictIn K C=true)
  (e:PySem.W.findIn K (.ref C) name=some none) (f:mA name=some v) (b:PySem.W.handedIn v=true) (h:Q v {s with toks:=s.toks+1}) :
  wpAny (model prog w) A (getAttr (.ref x) name a) Q E s:=by
 obtain⟨i,J,g⟩:=I.look;exact PySem.W.get_value X J (PySem.W.plainGet_of c).1 (PySem.W.findObj_own d e rfl (by rw[g,f])) b h
theorem wo{pl:Sem Bool}{Q:Value×List Value->Shared->Prop}(X:K.In s.heap)(I:qU s.heap x dx C mA)(a:PySem.W.plainGet K C name=true)
  (b:PySem.W.findIn K (.ref C) name=some (some (.ref f))) (c:PySem.W.isFn K (.ref f)=true) (d:mA name=none) (h:Q (.ref f,[.ref x]) s) :
  wpAny (model prog w) A (getMethod (.ref x) name pl) Q E s:=by
 obtain⟨e,J,g⟩:=I.look;exact PySem.W.method_fn X J (PySem.W.plainGet_of a).1 (PySem.W.plainGet_of a).2 b (beq_iff_eq.mp c) (by show(PySem.W.lookIn name e).map (·.isSome)=some false;rw[g,d];rfl) h
theorem zL{ns:List Str}{Q:Unit->Shared->Prop}(X:K.In s.heap)(I:qU s.heap x dx C mA)
  (j:PySem.W.findIn K (.ref C) "__setattr__"=some (some (.builtin "object.__setattr__"))) (k:PySem.W.plainOver K C=true) (l:PySem.W.takerIn K C name=some none) (m:PySem.W.hasDictIn K C=true)
  (n:PySem.Within mA ns) (hsz:ns.length<=sizeLine)
  (h:∀h',qU h' x dx C (λy=>if y=name then some v else mA y)->Heap.SameBut dx s.heap h'->Q () {s with heap:=h',toks:=s.toks+2}) :
  wpAny (model prog w) A (setAttr (.ref x) name v) Q E s:=by
 obtain⟨u,J,z⟩:=I.look;refine PySem.W.set_plain X J j (PySem.W.osa_open (s:={s with toks:=s.toks+1}) (r:=none) X J k l λb=>?_)
 obtain⟨B,o,e⟩:=PySem.W.any_some m;have p:s.heap.get? x=some ⟨.ref C,some dx,.plain,#[]⟩:=I.obj;refine wpAny_bind (wpAny_pure (wpAny_bind (wpAny_bind (wpAny_loadPart p (wpAny_bind (PySem.W.Looks.here (s:={s with toks:=s.toks+1}) (PySem.W.looks_clsIn X o) ?_))))));rw[e];refine wpAny_pure (a:=some dx) (wpAny_bind (wpAny_pure (wpAny_bind ?_)));refine wpAny_nsSet1 (s:={s with toks:=s.toks+1}) I.ns λh' c d=>?_
 obtain⟨D,q,t,f,g,i⟩:=c.count (PySem.Within.cons name v n);refine wpAny_bind (wpAny_lookBehind f (by rw[g];exact pastItsLine_dict (Nat.le_trans i (by rw[List.length_cons];omega))) ?_)
 exact wpAny_pure (h _ ⟨(d.2 _ (Ne.symm I.ne)).trans I.obj,c,I.ne⟩ d)
theorem wq{R:Result->Shared->Prop}{vs:List Value}{kw:List (Str×Value)}(X:K.In s.heap)(a:PySem.W.makesIn K C=true)
  (b:PySem.W.findIn K (.ref C) "__init__"=some (some (.ref f))) (c:PySem.W.typeIn K (.ref f)=some (.type "function"))
  (h:codeAny (model prog w) (A.under (.builtin "type.__call__" ⟨.ref C::vs,kw⟩)) (.call (.ref f) ⟨.ref (s.heap.objs.size+1)::vs,kw⟩) (PySem.W.InitBack (s.heap.objs.size+1) R)
   {s with heap:=(s.heap.push PySem.W.emptyDict).push (PySem.W.instObj C s.heap.objs.size)}) :
  codeAny (model prog w) A (.call (.ref C) ⟨vs,kw⟩) R s:=by
 obtain⟨e,g,d,t,i⟩:=s;exact PySem.W.make_core (PySem.W.makes_of X a) (PySem.W.looks_findIn X b) (λself=>PySem.W.bind_fn X self c) (.inl rfl) h
end
noncomputable def fM(f:Str)(v:V):List (Str×V)->List (Str×V)
 |[]=>[(f,v)]
 | (g,x)::r=>if g=f then (g,v)::r else (g,x)::fM f v r
theorem jz(f g:Str)(v:V):∀fs:List (Str×V),(fM f v fs).lookup g=if g=f then some v else fs.lookup g
 |[]=>by
  show List.lookup g [(f,v)]=_
  by_cases h:g=f
  .have a:(g==f)=true:=beq_iff_eq.mpr h
   simp only[List.lookup,a,if_pos h]
  .have a:(g==f)=false:=beq_eq_false_iff_ne.mpr h
   simp only[List.lookup,a,if_neg h]
 | (k,x)::r=>by
  have c:=jz f g v r;rw[show fM f v ((k,x)::r)=(if k=f then (k,v)::r else (k,x)::fM f v r)from rfl]
  by_cases b:k=f
  .rw[if_pos b]
   by_cases h:g=k
   .have a:(g==k)=true:=beq_iff_eq.mpr h
    simp only[List.lookup,a,if_pos (h.trans b)]
   .have a:(g==k)=false:=beq_eq_false_iff_ne.mpr h
    simp only[List.lookup,a,if_neg (λe:g=f=>h (e.trans b.symm))]
  .rw[if_neg b]
   by_cases h:g=k
   .have a:(g==k)=true:=beq_iff_eq.mpr h
    simp only[List.lookup,a,if_neg (λe:g=f=>b (h.symm.trans e))]
   .have a:(g==k)=false:=beq_eq_false_iff_ne.mpr h
    simp only[List.lookup,a];exact c
theorem jj(f:Str)(v:V):∀fs:List (Str×V),f∈(fM f v fs).map (·.1)/\∀g,g∈fs.map (·.1)->g∈(fM f v fs).map (·.1)
 |[]=>⟨by simp[fM],λg h=>by simp at h⟩
 | (k,x)::r=>by
  obtain⟨i1,b⟩:=jj f v r;rw[show fM f v ((k,x)::r)=(if k=f then (k,v)::r else (k,x)::fM f v r)from rfl]
  by_cases a:k=f
  .rw[if_pos a]
   subst a;exact⟨by simp,λg h=>by simpa using h⟩
  .rw[if_neg a]
   refine⟨?_,λg h=>?_⟩
   .rw[List.map_cons]
    exact List.mem_cons_of_mem _ i1
   .rw[List.map_cons]at h ⊢
    rcases List.mem_cons.mp h with e|e
    .exact List.mem_cons.mpr (.inl e)
    .exact List.mem_cons_of_mem _ (b g e)
theorem jA(f:Str)(v:V):∀fs:List (Str×V),(fM f v fs).length<=fs.length+1
 |[]=>by simp[fM]
 | (k,x)::r=>by
  have b:=jA f v r;rw[show fM f v ((k,x)::r)=(if k=f then (k,v)::r else (k,x)::fM f v r)from rfl]
  by_cases a:k=f
  .rw[if_pos a,List.length_cons,List.length_cons];omega
  .rw[if_neg a,List.length_cons,List.length_cons];omega
theorem fh.some_of{v:V}{o:Option Value}(r:fh (some v) o):∃u,o=some u/\RelV v u:=by
 cases o with
 |none=>exact(show False from r).elim
 |some u=>exact⟨u,rfl,r⟩
theorem fh.none_of{o:Option Value}(r:fh none o):o=none:=by
 cases o with
 |none=>rfl
 |some u=>exact(show False from r).elim
theorem lV{v:V}{u:Value}(r:RelV v u):PySem.W.handedIn u=true:=by
 cases v with
 |non=>cases (show u=Value.none from r);rfl
 |bl b=>cases (show u=Value.bool b from r);rfl
 |int i=>obtain⟨t,e⟩:=(show ∃t,u=Value.int i t from r);cases e;rfl
 |str x=>obtain⟨t,e⟩:=(show ∃t,u=Value.str x t from r);cases e;rfl
 |FI b=>obtain⟨t,e⟩:=(show ∃t,u=Value.bytes b t from r);cases e;rfl
 |flt b=>obtain⟨t,e⟩:=(show ∃t,u=Value.float b t from r);cases e;rfl
 |ref a=>cases (show u=Value.ref a from r);rfl
 |ty n=>cases (show u=Value.type n from r);rfl
section
variable{P:Program}{w:World}{H H':Hp}{h h':Heap}{a C dx:Addr}{fs fs':List (Str×V)}
theorem iy(c:ff P w H h)(e:H a=some (.ins C dx fs)):∃b,qU h a dx C b/\(∀f,fh (fs.lookup f) (b f))/\PySem.Within b (fs.map (·.1))/\fs.length<=1000/\H dx=some (.own a):=by
 obtain⟨d,z,g,i,b,n,r,q⟩:=(show bQ P w H h a (.ins C dx fs)from c a _ e)
 exact⟨b,⟨i,n,g⟩,r,q,z,d⟩
end
structure lW(K:PySem.W.Frag)(C:Addr):Prop where
 pg:PySem.W.plainGet K C Str.empty=true
 hd:PySem.W.hasDictIn K C=true
 po:PySem.W.plainOver K C=true
 sa:PySem.W.findIn K (.ref C) "__setattr__"=some (some (.builtin "object.__setattr__"))
theorem lW.get{K:PySem.W.Frag}{C:Addr}(c:lW K C)(f:Str):PySem.W.plainGet K C f=true:=c.pg
def cK(K:PySem.W.Frag)(C:Addr)(f:Str):Prop:=PySem.W.findIn K (.ref C) f=some none
theorem cK.taker{K:PySem.W.Frag}{C:Addr}{f:Str}(n:cK K C f):PySem.W.takerIn K C f=some none:=by
 unfold PySem.W.takerIn;rw[show PySem.W.findIn K (.ref C) f=some none from n]
 rfl
structure Meth(K:PySem.W.Frag)(C:Addr)(m:Str)(f:Addr):Prop where
 at_:PySem.W.findIn K (.ref C) m=some (some (.ref f))
 fn:PySem.W.isFn K (.ref f)=true
 kp:PySem.W.keepIn K (.ref f)=true
section
variable{X:Cx}{pins:List (Addr×Obj)}{σ:St}{H:Hp}{s:Shared}{a C dx:Addr}{fs:List (Str×V)}{f:Str}{v:V}{A:Around}{E:Value->Shared->Prop}
theorem ki{b:Bool}{Q:Value->Shared->Prop}(I:Inv X pins σ H s)(e:H a=some (.ins C dx fs))(c:lW X.K C)(n:cK X.K C f)(l:fs.lookup f=some v)
  (h:∀u d,Inv X pins σ H d->RelV v u->Q u d):wpAny (model X.prog X.w) A (getAttr (.ref a) f b) Q E s:=by
 obtain⟨i,O,r,_,_,_⟩:=iy I.hok e;obtain⟨u,j,g⟩:=fh.some_of (v:=v) (o:=i f) (by rw[←l];exact r f)
 exact get_map I.eg O (c.get f) c.hd n j (lV g) (h u _ (I.tok _) g)
theorem ib{m:Str}{g:Addr}{pl:Sem Bool}{Q:Value×List Value->Shared->Prop}(I:Inv X pins σ H s)(e:H a=some (.ins C dx fs))(c:lW X.K C)(k:Meth X.K C m g)(l:fs.lookup m=none)
  (h:Q (.ref g,[.ref a]) s):wpAny (model X.prog X.w) A (getMethod (.ref a) m pl) Q E s:=by
 obtain⟨b,O,r,_,_,_⟩:=iy I.hok e;have d:b m=none:=fh.none_of (by rw[←l];exact r m)
 exact wo I.eg O (c.get m) k.at_ k.fn d h
theorem qV{y:V}{u:Value}{Q:Unit->Shared->Prop}(I:Inv X pins σ H s)(e:H a=some (.ins C dx fs))(c:lW X.K C)(n:cK X.K C f)(J:fs.length<1000)(m:RelV y u)
  (h:∀i,Inv X pins σ (upd H a (.ins C dx (fM f y fs))) i->Q () i):wpAny (model X.prog X.w) A (setAttr (.ref a) f u) Q E s:=by
 obtain⟨j,O,r,k,_,l⟩:=iy I.hok e;have p:(fs.map (·.1)).length<=sizeLine:=by rw[List.length_map,sizeLine_eq];omega
 refine zL I.eg O c.sa c.po n.taker c.hd k p λt d B=>h _ ?_
 have D:∃o,t.get? dx=some o:=let ⟨o,_,_,e',_⟩:=d.ns;⟨o,e'⟩
 refine I.write (x:=a) (e:=dx) (by rw[e];exact True.intro) (.inr l) (λb q F z=>(B.2 b F).trans z) D ?_
 refine⟨by rw[ai O.ne];exact l,?_,O.ne,d.obj,_,d.ns,λg=>?_,λg G=>?_⟩
 .have:=jA f y fs;omega
 .show fh ((fM f y fs).lookup g) (if g=f then some u else j g)
  rw[jz]
  by_cases q:g=f
  .rw[if_pos q,if_pos q];exact m
  .rw[if_neg q,if_neg q];exact r g
 .by_cases q:g=f
  .rw[q];exact(jj f y fs).1
  .refine(jj f y fs).2 g (k g λz=>G ?_)
   show(if g=f then some u else j g)=none
   rw[if_neg q];exact z
theorem Inv.made(I:Inv X pins σ H s):Inv X pins σ (upd (upd H s.heap.objs.size (.own (s.heap.objs.size+1))) (s.heap.objs.size+1) (.ins C s.heap.objs.size []))
  {s with heap:=(s.heap.push PySem.W.emptyDict).push (PySem.W.instObj C s.heap.objs.size)}:=by
 have c:(s.heap.push PySem.W.emptyDict).get? s.heap.objs.size=some PySem.W.emptyDict:=Heap.get?_push_size s.heap rfl
 have f:((s.heap.push PySem.W.emptyDict).push (PySem.W.instObj C s.heap.objs.size)).get? (s.heap.objs.size+1)=some (PySem.W.instObj C s.heap.objs.size):=by
  have:=Heap.get?_push_size (s.heap.push PySem.W.emptyDict) (o:=PySem.W.instObj C s.heap.objs.size) rfl;rwa[Heap.size_push]at this
 have g:(s.heap.push PySem.W.emptyDict).Ns s.heap.objs.size (λ_=>none):=⟨PySem.W.emptyDict,#[],_,c,rfl,(λe h=>absurd h (by simp)),λ_=>rfl⟩
 have i:=I.laid (a:=s.heap.objs.size) (o:=.own (s.heap.objs.size+1)) (h':=s.heap.push PySem.W.emptyDict) (t':=s.toks) (λb u q=>Heap.get?_push_of_some _ q) (Nat.le_refl _) ⟨_,c⟩
 refine i.laid (a:=s.heap.objs.size+1) (o:=.ins C s.heap.objs.size []) (t':=s.toks) (λb u q=>Heap.get?_push_of_some _ q) (Nat.le_of_eq (Heap.size_push _ _)) ?_
 have d:s.heap.objs.size≠s.heap.objs.size+1:=Nat.ne_of_lt (Nat.lt_succ_self _);refine⟨by rw[ai d,aF],Nat.zero_le _,d,f,λ_=>none,(Heap.Ns1.of_empty g).at λo q=>Heap.get?_push_of_some _ q,λ_=>True.intro,λy j=>absurd rfl j⟩
theorem m_{prog:Program}{w:World}{env:Env}{e:Expr}{f:Str}{pos:Pos}{s:Shared}{Q:Value->Shared->Prop}(b:attributeBase e f env (eval e env)=eval e env)
  (h:wpAny (model prog w) A (eval e env) (λo a=>wpAny (model prog w) A (getAttr o f true) Q E a) E s):wpAny (model prog w) A (eval (.Attribute e f pos) env) Q E s:=
 Attribute_any_ h (by rw[arm_eval_Attribute,b])
end
noncomputable def LC(K:PySem.W.Frag)(d:TE)(f:Str):TE:=λe H Q=>d e H λx b=>∃a C g c v,x=.ref a/\b a=some (.ins C g c)/\lW K C/\cK K C f/\c.lookup f=some v/\Q v b
def LD(K:PySem.W.Frag)(g h:TE)(f:Str):TS:=λD b H=>h b H λy i=>g b i λx d=>∃a C e c,x=.ref a/\d a=some (.ins C e c)/\lW K C/\cK K C f/\c.length<1000 /\
 D.nx b (upd d a (.ins C e (fM f y c)))
section
variable{X:Cx}{o e value:Expr}{f:Str}{pos pos' tpos:Pos}{ta tv:TE}
theorem DI(b:PE X e ta)(d:attributeBase e f X.env (eval e X.env)=eval e X.env):PE X (.Attribute e f pos) (LC X.K ta f):=by
 intro pins s g H Q I h;refine m_ d (bM (b pins s g H _ I h) λu k ⟨x,H1,I1,rx,a,C,dx,fs,v,ex,ea,c,n,l,q⟩=>?_)
 subst ex;obtain rfl:u=Value.ref a:=rx;exact ki I1 ea c n l λm o i j=>⟨v,H1,i,j,q⟩
theorem DJ(d:PE X o ta)(e:PE X value tv)(g:swapsWith value (some (.Attribute o f pos')) pos.line X.env=pure false):PS X (.Assign [.Attribute o f pos'] value pos) (LD X.K ta tv f):=by
 intro pins s b H D I h;refine plainObj_wpAny_Assign_Attribute (bM (e pins s b H _ I h) λu i ⟨y,H1,I1,ry,q⟩=>bM (d pins i b H1 _ I1 q) λj m ⟨x,H2,I2,rx,a,C,dx,fs,ex,ea,c,n,l,q2⟩=>?_) g
 subst ex;obtain rfl:j=Value.ref a:=rx;exact qV I2 ea c n l ry λp k=>⟨b,_,k,q2⟩
end
section
variable{X:Cx}{pins:List (Addr×Obj)}{σ:St}{H:Hp}{s:Shared}{A:Around}{E:Value->Shared->Prop}{Q:Value->Shared->Prop}{c:Value}{b:Bool}
inductive jK (K:PySem.W.Frag) (H:Hp):V->Value->Prop where
 |non:jK K H .non (.type "NoneType")
 |bl (x:Bool):jK K H (.bl x) (.type "bool")
 |int (i:Int):jK K H (.int i) (.type "int")
 |str (x:Str):jK K H (.str x) (.type "str")
 |flt (x:UInt64):jK K H (.flt x) (.type "float")
 |lst {a:Addr}{xs:List V} (e:H a=some (.lst xs)):jK K H (.ref a) (.type "list")
 |cw {a:Addr}{o:Obj}{xs:List V} (e:H a=some (.cw o (.lst xs))):jK K H (.ref a) (.type "list")
 |tup {a:Addr}{xs:List V} (e:H a=some (.tup xs)):jK K H (.ref a) (.type "tuple")
 |dK {a:Addr}{kvs:List (Key×V)} (e:H a=some (.dK kvs)):jK K H (.ref a) (.type "dict")
 |dT {a:Addr}{kvs:List (List Key×V)} (e:H a=some (.dT kvs)):jK K H (.ref a) (.type "dict")
 |ins {a C dx:Addr}{fs:List (Str×V)} (e:H a=some (.ins C dx fs)) (cl:lW K C) (ha:PySem.W.findIn K (.ref C) "__class__"=some (some (.builtin "object.__class__")))
   (hn:PySem.W.specialIn K (.builtin "object.__class__") "__get__"=some (some (.builtin "getset_descriptor.__get__"))) (htk:PySem.W.takesIn K (.builtin "object.__class__")=some true)
   (hm:PySem.W.mroIn K C (.type "object")=some true):jK K H (.ref a) (.ref C)
theorem cJ{x:V}{u t:Value}(I:Inv X pins σ H s)(d:RelV x u)(B:jK X.K H x t)(e:PySem.W.kitOne X.K t c=some b)(h:∀tk,Q (.bool b) {s with toks:=tk}) :
  wpAny (model X.prog X.w) A (call (.builtin "isinstance") [u,c]) Q E s:=by
 cases B with
 |non=>cases (show u=Value.none from d);exact PySem.W.kia_one PySem.W.kitx_none I.eg True.intro e (λz=>nomatch z) h
 |bl y=>cases (show u=Value.bool y from d);exact PySem.W.kia_one PySem.W.kitx_bool I.eg True.intro e (λz=>nomatch z) h
 |int i=>obtain⟨t,q⟩:=(show ∃t,u=Value.int i t from d);cases q;exact PySem.W.kia_one PySem.W.kitx_int I.eg True.intro e (λz=>nomatch z) h
 |str y=>obtain⟨t,q⟩:=(show ∃t,u=Value.str y t from d);cases q;exact PySem.W.kia_one PySem.W.kitx_str I.eg True.intro e (λz=>nomatch z) h
 |flt y=>obtain⟨t,q⟩:=(show ∃t,u=Value.float y t from d);cases q;exact PySem.W.kia_one PySem.W.kitx_float I.eg True.intro e (λz=>nomatch z) h
 |@lst a k f=>
  cases (show u=Value.ref a from d)
  obtain⟨_,_,n,_,g⟩:=(show bQ X.prog X.w H s.heap a (.lst k)from I.hok a _ f)
  exact PySem.W.kia_one PySem.W.kitx_list I.eg ⟨_,g,rfl⟩ e (λz=>nomatch z) h
 |@cw a D k f=>
  cases (show u=Value.ref a from d)
  obtain⟨_,_,_,n,_,g⟩:=(show bQ X.prog X.w H s.heap a (.cw D (.lst k))from I.hok a _ f)
  exact PySem.W.kia_one PySem.W.kitx_list I.eg ⟨_,g,rfl⟩ e (λz=>nomatch z) h
 |@tup a k f=>
  cases (show u=Value.ref a from d)
  obtain⟨_,_,_,p⟩:=(show bQ X.prog X.w H s.heap a (.tup k)from I.hok a _ f)
  obtain⟨o,g,l,_⟩:=p;exact PySem.W.kia_one PySem.W.kitx_tuple I.eg ⟨o,g,l⟩ e (λz=>nomatch z) h
 |@dK a j f=>
  cases (show u=Value.ref a from d)
  obtain⟨_,_,P,_,p⟩:=(show bQ X.prog X.w H s.heap a (.dK j)from I.hok a _ f)
  obtain⟨o,F,G,g,l,_⟩:=p;exact PySem.W.kia_one PySem.W.kitx_dict I.eg ⟨o,g,l.1⟩ e (λz=>nomatch z) h
 |@dT a j f=>
  cases (show u=Value.ref a from d)
  obtain⟨_,_,k,_,o,F,G,g,l,_⟩:=(show bQ X.prog X.w H s.heap a (.dT j)from I.hok a _ f)
  exact PySem.W.kia_one PySem.W.kitx_dict I.eg ⟨o,g,l.1⟩ e (λz=>nomatch z) h
 |@ins a C R S f r L M m N=>
  cases (show u=Value.ref a from d)
  obtain⟨T,O,_⟩:=iy I.hok f;obtain⟨U,J,_⟩:=O.look;exact PySem.W.kia_one (PySem.W.kitx_own (r.get _) r.hd L M m N) I.eg J e (λz=>nomatch z) h
end
structure br(k:Nat)(A:Around):Prop where
 hd:A.handled=none
 dp:A.depth+3*k+5<recursionLimit
 un:A.units+16*k+200<cLine
theorem br.mono{j k:Nat}{A:Around}(r:br k A)(h:j<=k):br j A:=⟨r.hd,by have:=r.dp;omega,by have:=r.un;omega⟩
theorem br.deeper{k:Nat}{A:Around}(r:br (k+1) A)(env:Env):br k (A.deeper env):=
 ⟨r.hd,by have:=r.dp;show A.depth+1+3*k+5<_;omega,by have:=r.un;show A.units+3+16*k+200<_;omega⟩
theorem qW{A:Around}{C:Addr}{us:List Value}{kw:List (Str×Value)}:(A.under (.builtin "type.__call__" ⟨.ref C::us,kw⟩)).depth=A.depth+1:=by
 first|rfl|simp[Around.under,Code.weight,Code.isCreation,Code.isGuard,Code.isCaller,Code.frames,Code.isFrame,guardIds]
theorem qX{A:Around}{C:Addr}{us:List Value}{kw:List (Str×Value)}:(A.under (.builtin "type.__call__" ⟨.ref C::us,kw⟩)).units=A.units+1:=by
 first|rfl|simp[Around.under,Code.cUnits,Code.frames,Code.isFrame]
theorem br.make{k:Nat}{A:Around}(r:br (k+1) A)(C:Addr)(us:List Value)(kw:List (Str×Value)):br k (A.under (.builtin "type.__call__" ⟨.ref C::us,kw⟩)):=
 ⟨r.hd,by have:=r.dp;rw[qW];omega,by have:=r.un;rw[qX];omega⟩
theorem br.depth{k:Nat}{A:Around}(r:br k A):A.depth<recursionLimit:=by have:=r.dp;omega
theorem br.units{k:Nat}{A:Around}(r:br k A):A.units+64<cLine:=by have:=r.un;omega
noncomputable def zM:TA:=λ_ H Q=>Q [] H
noncomputable def Gx(b:TE)(c:TA):TA:=λa H Q=>b a H λx d=>c a d λe f=>Q (x::e) f
section
variable{X:Cx}{e:Expr}{es:List Expr}{te:TE}{t:TA}{pos:Pos}
theorem ng:PA X [] zM:=λ_ _ _ _ H Q I h=>Calls.spliced_nil ⟨[],H,I,.nil,h⟩
theorem ei(c:PE X e te)(d:PA X es t)(f:starEach (e::es) X.env=(false,eval e X.env)::starEach es X.env:=by rfl):PA X (e::es) (Gx te t):=by
 intro a pins s b H Q I h;rw[f]
 show wpAny _ _ (spliced ((false,eval e X.env)::backTo a (starEach es X.env))) _ _ s
 refine Calls.spliced_cons (bM (c pins s b H _ I h) λu g ⟨x,H1,I1,r1,q1⟩=>?_)
 exact bM (d a pins g b H1 _ I1 q1) λj k ⟨i,H2,I2,r2,q2⟩=>⟨x::i,H2,I2,.cons r1 r2,q2⟩
def LF(t:TA):TE:=λc H Q=>t c H λa b=>a.length<=sizeLine/\∀p,b p=none->Q (.ref p) (upd b p (.tup a))
def LG(t:TA):TE:=λc H Q=>t c H λa b=>a.length<=sizeLine/\∀p,b p=none->Q (.ref p) (upd b p (.lst a))
theorem DK{x1}(h:PA X es t):PE X (.Tuple es x1 pos) (LF t):=by
 intro pins s c H Q I d;refine wpAny_Tuple_spliced (bM (h pos pins s c H _ I d) λf a ⟨g,H1,I1,r,z,q⟩=>⟨by rw[←r.length];exact z,?_⟩)
 have i:H1 a.heap.objs.size=none:=I1.hok.fresh (Nat.le_refl _);refine⟨.ref a.heap.objs.size,upd H1 a.heap.objs.size (.tup g),I1.laid (t':=a.toks) (λb u e=>Heap.get?_push_of_some _ e) (Nat.le_refl _) ?_,rfl,q _ i⟩
 exact⟨z,f,r,⟨_,Heap.get?_push_size _ rfl,rfl,_,rfl⟩⟩
theorem DL(h:PA X es t):PE X (.List es pos) (LG t):=by
 intro pins s c H Q I d;refine wpAny_List_spliced (bM (h pos pins s c H _ I d) λf a ⟨g,H1,I1,r,z,q⟩=>⟨by rw[←r.length];exact z,?_⟩)
 have i:H1 a.heap.objs.size=none:=I1.hok.fresh (Nat.le_refl _);refine⟨.ref a.heap.objs.size,upd H1 a.heap.objs.size (.lst g),I1.laid (t':=a.toks) (λb u e=>Heap.get?_push_of_some _ e) (Nat.le_refl _) ?_,rfl,q _ i⟩
 exact⟨z,f,0,r,Heap.get?_push_size _ rfl⟩
end
abbrev Sp:=List V->Hp->VK->XK->Prop
abbrev oR:=List Env->Hp->Shared->XK->Value->Shared->Prop
structure ni(P:Program)(w:World)(K:PySem.W.Frag)(mg:Str->Option Value)(base:Heap)(A:Around)(outer:List Env)(s:Shared)(H:Hp):Prop where
 frames:A.frames=some outer
 mod:Mod K mg base
 bs:∀b o,base.get? b=some o->s.heap.get? b=some o/\H b=none
 qJ:base.objs.size<=s.heap.objs.size
 fi:s.heap.FunFrames base outer
 so:∀b∈frs outer,H b=none
 hok:ff P w H s.heap
 bare:AllBare s.gens
def CE(outer:List Env)(P:Program)(w:World)(H:Hp)(s:Shared)(Q:VK)(u:Value)(a:Shared):Prop:=
 ∃v b,a.os=s.os/\AllBare a.gens/\Un (frs outer) [] H b s.heap a.heap/\ff P w b a.heap/\RelV v u/\Q v b
def CR(CX:oR)(outer:List Env)(P:Program)(w:World)(H:Hp)(s:Shared)(Q:VK)(E:XK)(r:Result)(a:Shared):Prop:=
 match r with
 |.ok (.ret u)=>CE outer P w H s Q u a
 |.ok _=>False
 |.error e=>CX outer H s E e a
structure bF(P:Program)(w:World)(K:PySem.W.Frag)(mg:Str->Option Value)(base:Heap)(CX:oR)(k:Nat)(f:Addr)(fd:FuncData)(ps:List Str)(sp:Sp):Prop where
 len:∀vs H Q E,sp vs H Q E->vs.length=ps.length
 run:∀(A:Around) (outer:List Env) (s:Shared) (H:Hp) (args:Args) (us:List Value) (vs:List V) (Q:VK) (E:XK),br k A->ni P w K mg base A outer s H->BindsTo s fd args (ps.zip us)->Vals vs us->sp vs H Q E ->
  codeAny (model P w) A (.call (.ref f) args) (CR CX outer P w H s Q E) s
theorem bF.mono{P:Program}{w:World}{K:PySem.W.Frag}{a:Str->Option Value}{base:Heap}{CX:oR}{j k:Nat}{f:Addr}{b:FuncData}{ps:List Str}{sp:Sp}(F:bF P w K a base CX j f b ps sp)(h:j<=k) :
  bF P w K a base CX k f b ps sp:=⟨F.len,λA outer s H args c d Q E e=>F.run A outer s H args c d Q E (e.mono h)⟩
theorem bF.imp{P:Program}{w:World}{K:PySem.W.Frag}{b:Str->Option Value}{base:Heap}{CX:oR}{k:Nat}{f:Addr}{c:FuncData}{ps:List Str}{sp a:Sp}(F:bF P w K b base CX k f c ps sp)
  (h:∀vs H Q E,a vs H Q E->sp vs H Q E):bF P w K b base CX k f c ps a:=
 ⟨λvs H Q E q=>F.len vs H Q E (h _ _ _ _ q),λA outer s H args d vs Q E e g i j l=>F.run A outer s H args d vs Q E e g i j (h _ _ _ _ l)⟩
theorem ni.make{P:Program}{w:World}{K:PySem.W.Frag}{a:Str->Option Value}{base:Heap}{A:Around}{outer:List Env}{s:Shared}{H:Hp}(e:ni P w K a base A outer s H)(C:Addr)(us:List Value)(kw:List (Str×Value)) :
  ni P w K a base (A.under (.builtin "type.__call__" ⟨.ref C::us,kw⟩)) outer s H:=⟨by first|exact e.frames | (simpa[Around.under,Code.envs,Code.isFrame,pushEnvs]using e.frames),e.mod,e.bs,e.qJ,e.fi,e.so,e.hok,e.bare⟩
section
variable{X:Cx}{pins:List (Addr×Obj)}{σ:St}{H:Hp}{s s':Shared}
theorem Inv.env0(I:Inv X pins σ H s):ni X.prog X.w X.K X.mg X.base X.A X.stack s H:=
 ⟨I.ok.frames,I.ok.mod,I.bs,Nat.le_trans I.ok.qJ I.sz,I.stack,I.jS,I.hok,I.bare⟩
theorem Inv.after{Q:VK}{u:Value}(I:Inv X pins σ H s)(h:CE X.stack X.prog X.w H s Q u s'):EP X pins σ Q u s':=by
 obtain⟨v,e,f,bare,i,a,r,q⟩:=h;obtain⟨j,g,d,t,c⟩:=s';obtain rfl:c=s.os:=f;exact⟨v,e,I.call (h':=j) (g':=g) (d':=d) (t':=t) (ch:=[]) i a bare (λb z=>absurd z (by simp)),r,q⟩
end
noncomputable def Cy(sp:Sp)(iz:List V)(E:XK)(t:TA):TE:=λa H Q=>t a H λb c=>sp (b++iz) c Q E
noncomputable def Cz(C:Addr)(m:Str)(sp:Sp)(iz:List V)(E:XK)(e:TE)(t:TA):TE:=λb H Q=>e b H λx c=>∃a f d,x=.ref a/\c a=some (.ins C f d)/\d.lookup m=none /\
 t b c λg h=>sp (x::(g++iz)) h Q E
def CA(C:Addr)(sp:Sp)(iz:List V)(E:XK)(t:TA):TE:=λc H Q=>t c H λd b=>∀x a,b x=none->b a=none->a≠x ->
 sp (.ref x::(d++iz)) (upd (upd b a (.own x)) x (.ins C a [])) (λv e=>v=.non/\Q (.ref x) e) E
def Binds(K:PySem.W.Frag)(b:FuncData)(ps:List Str)(ds:List Value):Prop:=
 ∀(s:Shared) (a:List Value),K.In s.heap->(a++ds).length=ps.length->BindsTo s b ⟨a,[]⟩ (ps.zip (a++ds))
theorem Binds.all{K:PySem.W.Frag}{a:FuncData}{ps:List Str}(h:∀us:List Value,us.length=ps.length->bindArgs a ⟨us,[]⟩=pure (ps.zip us)):Binds K a ps []:=λs us _ b=>by
 rw[List.append_nil]at b ⊢;exact .of_eq (h us b)
def Passes(CX:oR)(X:Cx)(E:XK):Prop:=∀(pins:List (Addr×Obj)) (b:St) (H:Hp) (s:Shared) (e:Value) (a:Shared),Inv X pins b H s->CX X.stack H s E e a->X.xe e a
section
variable{X:Cx}{CX:oR}{k:Nat}{f C:Addr}{fd:FuncData}{ps:List Str}{sp:Sp}{iz:List V}{ds:List Value}{E:XK}{x m:Str}{p pos apos:Pos}{e o:Expr}{es:List Expr}{ta:TE}{t:TA}
theorem nj{pins:List (Addr×Obj)}{b:St}{H:Hp}{s:Shared}{Q:VK}{us:List Value}{vs:List V}(F:bF X.prog X.w X.K X.mg X.base CX k f fd ps sp)(d:br k X.A)(g:Binds X.K fd ps ds)(i:Vals iz ds)(j:Passes CX X E)
  (I:Inv X pins b H s) (r:Vals vs us) (h:sp (vs++iz) H Q E):wpAny (model X.prog X.w) X.A (call (.ref f) us) (EP X pins b Q) X.xe s:=by
 have c:Vals (vs++iz) (us++ds):=r.append i;have l:(us++ds).length=ps.length:=by rw[←c.length];exact F.len _ _ _ _ h
 refine wpAny_call (codeAny_mono (F.run X.A X.stack s H ⟨us,[]⟩ (us++ds) (vs++iz) Q E d I.env0 (g s us I.eg l) c h) λr m a=>?_)
 cases r with
 |error e=>exact j pins b H s e m I a
 |ok fl=>
  cases fl with
  |ret u=>exact I.after a
  |next=>exact False.elim a
  |brk=>exact False.elim a
  |cont=>exact False.elim a
theorem nq(F:bF X.prog X.w X.K X.mg X.base CX k f fd ps sp)(c:br k X.A)(d:Gl X x)(g:X.mg x=some (.ref f))(i:PySem.W.keepIn X.K (.ref f)=true)(j:Binds X.K fd ps ds)(l:Vals iz ds)(m:Passes CX X E)
  (n:PA X (e::es) t) (a:(x==("__debug__":Str))=false:=by decide) (o:starEach (e::es) X.env=(false,eval e X.env)::starEach es X.env:=by rfl) (b:(backTo pos (starEach es X.env)).any (·.1)=false:=by rfl) :
  PE X (.Call (.Name x p) (e::es) [] pos) (Cy sp iz E t):=by
 intro pins s u H Q I h;refine wpAny_Call_Name_kw (eh I d g ?_ a);refine PySem.W.callWith_K (h₀:=X.base) I.ok.mod.zC i (bM (n pos pins s u H _ I h) λy z ⟨B,H1,I1,r,q⟩=>⟨I1.eg,?_⟩) o b
 exact nj F c j l m I1 r q
theorem wt(F:bF X.prog X.w X.K X.mg X.base CX k f fd ps sp)(b:br k X.A)(c:Gl X x)(d:X.mg x=some (.ref f))(e:PySem.W.keepIn X.K (.ref f)=true)(g:Binds X.K fd ps ds)(i:Vals iz ds)(j:Passes CX X E)
  (a:(x==("__debug__":Str))=false:=by decide):PE X (.Call (.Name x p) [] [] pos) (Cy sp iz E zM):=by
 intro pins s l H Q I h;refine wpAny_Call_Name_kw (eh I c d ?_ a);exact PySem.W.callWith_K0 I.eg e (nj (us:=[]) F b g i j I .nil h)
theorem zN{pl:Sem Bool}(n:PE X o ta)(c:lW X.K C)(g:Meth X.K C m f)(F:bF X.prog X.w X.K X.mg X.base CX k f fd ps sp)(p:br k X.A)(y:Binds X.K fd ps ds)(z:Vals iz ds)(B:Passes CX X E)(D:PA X (e::es) t)
  (b:starEach (e::es) X.env=(false,eval e X.env)::starEach es X.env:=by rfl) (d:(backTo pos (starEach es X.env)).any (·.1)=false:=by rfl)
  (G:eval (.Call (.Attribute o m apos) (e::es) [] pos) X.env=(do
   let i ←eval o X.env
   standAt apos.atName
   let (f,first) ←holding [i] (getMethod i m pl)
   callWith pos f first (backTo pos (starEach (e::es) X.env)) (backToKw pos (keywordEach [] X.env))):=by rfl) :
  PE X (.Call (.Attribute o m apos) (e::es) [] pos) (Cz C m sp iz E ta t):=by
 intro pins s j H Q I h;refine PySem.W.methodCall_KW (pl:=pl) (bM (n pins s j H _ I h) λu J ⟨x,H1,I1,rx,a,dx,fs,ex,ea,l,q⟩=>?_) G
 subst ex;obtain rfl:u=Value.ref a:=rx;refine ib I1 ea c g l ?_;refine PySem.W.callWith_K (first:=[.ref a]) (h₀:=X.base) I.ok.mod.zC g.kp (bM (D pos pins J j H1 _ I1 q) λus L ⟨vs,H2,I2,r,q2⟩=>⟨I2.eg,?_⟩) b d
 exact nj (us:=.ref a::us) (vs:=.ref a::vs) F p y z B I2 (.cons rfl r) q2
theorem wu{pl:Sem Bool}(e:PE X o ta)(c:lW X.K C)(b:Meth X.K C m f)(F:bF X.prog X.w X.K X.mg X.base CX k f fd ps sp)(g:br k X.A)(i:Binds X.K fd ps ds)(j:Vals iz ds)(n:Passes CX X E)
  (p:eval (.Call (.Attribute o m apos) [] [] pos) X.env=(do
   let d ←eval o X.env
   standAt apos.atName
   let (f,first) ←holding [d] (getMethod d m pl)
   callWith pos f first (backTo pos (starEach [] X.env)) (backToKw pos (keywordEach [] X.env))):=by rfl) :
  PE X (.Call (.Attribute o m apos) [] [] pos) (Cz C m sp iz E ta zM):=by
 intro pins s r H Q I h;refine PySem.W.methodCall_KW (pl:=pl) (bM (e pins s r H _ I h) λu t ⟨x,H1,I1,rx,a,dx,fs,ex,ea,l,q⟩=>?_) p
 subst ex;obtain rfl:u=Value.ref a:=rx;refine ib I1 ea c b l ?_;exact PySem.W.callWith_K0 (first:=[.ref a]) I1.eg b.kp (nj (us:=[.ref a]) (vs:=[.ref a]) F g i j n I1 (.cons rfl .nil) q)
structure Mk(K:PySem.W.Frag)(C f:Addr):Prop where
 makes:PySem.W.makesIn K C=true
 init:PySem.W.findIn K (.ref C) "__init__"=some (some (.ref f))
 fn:PySem.W.isFn K (.ref f)=true
 kp:PySem.W.keepIn K (.ref C)=true
theorem oS{pins:List (Addr×Obj)}{d:St}{H:Hp}{s:Shared}{Q:VK}{us:List Value}{vs:List V}(M:Mk X.K C f)(F:bF X.prog X.w X.K X.mg X.base CX k f fd ps sp)(j:br (k+1) X.A)(l:Binds X.K fd ps ds)(m:Vals iz ds)
  (n:Passes CX X E) (I:Inv X pins d H s) (r:Vals vs us)
  (h:∀x b,H x=none->H b=none->b≠x->sp (.ref x::(vs++iz)) (upd (upd H b (.own x)) x (.ins C b [])) (λv o=>v=.non/\Q (.ref x) o) E) :
  wpAny (model X.prog X.w) X.A (call (.ref C) us) (EP X pins d Q) X.xe s:=by
 have g:=h (s.heap.objs.size+1) s.heap.objs.size (I.hok.fresh (Nat.le_succ _)) (I.hok.fresh (Nat.le_refl _)) (Nat.ne_of_lt (Nat.lt_succ_self _));have c:=Inv.made (C:=C) I;have i:Vals (V.ref (s.heap.objs.size+1)::(vs++iz)) (Value.ref (s.heap.objs.size+1)::(us++ds)):=.cons rfl (r.append m)
 have p:(Value.ref (s.heap.objs.size+1)::us++ds).length=ps.length:=by
  have e:=i.length;rw[F.len _ _ _ _ g]at e;exact e.symm
 refine wpAny_call (wq (f:=f) I.eg M.makes M.init (beq_iff_eq.mp M.fn) (codeAny_mono (F.run _ X.stack _ _ ⟨Value.ref (s.heap.objs.size+1)::us,[]⟩ (Value.ref (s.heap.objs.size+1)::(us++ds)) _ _ E (j.make C us [])
  (c.env0.make C us []) (l _ (Value.ref (s.heap.objs.size+1)::us) c.eg p) i g) λr q a=>?_))
 cases r with
 |error e=>exact n pins d _ _ e q c a
 |ok fl=>
  cases fl with
  |ret u=>
   obtain⟨v,t,y,z,B,D⟩:=c.after a;subst B;exact⟨z,⟨V.ref (s.heap.objs.size+1),t,y,rfl,D⟩⟩
  |next=>exact False.elim a
  |brk=>exact False.elim a
  |cont=>exact False.elim a
theorem zO(M:Mk X.K C f)(F:bF X.prog X.w X.K X.mg X.base CX k f fd ps sp)(c:br (k+1) X.A)(d:Gl X x)(g:X.mg x=some (.ref C))(i:Binds X.K fd ps ds)(j:Vals iz ds)(l:Passes CX X E)
  (m:PA X (e::es) t) (a:(x==("__debug__":Str))=false:=by decide) (n:starEach (e::es) X.env=(false,eval e X.env)::starEach es X.env:=by rfl) (b:(backTo pos (starEach es X.env)).any (·.1)=false:=by rfl) :
  PE X (.Call (.Name x p) (e::es) [] pos) (CA C sp iz E t):=by
 intro pins s o H Q I h;refine wpAny_Call_Name_kw (eh I d g ?_ a);refine PySem.W.callWith_K (h₀:=X.base) I.ok.mod.zC M.kp (bM (m pos pins s o H _ I h) λu y ⟨z,H1,I1,r,q⟩=>⟨I1.eg,?_⟩) n b
 exact oS M F c i j l I1 r q
theorem wx(M:Mk X.K C f)(F:bF X.prog X.w X.K X.mg X.base CX k f fd ps sp)(b:br (k+1) X.A)(c:Gl X x)(d:X.mg x=some (.ref C))(e:Binds X.K fd ps ds)(g:Vals iz ds)(i:Passes CX X E)
  (a:(x==("__debug__":Str))=false:=by decide):PE X (.Call (.Name x p) [] [] pos) (CA C sp iz E zM):=by
 intro pins s j H Q I h;refine wpAny_Call_Name_kw (eh I c d ?_ a);exact PySem.W.callWith_K0 I.eg M.kp (oS (us:=[]) M F b e g i I .nil h)
end
section
variable{X:Cx}{CX:oR}{k:Nat}{f C:Addr}{fd:FuncData}{ps ks:List Str}{sp:Sp}{E:XK}{x m:Str}{p pos apos QE:Pos}{e o:Expr}{es:List Expr}{kws:List Keyword}{te ta:TE}{t tk:TA}{nm:Option Str}
variable{g:List Value->List Value->List Value}{gV:List V->List V->List V}
end
structure eR(N P:List Str)(sc:Scope):Prop where
 kind:sc.kind=.function
 co:sc.isCoroutine=false
 gen:sc.isGenerator=false
 nd:N.Nodup
 pre:N.take P.length=P
 par:∀x∈P,sc.names.lookup x=some .local\/sc.names.lookup x=some .cell
 DM:∀y∈sc.names,y.2≠.free
theorem lX{kindOf:Str->Option NameKind}{x:Str}:∀{binds:List (Str×Value)}{m:Str->Option Value},(∀v,(x,v)∉binds)->bindL kindOf binds m x=m x
 |[],_,_=>rfl
 | (n,v)::r,m,h=>by
  unfold bindL;rw[lX λw a=>h w (List.mem_cons_of_mem _ a)]
  split
  .have:x≠n:=by rintro rfl;exact h v List.mem_cons_self
   simp[this]
  .rfl
theorem lY{kindOf:Str->Option NameKind}{x:Str}:∀{binds:List (Str×Value)}{m:Str->Option Value},(∀v,(x,v)∉binds)->bindC kindOf binds m x=m x
 |[],_,_=>rfl
 | (n,v)::r,m,h=>by
  unfold bindC;rw[lY λw a=>h w (List.mem_cons_of_mem _ a)]
  split
  .rfl
  .have:x≠n:=by rintro rfl;exact h v List.mem_cons_self
   simp[this]
theorem lZ{kindOf:Str->Option NameKind}{x:Str}{v:Value}:∀{P:List Str}{vs:List Value}{i:Nat}{m:Str->Option Value},P.Nodup->P[i]?=some x->vs[i]?=some v->kindOf x=some .local ->
  bindL kindOf (P.zip vs) m x=some v
 |[],_,_,_,_,h,_,_=>by simp at h
 |_::_,[],_,_,_,_,h,_=>by simp at h
 |p::P,w::vs,0,m,a,h1,h2,hk=>by
  simp at h1 h2;subst h1;subst h2
  show bindL kindOf ((p,w)::P.zip vs) m p=_
  unfold bindL;rw[lX λv b=>(List.nodup_cons.mp a).1 (List.of_mem_zip b).1,if_pos hk]
  simp
 |p::P,w::vs,i+1,m,a,h1,h2,hk=>by
  show bindL kindOf ((p,w)::P.zip vs) m x=_
  unfold bindL;exact lZ (i:=i) (List.nodup_cons.mp a).2 (by simpa using h1) (by simpa using h2) hk
theorem l_{kindOf:Str->Option NameKind}{x:Str}{v:Value}:∀{P:List Str}{vs:List Value}{i:Nat}{m:Str->Option Value},P.Nodup->P[i]?=some x->vs[i]?=some v->kindOf x≠some .local ->
  bindC kindOf (P.zip vs) m x=some v
 |[],_,_,_,_,h,_,_=>by simp at h
 |_::_,[],_,_,_,_,h,_=>by simp at h
 |p::P,w::vs,0,m,a,h1,h2,hk=>by
  simp at h1 h2;subst h1;subst h2
  show bindC kindOf ((p,w)::P.zip vs) m p=_
  unfold bindC;rw[lY λv b=>(List.nodup_cons.mp a).1 (List.of_mem_zip b).1,if_neg hk]
  simp
 |p::P,w::vs,i+1,m,a,h1,h2,hk=>by
  show bindC kindOf ((p,w)::P.zip vs) m x=_
  unfold bindC;exact l_ (i:=i) (List.nodup_cons.mp a).2 (by simpa using h1) (by simpa using h2) hk
noncomputable def start(N:List Str)(vs:List V):St:=vs.map some++List.replicate (N.length - vs.length) none
noncomputable def cx(CX:oR)(P:Program)(w:World)(K:PySem.W.Frag)(mg:Str->Option Value)(base:Heap)(N:List Str)(qual:Str)(scope:Scope)(f:Addr)(b:Value)(A:Around)(outer:List Env)(s:Shared)(H:Hp)(E:XK):Cx where
 prog:=P
 w:=w
 K:=K
 mg:=mg
 base:=base
 A:=A.deeper (envOfC qual scope s.heap.objs.size f b)
 N:=N
 s₀:=s
 H₀:=H
 env:=envOfC qual scope s.heap.objs.size f b
 outer:=outer
 stack:=envOfC qual scope s.heap.objs.size f b::outer
 ex:=[]
 calm:=true
 fn:=λ_=>true
 pn:=[]
 xe:=λe c=>wpAny (model P w) (A.deeper (envOfC qual scope s.heap.objs.size f b)) (leaving (envOfC qual scope s.heap.objs.size f b) e) (λ_ a=>CX outer H s E e a) (λd a=>CX outer H s E d a) c
theorem kj{a:Scope}{n:Nat}{x:Str}(h:a.names.lookup x=some .cell):∃c,(cellsFrom n a.names []).lookup x=some c:=by
 have q:=PySem.W.cellsFrom_some a.names n [] (.inl h);exact Option.isSome_iff_exists.mp q
theorem jk{CX:oR}{P:Program}{w:World}{K:PySem.W.Frag}{C:Str->Option Value}{base:Heap}{N ps:List Str}{qual:Str}{scope:Scope}{f:Addr}{o:Value}{A:Around}{outer:List Env}{s s1:Shared}{H:Hp}{E:XK}{us:List Value}{vs:List V}
  (S:eR N ps scope) (I:A.handled=none) (g:ni P w K C base A outer s H) (O:vs.length=ps.length) (r:Vals vs us)
  (x:InCallC s s.heap.objs.size (bindL (envOfC qual scope s.heap.objs.size f o).kindOf (ps.zip us) λ_=>none) (cellsFrom (s.heap.objs.size+1) scope.names []) (bindC (envOfC qual scope s.heap.objs.size f o).kindOf (ps.zip us) λ_=>none) s1) :
  Inv (cx CX P w K C base N qual scope f o A outer s H E) [] (start N vs) H s1:=by
 have J:ps.length<=N.length:=by have:=congrArg List.length S.pre;rw[List.length_take]at this;omega
 obtain⟨t,Q,rfl,D⟩:=x.done;have j:∀b:Addr,b∉(cx CX P w K C base N qual scope f o A outer s H E).ex:=λb z=>absurd (show b∈([]:List Addr)from z) (by simp)
 refine⟨⟨g.mod,S.kind,rfl,rfl,Nat.le_refl _,λy z c t d=>?_,λy hy=>?_,λy c _ h=>?_,λ_=>I,Around.frames_deeper g.frames,.inr ⟨rfl,rfl⟩,λb z=>absurd z (j b),g.bs,g.qJ,λb _ _=>j b,λb z=>absurd z (j b),g.fi,g.so⟩,
  rfl,g.bare,Un.kept D,⟨_,x.toInCall.ns,λi y v t d R=>?_⟩,λy c h=>⟨_,x.cell y c h⟩,g.hok.fresh (Nat.le_refl _),λy c h=>?_,λp l=>absurd (show p∈([]:List (Addr×Obj))from l) (by simp),g.hok.kept D,?_⟩
 .exact name_of_addr x.apart (PySem.mem_of_lookup t) (PySem.mem_of_lookup d)
 .have hy:scope.names.lookup y=some .cell\/scope.names.lookup y=some .free:=hy
  rcases hy with hy|hy
  .exact kj hy
  .exact absurd rfl (S.DM _ (PySem.mem_of_lookup hy))
 .exact Nat.le_of_lt (x.above y c (PySem.mem_of_lookup h))
 .have B:i<vs.length:=by
   unfold start at d
   by_cases B:i<vs.length
   .exact B
   .rw[List.getElem?_append_right (by simpa using B)]at d
    rw[List.getElem?_replicate]at d;split at d<;>cases d
  have L:vs[i]?=some v:=by
   unfold start at d;rw[List.getElem?_append_left (by simpa using B),List.getElem?_map]at d
   cases e:vs[i]? with
   |none=>rw[e]at d;cases d
   |some a=>rw[e]at d;cases d;rfl
  obtain⟨u,F,M⟩:=r.get L
  have l:ps[i]?=some y:=by
   rw[←S.pre,List.getElem?_take_of_lt (by omega)];exact t
  have m:ps.Nodup:=by rw[←S.pre];exact S.nd.sublist (List.take_sublist _ _)
  refine⟨u,M,?_⟩;rcases S.par y (List.mem_of_getElem? l)with k|k
  .exact .inl ⟨k,lZ m l F k⟩
  .obtain⟨c,e⟩:=kj (n:=s.heap.objs.size+1) k
   refine .inr ⟨.inl k,c,e,?_⟩;have q:=x.cell y c e;rw[l_ m l F (by show scope.names.lookup y≠_;rw[k];decide)]at q
   exact q
 .have G:=g.hok.fresh (Nat.le_of_lt (x.above y c (PySem.mem_of_lookup h)))
  exact⟨.inl G,λ_=>G⟩
 .unfold start
  show _=N.length
  rw[List.length_append,List.length_map,List.length_replicate];omega
theorem wy{CX:oR}{P:Program}{w:World}{K:PySem.W.Frag}{B:Str->Option Value}{base:Heap}{k:Nat}{f:Addr}{name qual:Str}{params:Arguments}{body:List Stmt}{scope:Scope}{O kV j R a ct oc:Value}{T od:Option Addr}
  {C:Array (Option Value)}{N ps:List Str}{sp:Sp} (Y:K.lookup f=some ⟨oc,od,.func (PySem.W.fnOf name qual params body scope O kV j R T a ct),C⟩) (D:PySem.W.codeIn K a qual=true) (S:eR N ps scope)
  (l:∀vs H Q E,sp vs H Q E->vs.length=ps.length)
  (g:∀(A:Around) (outer:List Env) (s:Shared) (H:Hp) (vs:List V) (Q:VK) (E:XK),br k (A.deeper (envOfC qual scope s.heap.objs.size f a))->sp vs H Q E ->
   ∃t,iv (cx CX P w K B base N qual scope f a A outer s H E) body t/\t {nx:=λ_ d=>Q .non d,rt:=Q} (start N vs) H) :
  bF P w K B base CX (k+1) f (PySem.W.fnOf name qual params body scope O kV j R T a ct) ps sp:=by
 refine⟨l,λA outer s H args Z vs Q E F m hb r p=>?_⟩
 have hl:=l _ _ _ _ p;have U:K.In s.heap:=m.mod.zC.keeps λb o e=>(m.bs b o e).1
 have G:s.heap.NoLimit:=m.mod.nolimit.keeps λb o e=>(m.bs b o e).1
 have h:∀y∈ps.zip Z,scope.names.lookup y.1=some .local\/(scope.names.lookup y.1=some .cell/\((cellsFrom (s.heap.objs.size+1) scope.names []).lookup y.1).isSome=true):=λ⟨n,v⟩ hy=>by
  rcases S.par n (List.of_mem_zip hy).1 with q|q
  .exact .inl q
  .exact .inr ⟨q,PySem.W.cellsFrom_some _ _ _ (.inl q)⟩
 refine codeAny_call_function F.depth (U _ _ Y) rfl S.co S.gen rfl (PySem.W.codeRec_of U D) (hb _ _ _ _ ?_);refine wpAny_newFunctionEnv_cells S.kind h λa0 he X x=>?_
 subst he;refine⟨G.keeps x.toInCall.keep,codeAny_func ?_⟩;obtain⟨t,ht,hq⟩:=g A outer s H vs Q E (F.deeper _) p;have I:Inv (cx CX P w K B base N qual scope f a A outer s H E) [] (start N vs) H X:=jk S F.hd m hl r x;refine wpAny_mono (ht [] X (start N vs) H _ I hq) (λfl L i=>?_) λe L i=>i
 have z:∀{c:St}{d:Hp}{v:V}{u:Value},Inv (cx CX P w K B base N qual scope f a A outer s H E) [] c d L->RelV v u->Q v d->CE outer P w H s Q u L:=
  λ{c d v u} J M q=>⟨v,d,J.os,J.bare,J.base,J.hok,M,q⟩
 cases fl with
 |ret u=>
  obtain⟨v,c,d,J,M,q⟩:=i;exact z J M q
 |next=>
  obtain⟨c,d,J,q⟩:=i;exact z (v:=V.non) (u:=Value.none) J rfl q
 |brk=>
  obtain⟨_,_,_,q⟩:=i;exact False.elim q
 |cont=>
  obtain⟨_,_,_,q⟩:=i;exact False.elim q
section
variable{X:Cx}{x:Str}{p pos:Pos}{e:Expr}{es:List Expr}{t:TA}{id T:String}{r:List V->Hp->VK->Prop}
noncomputable def Pa(r:List V->Hp->VK->Prop)(t:TA):TE:=λa H Q=>t a H λb c=>r b c Q
theorem iA(d:ed X (.builtin id) r)(f:Gl X x)(g:X.mg x=none)(i:bootBuiltins x=some (.builtin id))(j:PA X (e::es) t)(k:x≠"__name__":=by decide)(a:(x==("__debug__":Str))=false:=by decide)
  (l:starEach (e::es) X.env=(false,eval e X.env)::starEach es X.env:=by rfl) (b:(backTo pos (starEach es X.env)).any (·.1)=false:=by rfl):PE X (.Call (.Name x p) (e::es) [] pos) (Pa r t):=by
 intro pins s c H Q I h;refine wpAny_Call_Name_kw (gi I f g i ?_ k a);exact PyProof.Rows.callWith_builtin1 (bM (j pos pins s c H _ I h) λm n ⟨o,H1,I1,r1,q1⟩=>d pins n c H1 o m Q I1 r1 q1) l b
theorem uK(d:ed X (.type T) r)(f:Gl X x)(g:X.mg x=none)(i:bootBuiltins x=some (.type T))(j:PA X (e::es) t)(k:x≠"__name__":=by decide)(a:(x==("__debug__":Str))=false:=by decide)
  (l:starEach (e::es) X.env=(false,eval e X.env)::starEach es X.env:=by rfl) (b:(backTo pos (starEach es X.env)).any (·.1)=false:=by rfl):PE X (.Call (.Name x p) (e::es) [] pos) (Pa r t):=by
 intro pins s c H Q I h;refine wpAny_Call_Name_kw (gi I f g i ?_ k a);exact PyProof.Rows.callWith_type1 (bM (j pos pins s c H _ I h) λm n ⟨o,H1,I1,r1,q1⟩=>d pins n c H1 o m Q I1 r1 q1) l b
end
end L2
namespace HT
open PySem PyProof.Rows
section
open PySem.SeqAt
open PySem.AutoSeq1 (wpAny_loadPart')
open PySem.MeetsSeq PySem.MeetsSeq2 PySem.MeetsSeq3
end
section
variable{prog:Program}{w:World}{A:Around}{E:Value->Shared->Prop}{s:Shared}
noncomputable def jh(n d:Nat):Option Int->Nat
 |none=>d
 |some v=>if v<0 then (v+(n:Int)).toNat else min v.toNat n
theorem wz(n d:Nat):jh n d none=d:=rfl
theorem zP(n d k:Nat):jh n d (some (k:Int))=min k n:=by
 show(if (k:Int)<0 then ((k:Int)+(n:Int)).toNat else min (k:Int).toNat n)=min k n
 rw[if_neg (by omega),Int.toNat_natCast]
theorem qY(n d:Nat)(b:d<=n)(o:Option Int):jh n d o<=n:=by
 cases o with
 |none=>exact b
 |some v=>
  show(if v<0 then (v+(n:Int)).toNat else min v.toNat n)<=n
  by_cases a:v<0
  .rw[if_pos a];omega
  .rw[if_neg a];exact Nat.min_le_right _ _
end
end HT
namespace L2
open PySem PySem.Spec PyProof.Rows
abbrev TO:=St->Hp->(Option Int->Hp->Prop)->Prop
def PO(X:Cx)(e:Option Expr)(t:TO):Prop:=
 ∀(pins:List (Addr×Obj)) (s:Shared) (a:St) (H:Hp) (Q:Option Int->Hp->Prop),Inv X pins a H s->t a H Q ->
  wpAny (model X.prog X.w) X.A (evalPart e X.env) (λu c=>∃o b,Inv X pins a b c/\IsPart u o/\Q o b) X.xe s
noncomputable def sE:TO:=λ_ H Q=>Q none H
noncomputable def Gy(t:TE):TO:=λa H Q=>t a H λx b=>∃i,x=.int i/\Q (some i) b
theorem intsAre_of{ns:List Int}:∀{us:List Value},Vals (ns.map V.int) us->IntsAre us ns:=by
 induction ns with
 |nil=>intro us r;rw[List.map_nil]at r;cases r;exact .nil
 |cons n ns a=>
  intro us r;rw[List.map_cons]at r;cases r with
  |cons b c=>
   obtain⟨t,e⟩:=b;subst e;exact .cons n t (a c)
section
variable{X:Cx}{e:Expr}{te:TE}{lo hi:Option Expr}{tl th:TO}{pos p2:Pos}
theorem zQ:PO X none sE:=by
 intro pins s a H Q I h;rw[evalPart_none];exact wpAny_pure ⟨none,H,I,.none,h⟩
theorem zR(h:PE X e te):PO X (some e) (Gy te):=by
 intro pins s a H Q I b;rw[evalPart_some];refine bM (h pins s a H _ I b) λu c ⟨x,H1,I1,r1,q1⟩=>?_
 obtain⟨i,rfl,q⟩:=q1;obtain⟨t,rfl⟩:=r1;exact⟨some i,H1,I1,.int i t,q⟩
def DN(X:Cx)(r:V->Option Int->Option Int->Hp->VK->Prop):Prop:=
 ∀(pins:List (Addr×Obj)) (s:Shared) (a:St) (H:Hp) (x:V) (v b c:Value) (d e:Option Int) (f:Addr) (Q:VK),Inv X pins a H s->RelV x v->s.heap.IsSliceOf f b c .none->IsPart b d->IsPart c e->r x d e H Q ->
  ∃T id,typeLookup (.type T) "__getitem__"=pure (some (.builtin id))/\s.TypeIs v T/\wpAny (model X.prog X.w) X.A (getItem v (.ref f)) (EP X pins a Q) X.xe s
theorem DN.or{r c:V->Option Int->Option Int->Hp->VK->Prop}(h:DN X r)(h':DN X c):DN X (λx a b H Q=>r x a b H Q\/c x a b H Q):=by
 intro pins s d H x v e f a b g Q I i j k l q;rcases q with q|q
 .exact h pins s d H x v e f a b g Q I i j k l q
 .exact h' pins s d H x v e f a b g Q I i j k l q
noncomputable def QF(r:V->Option Int->Option Int->Hp->VK->Prop)(te:TE)(b c:TO):TE:=λa H Q=>te a H λx d=>b a d λl e=>c a e λu f=>r x l u f Q
theorem gm{r:V->Option Int->Option Int->Hp->VK->Prop}(g:DN X r)(i:PE X e te)(j:PO X lo tl)(k:PO X hi th):PE X (.Subscript e (.Slice lo hi none p2) pos) (QF r te tl th):=by
 intro pins s a H Q I h;refine Subscript_ (bM (i pins s a H _ I h) λv m ⟨x,H1,I1,n,q1⟩=>?_)
 refine wpAny_Slice (bM (j pins m a H1 _ I1 q1) λc o ⟨l,H2,I2,p,q2⟩=>bM (k pins o a H2 _ I2 q2) λd s3 ⟨u,f,t,y,z⟩=>?_)
 rw[evalPart_none];refine wpAny_pure ?_;have B:Inv X pins a f {s3 with heap:=s3.heap.push {cls:=.type "slice",data:=.fields #[c,d,.none]} }:=t.kept (t':=s3.toks) λb F q=>Heap.get?_push_of_some _ q
 obtain⟨T,id,C,D,E⟩:=g pins {s3 with heap:=s3.heap.push {cls:=.type "slice",data:=.fields #[c,d,.none]} } a f x v c d l u s3.heap.objs.size Q B n (Heap.IsSliceOf.new ..) p y z
 show wpAny (model X.prog X.w) X.A (subscriptTail e (.Slice lo hi none p2) v (.ref s3.heap.objs.size)) (EP X pins a Q) X.xe {s3 with heap:=s3.heap.push {cls:=.type "slice",data:=.fields #[c,d,.none]} }
 exact tail_any (ops:=[.ref s3.heap.objs.size,v]) D C E (by with_unfolding_all rfl)
def uL(xs:List V)(a b:Option Int):List V:=(xs.drop (HT.jh xs.length 0 a)).take (HT.jh xs.length xs.length b - HT.jh xs.length 0 a)
theorem oU(xs:List V)(a b:Option Int):(uL xs a b).length<=xs.length:=by
 unfold uL;rw[List.length_take,List.length_drop];omega
end
noncomputable def wA(n:Nat)(i:Int):Option Nat:=if 0<=i then (if i<n then some i.toNat else none)else if -(n:Int)<=i then some (i+n).toNat else none
def gN{a:Type}(xs:List a)(i:Int):Option a:=(wA xs.length i).bind λj=>xs[j]?
theorem sF{n:Nat}{i:Int}{j:Nat}(h:wA n i=some j):seqIndex? i n=some j/\j<n /\ -(n:Int)<=i/\i<n:=by
 unfold wA at h
 by_cases b:0<=i
 .rw[if_pos b]at h
  by_cases a:i<n
  .rw[if_pos a]at h
   have e:i.toNat=j:=Option.some.inj h;exact⟨by rw[seqIndex_of b a,e],by omega,by omega,a⟩
  .rw[if_neg a]at h;cases h
 .rw[if_neg b]at h
  by_cases a : -(n:Int)<=i
  .rw[if_pos a]at h
   have e:(i+n).toNat=j:=Option.some.inj h;exact⟨by rw[seqIndex_neg (by omega) a,e],by omega,a,by omega⟩
  .rw[if_neg a]at h;cases h
theorem nr{a:Type}{xs:List a}{i:Int}{v:a}(h:gN xs i=some v):∃j,seqIndex? i xs.length=some j/\xs[j]?=some v/\j<xs.length /\ -(xs.length:Int)<=i/\i<xs.length:=by
 unfold gN at h;cases e:wA xs.length i with
 |none=>rw[e]at h;cases h
 |some j=>
  rw[e]at h;obtain⟨b,c,d,f⟩:=sF e;exact⟨j,b,h,c,d,f⟩
theorem gO{a:Type}{xs:List a}{j:Nat}{v:a}(h:xs[j]?=some v):gN xs (j:Int)=some v:=by
 have b:j<xs.length:=(List.getElem?_eq_some_iff.mp h).1
 have e:wA xs.length (j:Int)=some j:=by
  unfold wA;rw[if_pos (by omega),if_pos (by omega)];simp
 unfold gN;rw[e];exact h
def sG(b:Expr):Prop:=∀o i,subscripted b false o i=operate [o,i] (getItem o i)
def zS(X:Cx)(r:R2):Prop:=
 ∀(b a:Expr) (pins:List (Addr×Obj)) (s:Shared) (c:St) (H:Hp) (x y:V) (v u:Value) (Q:VK),Inv X pins c H s->RelV x v->RelV y u->r x y H Q ->
  subscripted a false v u=operate [v,u] (getItem v u)->wpAny (model X.prog X.w) X.A (subscriptTail b a v u) (EP X pins c Q) X.xe s
def DO(X:Cx)(id:String)(r:V->List V->Hp->VK->Prop):Prop:=
 ∀(pins:List (Addr×Obj)) (s:Shared) (a:St) (H:Hp) (x:V) (b:List V) (v:Value) (c:List Value) (Q:VK),Inv X pins a H s->RelV x v->Vals b c->r x b H Q ->
  wpAny (model X.prog X.w) X.A (call (.builtin id) (v::c)) (EP X pins a Q) X.xe s
section
variable{X:Cx}{a b:Expr}{ta tb:TE}{pos:Pos}
theorem zS.or{r c:R2}(h:zS X r)(h':zS X c):zS X (λx y H Q=>r x y H Q\/c x y H Q):=by
 intro a b pins s d H x y v u Q I e f q g;rcases q with q|q
 .exact h a b pins s d H x y v u Q I e f q g
 .exact h' a b pins s d H x y v u Q I e f q g
theorem CB{r:R2}(c:zS X r)(d:PE X a ta)(e:PE X b tb)(f:sG b):PE X (.Subscript a b pos) (FK r ta tb):=by
 intro pins s g H Q I h;exact Subscript_ (DB d e I h λv u i x y j k l m q=>c a b pins i g j x y v u Q k l m q (f _ _))
def Gz(K:PySem.W.Frag):R2:=λx y H Q=>∃p a i v,x=.ref p/\y=.int i/\mU K H p a/\gN a i=some v/\Q v H
def GA(K:PySem.W.Frag):R2:=λx y H Q=>∃p a i v,x=.ref p/\y=.int i/\qM K H p a/\gN a i=some v/\Q v H
def GB:R2:=λx y H Q=>∃z i c,x=.str z/\y=.int i/\z.length<=sizeLine/\gN z.cps.toList i=some c/\Q (.str ⟨#[c]⟩) H
theorem zT:zS X (Gz X.K):=by
 intro c d pins s l H x y v u Q I A B h m;obtain⟨p,M,i,z,rfl,rfl,C,D,q⟩:=h;cases A;obtain⟨t,rfl⟩:=B;obtain⟨e,r,f,N⟩:=I.list C;obtain⟨j,b,E,O,F,G⟩:=nr D;obtain⟨w,n,g⟩:=r.get E;have J:=r.length;have P:=gk;have a:EP X pins l Q w s:=⟨z,H,I,g,q⟩
 by_cases o:0<=i
 .have k:i.toNat=j:=by
   rw[seqIndex_of o G]at b;exact Option.some.inj b
  exact item_listR f.isList o (by omega) (by rw[k];simpa using n) a m
 .have k:(i+(e.toArray.size:Int)).toNat=j:=by
   rw[seqIndex_neg (by omega) F]at b
   rw[List.size_toArray,←J];exact Option.some.inj b
  exact subscriptTail_builtinR (x:=w) f.isList.typeIs slot_list_getitem.lookup
   (wpAny_getItem_list_neg (Q:=λr L=>r=w/\EP X pins l Q r L) f.isList (by omega) (by rw[List.size_toArray]<;>omega) (by omega) (by rw[k];simpa using n) ⟨rfl,a⟩) m
theorem DP:zS X (GA X.K):=by
 intro a b pins s e H x y v u Q I g k h l;obtain⟨p,F,i,z,rfl,rfl,m,n,q⟩:=h;cases g;obtain⟨t,rfl⟩:=k;obtain⟨o,r,f,G⟩:=I.tuple m;obtain⟨j,A,B,J,L,M⟩:=nr n;obtain⟨w,C,c⟩:=r.get B;have D:=r.length;have N:=gk;have d:EP X pins e Q w s:=⟨z,H,I,c,q⟩
 exact subscriptTail_builtinR (x:=w) f.typeIs slot_tuple_getitem.lookup
  (getItem_tuple (j:=j) (Q:=λr E=>r=w/\EP X pins e Q r E) f (by omega) (by omega) (by rw[List.size_toArray,←D];exact A) (by simpa using C) ⟨rfl,d⟩) l
theorem DQ:zS X GB:=by
 intro a b pins s w H x y v u Q I e f h g;obtain⟨z,i,c,rfl,rfl,A,k,q⟩:=h;obtain⟨t,rfl⟩:=e;obtain⟨B,rfl⟩:=f;obtain⟨j,d,l,C,m,n⟩:=nr k;have o:z.cps.toList.length=z.length:=by simp[Str.length]
 rw[o]at d m n;have D:=gk
 exact tail_any (typeIs_str s z t) slot_str_getitem.lookup (getItem_str (c:=c) (by
  have p:decide (i < -(2 ^ 63:Int))=false:=decide_eq_false (by omega)
  have r:decide (i≥2 ^ 63)=false:=decide_eq_false (by omega)
  rw[p,r,Bool.or_false]) (by rw[d];simpa using l) ⟨.str ⟨#[c]⟩,H,I.tok _,⟨_,rfl⟩,q⟩) g
def JH(K:PySem.W.Frag):R2:=λx y H Q=>Gz K x y H Q\/GA K x y H Q\/GB x y H Q
theorem wB:zS X (JH X.K):=zT.or (DP.or DQ)
theorem qZ(a:List Value)(n j:Nat)(u:Value):Obj.mapSeq (·.setIfInBounds j u) {cls:=.type "list",data:=.seq a.toArray n}={cls:=.type "list",data:=.seq (a.set j u).toArray n}:=by
 simp[Obj.mapSeq]
theorem Inv.lst{pins:List (Addr×Obj)}{b:St}{H:Hp}{s:Shared}{p:Addr}{xs:List V}(I:Inv X pins b H s)(h:H p=some (.lst xs)) :
  ∃(a:List Value) (n:Nat),Vals xs a/\s.heap.get? p=some {cls:=.type "list",data:=.seq a.toArray n}/\xs.length<=sizeLine:=by
 obtain⟨z,a,n,r,e⟩:=I.hok p _ h;exact⟨a,n,r,e,z⟩
theorem Inv.DR{pins:List (Addr×Obj)}{g:St}{H:Hp}{s:Shared}{p:Addr}{xs c:List V}{a its':List Value}{n d:Nat}{f:Obj->Obj}(I:Inv X pins g H s)(h:H p=some (.lst xs))
  (j:s.heap.get? p=some {cls:=.type "list",data:=.seq a.toArray n}) (i:f {cls:=.type "list",data:=.seq a.toArray n}={cls:=.type "list",data:=.seq its'.toArray d}) (r:Vals c its') (hz:c.length<=sizeLine) (t:Nat) :
  Inv X pins g (upd H p (.lst c)) {s with heap:=s.heap.update p f,toks:=t}:=by
 have e:(s.heap.update p f).get? p=some {cls:=.type "list",data:=.seq its'.toArray d}:=by
  rw[Heap.get?_update_self f j (by rw[i]<;>rfl),i]
 refine I.write (x:=p) (e:=p) (by rw[h];trivial) (.inl rfl) (λb u k q=>(Heap.get?_update_other _ _ (Ne.symm k)).trans q) ⟨_,e⟩ ?_
 exact⟨hz,its',d,r,e⟩
def GC:V->V->V->Hp->(Hp->Prop)->Prop:=λo i v H Q=>∃p a k j,o=.ref p/\i=.int k/\H p=some (.lst a)/\wA a.length k=some j/\Q (upd H p (.lst (a.set j v)))
theorem set_list:Lv X GC:=by
 intro pins s x H o i v E F u Q I y z A h;obtain⟨p,B,k,j,rfl,rfl,f,C,q⟩:=h;cases y;obtain⟨t,rfl⟩:=z;obtain⟨a,n,r,c,D⟩:=I.lst f;obtain⟨b,G,g,l⟩:=sF C;have d:=r.length;have J:=gk
 have m:Inv X pins x (upd H p (.lst (B.set j v))) {s with heap:=s.heap.update p (Obj.mapSeq (·.setIfInBounds j u))}:=
  I.DR f c (qZ a n j u) (r.set A j) (by rw[List.length_set];exact D) s.toks
 by_cases w:0<=k
 .have e:k.toNat=j:=by
   rw[seqIndex_of w l]at b;exact Option.some.inj b
  exact PySem.W.ki_setAt c w (by omega) (by rw[List.size_toArray,←d];exact l) (by rw[e];exact⟨_,m,q⟩)
 .have e:(k+(a.toArray.size:Int)).toNat=j:=by
   rw[seqIndex_neg (by omega) g]at b
   rw[List.size_toArray,←d];exact Option.some.inj b
  exact PySem.W.ki_setBack c (by omega) (by rw[List.size_toArray,←d];exact g) (by omega) (by rw[e];exact⟨_,m,q⟩)
theorem nu(a b:Option Int)(n:Nat):(sliceBounds a b none n).1=((HT.jh n 0 a:Nat):Int)/\(sliceBounds a b none n).2.1=((HT.jh n n b:Nat):Int)/\(sliceBounds a b none n).2.2=1:=by
 refine⟨?_,?_,rfl⟩
 .cases a with
  |none=>simp[sliceBounds,HT.jh]
  |some i=>
   simp only[sliceBounds,HT.jh,Option.getD_none,show(1:Int)>0 by decide,if_true]
   by_cases h:i<0
   .simp only[h,if_true]<;>omega
   .simp only[h,if_false]<;>omega
 .cases b with
  |none=>simp[sliceBounds,HT.jh]
  |some i=>
   simp only[sliceBounds,HT.jh,Option.getD_none,show(1:Int)>0 by decide,if_true]
   by_cases h:i<0
   .simp only[h,if_true]<;>omega
   .simp only[h,if_false]<;>omega
theorem lF(a:List Value)(b c:Option Int):slicePick a.toArray b c none=((a.drop (HT.jh a.length 0 b)).take (HT.jh a.length a.length c - HT.jh a.length 0 b)).toArray:=by
 obtain⟨d,e,f⟩:=nu b c a.toArray.size;unfold slicePick;rw[d,e,f];simp only[sliceRange_one,pick_run,List.size_toArray]<;>rfl
def GD(K:PySem.W.Frag):V->Option Int->Option Int->Hp->VK->Prop:=λx c d H Q=>∃a b,x=.ref a/\mU K H a b/\∀p,H p=none->Q (.ref p) (upd H p (.lst (uL b c d)))
theorem iC:DN X (GD X.K):=by
 intro pins s t H x v u w e f y Q I i j k l h;obtain⟨a,c,rfl,m,q⟩:=h;cases i;obtain⟨n,r,g,p⟩:=I.list m;have d:=r.length;refine⟨"list",_,slot_list_getitem.lookup,g.isList.typeIs,?_⟩;refine wpAny_getItem_list_slice g.isList j k l .none (by simp) ?_ (by rw[List.size_toArray]<;>omega)
 rw[lF,←d];refine⟨.ref s.heap.objs.size,_,I.laid (t':=s.toks) (o:=.lst (uL c e f)) (λb z q=>Heap.get?_push_of_some _ q) (Nat.le_refl _) ?_,rfl,q _ (I.hok.fresh (Nat.le_refl _))⟩
 exact⟨Nat.le_trans (oU c e f) p,_,0,(r.drop (HT.jh c.length 0 e)).take (HT.jh c.length c.length f - HT.jh c.length 0 e),Heap.get?_push_size _ rfl⟩
theorem ny:ed X (.builtin "len") (λxs H Q=>∃p b,xs=[.ref p]/\(mU X.K H p b\/qM X.K H p b)/\Q (.int b.length) H):=by
 intro pins s i H xs j Q I r h;obtain⟨p,b,rfl,hq,q⟩:=h;obtain⟨u,rfl,f⟩:=vals1 r;cases f;have k:=gk;rcases hq with hq|hq
 .obtain⟨c,d,e,g⟩:=I.list hq
  have a:=d.length;exact Calls.call_len_list e.isList (by simp only[List.size_toArray]<;>omega) ⟨.int b.length,H,I.tok _,⟨s.toks+1,by rw[List.size_toArray,a]⟩,q⟩
 .obtain⟨c,d,e,g⟩:=I.tuple hq
  have a:=d.length;exact len_tuple e (by simp only[List.size_toArray]<;>omega) ⟨.int b.length,H,I.tok _,⟨s.toks+1,by rw[List.size_toArray,a]⟩,q⟩
theorem nz:ed X (.builtin "len") (λxs H Q=>∃z,xs=[.str z]/\z.length<=sizeLine/\Q (.int z.length) H):=by
 intro pins s a H xs b Q I r h;obtain⟨z,rfl,c,q⟩:=h;obtain⟨u,rfl,t,rfl⟩:=vals1 r;have d:=gk;exact len_str (by omega) ⟨.int z.length,H,I.tok _,⟨_,rfl⟩,q⟩
theorem nE:ed X (.type "list") (λxs H Q=>∃p d,xs=[.ref p]/\(mU X.K H p d\/qM X.K H p d)/\∀l,H l=none->Q (.ref l) (upd H l (.lst d))):=by
 intro pins s B H xs D Q I r h;obtain⟨p,d,rfl,hq,q⟩:=h;obtain⟨u,rfl,C⟩:=vals1 r;cases C
 have i:∀(a:List Value),Vals d a->d.length<=sizeLine->∀(c:Heap) (f:Nat),(∀b A,s.heap.get? b=some A->c.get? b=some A) ->
   c.get? s.heap.objs.size=some {cls:=.type "list",dict:=none,data:=.seq a.toArray f,slots := #[]}->EP X pins B Q (.ref s.heap.objs.size) {s with heap:=c}:=λa g j c f k e=>
  ⟨.ref s.heap.objs.size,_,I.laid (t':=s.toks) k (Nat.le_refl _) (show bQ X.prog X.w _ c _ (.lst d)from⟨j,a,f,g,e⟩),rfl,q _ (I.hok.fresh (Nat.le_refl _))⟩
 rcases hq with hq|hq
 .obtain⟨a,g,t,j⟩:=I.list hq
  have m:=g.length;obtain⟨o,x,y,n,z⟩:=t.isList;exact call_list_seq p (.inl rfl) x y z (λc f k e=>i a g j c f k e) (by simp only[List.size_toArray]<;>omega)
 .obtain⟨a,g,t,j⟩:=I.tuple hq
  have m:=g.length;obtain⟨o,x,y,n,z⟩:=t;exact call_list_seq p (.inr rfl) x y z (λc f k e=>i a g j c f k e) (by simp only[List.size_toArray]<;>omega)
theorem lG:ed X (.type "tuple") (λxs H Q=>∃p c,xs=[.ref p]/\((mU X.K H p c/\∀l,H l=none->Q (.ref l) (upd H l (.tup c)))\/(qM X.K H p c/\Q (.ref p) H))):=by
 intro pins s j H xs z Q I r h;obtain⟨p,c,rfl,h⟩:=h;obtain⟨u,rfl,t⟩:=vals1 r;cases t;rcases h with ⟨f,q⟩|⟨f,q⟩
 .obtain⟨a,g,i,k⟩:=I.list f
  have m:=g.length;refine call_tuple_list i.isList (λd x=>?_) (by simp only[List.size_toArray]<;>omega)
  have n:Inv X pins j H {s with heap:=d}:=I.kept (t':=s.toks) x
  have y:Inv X pins j (upd H d.objs.size (.tup c)) {s with heap:=d.push {cls:=.type "tuple",data:=.seq a.toArray} }:=
   n.laid (t':=s.toks) (λb o e=>Heap.get?_push_of_some _ e) (Nat.le_refl _) (show bQ X.prog X.w _ _ _ (.tup c)from⟨k,a,g,IsTup.new _ _⟩)
  exact⟨.ref d.objs.size,_,y,rfl,q _ (n.hok.fresh (Nat.le_refl _))⟩
 .obtain⟨a,g,i,k⟩:=I.tuple f
  exact call_tuple_same i ⟨.ref p,H,I,rfl,q⟩
def CC(K:PySem.W.Frag)(T:String)(x:V)(H:Hp):Prop:=match x with
 |.str _=>T="str"
 |.int _=>T="int"
 |.ref p=>(T="list"/\∃b,mU K H p b)\/(T="tuple"/\∃o,K.lookup p=some o/\o.cls=.type "tuple"/\o.dict=none) \/
   (T="dict"/\((∃a,H p=some (.dK a))\/∃a,H p=some (.dT a)))\/(T="set"/\∃S n,H p=some (.set S n))
 |_=>False
theorem wC{pins:List (Addr×Obj)}{l:St}{H:Hp}{s:Shared}{T:String}{x:V}{v:Value}(I:Inv X pins l H s)(r:RelV x v)(f:CC X.K T x H) :
  s.TypeIs v T/\∀a,v=.ref a->∃ob,s.heap.get? a=some ob/\ob.dict=none:=by
 cases x with
 |str z=>
  obtain⟨t,rfl⟩:=r;cases (show T="str" from f)
  exact⟨typeIs_str s z t,λ_ e=>nomatch e⟩
 |int i=>
  obtain⟨t,rfl⟩:=r;cases (show T="int" from f)
  exact⟨typeIs_int s i t,λ_ e=>nomatch e⟩
 |ref p=>
  cases r;rcases f with ⟨rfl,w,m⟩|⟨rfl,o,b,q,g⟩|⟨rfl,b⟩|⟨rfl,S,n,b⟩
  .obtain⟨u,_,k,_⟩:=I.list m
   refine⟨k.isList.typeIs,λa e=>?_⟩
   cases e;obtain⟨o,n,e,c,g,_⟩:=k;exact⟨o,e,g⟩
  .refine⟨⟨o,I.eg p o b,q⟩,λa e=>?_⟩
   cases e;exact⟨o,I.eg _ o b,g⟩
  .have z:∃o,s.heap.get? p=some o/\o.ExactDict:=by
    rcases b with ⟨h,b⟩|⟨h,b⟩
    .obtain⟨_,_,_,_,o,_,_,e,d,_⟩:=I.hok p _ b
     exact⟨o,e,d⟩
    .obtain⟨_,_,_,_,o,_,_,e,d,_⟩:=I.hok p _ b
     exact⟨o,e,d⟩
   obtain⟨o,e,d⟩:=z;refine⟨⟨o,e,d.1⟩,λa j=>?_⟩
   cases j;exact⟨o,e,d.2.1⟩
  .obtain⟨o,_,_,_,e,d,_⟩:=I.hok p _ b
   refine⟨⟨o,e,d.1⟩,λa j=>?_⟩
   cases j;exact⟨o,e,d.2.1⟩
 |_=>exact False.elim f
noncomputable def LH(K:PySem.W.Frag)(T:String)(r:V->List V->Hp->VK->Prop)(b:TE):TE:=λc H Q=>b c H λx a=>CC K T x a/\r x [] a Q
noncomputable def QG(K:PySem.W.Frag)(T:String)(r:V->List V->Hp->VK->Prop)(c:TE)(t:TA):TE:=λa H Q=>c a H λx b=>CC K T x b/\t a b λd e=>r x d e Q
variable{o e:Expr}{es:List Expr}{to:TE}{t:TA}{name:Str}{apos cpos:Pos}{T id:String}{r:V->List V->Hp->VK->Prop}
theorem DS(e:PlainAttrs T)(slot:Slot T name id)(c:typeOf (.builtin id)=pure (.type "method_descriptor"))(f:DO X id r)(g:PE X o to)
  (a:attributeBase o name X.env (eval o X.env)=eval o X.env:=by rfl) (b:(apos.endLine==cpos.line)=true:=by rfl):PE X (.Call (.Attribute o name apos) [] [] cpos) (LH X.K T r to):=by
 intro pins s d H Q I h;refine wpAny_Call_method0_late a b (bM (g pins s d H _ I h) λv i ⟨x,H1,I1,r1,ty,q1⟩=>?_)
 obtain⟨j,k⟩:=wC I1 r1 ty;exact⟨T,id,e,slot,c,j,k,Calls.callWith_builtin rfl (PySem.evalArgs_none (f pins i d H1 x [] v [] Q I1 r1 .nil q1))⟩
theorem GF(j:PlainAttrs T)(slot:Slot T name id)(f:typeOf (.builtin id)=pure (.type "method_descriptor"))(k:DO X id r)(l:PE X o to)(m:PA X (e::es) t)
  (b:attributeBase o name X.env (eval o X.env)=eval o X.env:=by rfl)
  (d:((backTo cpos (starEach (e::es) X.env)).all (λx=>!x.1)&&(backToKw cpos (keywordEach [] X.env)).all (λx=>x.1.isSome)
   && decide ((e::es).length+([]:List Keyword).length+(if ([]:List Keyword).isEmpty then 0 else 1)<30))=true:=by rfl)
  (c:(apos.endLine==cpos.line)=true:=by rfl) (n:starEach (e::es) X.env=(false,eval e X.env)::starEach es X.env:=by rfl) (a:(backTo cpos (starEach es X.env)).any (·.1)=false:=by rfl) :
  PE X (.Call (.Attribute o name apos) (e::es) [] cpos) (QG X.K T r to t):=by
 intro pins s g H Q I h;refine wpAny_Call_method_late b d c rfl (bM (l pins s g H _ I h) λv p ⟨x,H1,I1,r1,ty,q1⟩=>?_)
 obtain⟨q,u⟩:=wC I1 r1 ty;refine⟨T,id,j,slot,f,q,u,?_⟩;have i:=m cpos pins p g H1 _ I1 q1;rw[n]at i ⊢;refine Calls.callWith_builtin (by show(false||(backTo cpos (starEach es X.env)).any (·.1))=false;rw[a]<;>rfl) (Calls.evalArgs_plain ?_)
 exact bM i λw y ⟨z,A,B,C,D⟩=>k pins y g A x z v w Q B r1 C D
end
def Pb(X:Cx)(id:String)(r:V->List V->Hp->VK->Prop):Prop:=
 ∀(pins:List (Addr×Obj)) (s:Shared) (a:St) (H:Hp) (x:V) (b:List V) (v:Value) (c:List Value) (Q:VK),Inv X pins a H s->RelV x v->Vals b c->r x b H Q ->
  wpAny (model X.prog X.w) X.A (call (.builtin id) (v::c)) (EP X pins a Q) X.xe s
theorem Vals.one:∀{x:V}{us:List Value},Vals [x] us->∃u,us=[u]/\RelV x u
 |_,_,.cons r .nil=>⟨_,rfl,r⟩
theorem Vals.zero:∀{us:List Value},Vals [] us->us=[]
 |_,.nil=>rfl
theorem Vals.reverse{xs:List V}{us:List Value}(h:Vals xs us):Vals xs.reverse us.reverse:=by
 induction h with
 |nil=>exact .nil
 |cons r t a=>rw[List.reverse_cons,List.reverse_cons];exact Vals.append a (.cons r .nil)
section
variable{X:Cx}{pins:List (Addr×Obj)}{σ:St}{H:Hp}{s:Shared}{l b:Addr}{xs ys zs:List V}
theorem Inv.GG{a its':List Value}{n:Nat}{f:Array Value->Array Value}{t':Nat}(I:Inv X pins σ H s)(b:H l=some (.lst xs))
  (e:s.heap.get? l=some {cls:=.type "list",data:=.seq a.toArray n}) (c:f a.toArray=its'.toArray) (d:Vals ys its') (hz:ys.length<=sizeLine) :
  Inv X pins σ (upd H l (.lst ys)) {s with heap:=s.heap.update l (Obj.mapSeq f),toks:=t' }:=by
 have q:=PySem.IsL.update e f;rw[c]at q;refine I.write (x:=l) (e:=l) (by rw[b];exact trivial) (.inl rfl) (λi u g h=>(Heap.get?_update_other s.heap (Obj.mapSeq f) (Ne.symm g)).trans h) ⟨_,q⟩ ?_
 exact⟨hz,its',_,d,q⟩
theorem Inv.LI{a:List Value}{t':Nat}(I:Inv X pins σ H s)(b:Vals ys a)(hz:ys.length<=sizeLine) :
  Inv X pins σ (upd H s.heap.objs.size (.lst ys)) {s with heap:=s.heap.push {cls:=.type "list",data:=.seq a.toArray},toks:=t' }:=
 I.laid (λ_ _ q=>Heap.get?_push_of_some _ q) (Nat.le_refl _) ⟨hz,a,0,b,Heap.get?_push_size _ rfl⟩
theorem Inv.fresh(I:Inv X pins σ H s):H s.heap.objs.size=none:=I.hok.fresh (Nat.le_refl _)
theorem Inv.GH(I:Inv X pins σ H s)(b:H l=some (.lst xs)):xs.length<=sizeLine/\∃(a:List Value) (n:Nat),Vals xs a/\xs.length=a.length/\s.heap.get? l=some {cls:=.type "list",data:=.seq a.toArray n}:=by
 obtain⟨z,a,n,r,e⟩:=I.hok l _ b;exact⟨z,a,n,r,r.length,e⟩
end
section
variable{X:Cx}
def sH:V->List V->Hp->VK->Prop:=λx b H Q=>∃l a y,x=.ref l/\b=[y]/\H l=some (.lst a)/\a.length<sizeLine/\Q .non (upd H l (.lst (a++[y])))
theorem mf:Pb X "list.append" sH:=by
 intro pins s g H x i v j Q I c d h;obtain⟨l,k,y,rfl,rfl,b,m,q⟩:=h;cases c;obtain⟨u,rfl,f⟩:=d.one;obtain⟨z,a,n,r,o,e⟩:=I.GH b;refine call_meets F.slot_list_append ⟨_,e,rfl⟩ F.entry_list_append (F.args_list_append_2 _ _) (PySem.list_append l a.toArray n u (by rw[List.size_toArray];omega)) ⟨e,?_⟩
 refine⟨.non,_,I.GG (its':=a++[u]) b e (by simp) (r.append (.cons f .nil)) ?_,rfl,q⟩
 rw[List.length_append,List.length_singleton];omega
def oV:V->List V->Hp->VK->Prop:=λx b H Q=>∃l a,x=.ref l/\b=[]/\H l=some (.lst a)/\Q .non (upd H l (.lst a.reverse))
theorem q_:Pb X "list.reverse" oV:=by
 intro pins s g H x i v j Q I d f h;obtain⟨l,k,rfl,rfl,c,q⟩:=h;cases d;have b:=f.zero;subst b;obtain⟨z,a,n,r,m,e⟩:=I.GH c;refine call_meets F.slot_list_reverse ⟨_,e,rfl⟩ F.entry_list_reverse (F.args_list_reverse_1 _) (AutoSeq1.list_reverse_list_0 l a.toArray n (by rw[List.size_toArray];omega)) ⟨e,?_⟩
 refine⟨.non,_,I.GG (its':=a.reverse) c e (by simp) r.reverse ?_,rfl,q⟩
 rw[List.length_reverse];omega
end
section
variable{prog:Program}{w:World}{A:Around}{E:Value->Shared->Prop}{s:Shared}
end
section
variable{X:Cx}
end
section
variable{κ:Type}[DecidableEq κ]
noncomputable def fj(a:List (κ×V))(k:κ):Option V:=(a.find? λb=>decide (b.1=k)).map (·.2)
noncomputable def putK(a:List (κ×V))(k:κ)(v:V):List (κ×V):=
 if (a.any λb=>decide (b.1=k))=true then a.map (λb=>if b.1=k then (b.1,v)else b)else a++[(k,v)]
noncomputable def kl(a:List (κ×V))(k:κ):List (κ×V):=a.filter λb=>decide (b.1≠k)
theorem iD{p:κ×V}{r:List (κ×V)}{k:κ}(e:p.1=k):fj (p::r) k=some p.2:=by simp[fj,List.find?_cons,e]
theorem iE{p:κ×V}{r:List (κ×V)}{k:κ}(e:¬ p.1=k):fj (p::r) k=fj r k:=by simp[fj,List.find?_cons,e]
theorem oW(k:κ):∀a:List (κ×V),(a.any λb=>decide (b.1=k))=(fj a k).isSome
 |[]=>rfl
 |p::r=>by
  rw[List.any_cons]
  by_cases e:p.1=k
  .simp only[iD e,decide_eq_true e,Bool.true_or,Option.isSome_some]
  .rw[iE e,decide_eq_false e,Bool.false_or];exact oW k r
theorem jB(a:List (κ×V))(k:κ)(v:V):(putK a k v).length<=a.length+1:=by
 unfold putK;split
 .rw[List.length_map];omega
 .rw[List.length_append,List.length_cons,List.length_nil];omega
theorem fh.uM{o:Option V}{u:Option Value}(r:fh o u):o.isSome=u.isSome:=by
 cases o with
 |none=>cases u with
  |none=>rfl
  |some _=>exact(show False from r).elim
 |some _=>cases u with
  |none=>exact(show False from r).elim
  |some _=>rfl
theorem fh.getD{o:Option V}{u:Option Value}{d:V}{d':Value}(r:fh o u)(a:RelV d d'):RelV (o.getD d) (u.getD d'):=by
 cases o with
 |none=>cases u with
  |none=>exact a
  |some _=>exact(show False from r).elim
 |some _=>cases u with
  |none=>exact(show False from r).elim
  |some _=>exact r
theorem KV.val{a:List (κ×V)}{vs:List (κ×Value)}(r:KV a vs)(k:κ):fh (fj a k) (valueAt vs k):=by
 unfold KV at r
 induction r with
 |nil=>exact True.intro
 |@cons p q j c h t g=>
  obtain⟨f,i⟩:=h
  by_cases e:p.1=k
  .have d:q.1=k:=f.symm.trans e
   have b:valueAt (q::c) k=some q.2:=by simp[valueAt,List.find?_cons,d]
   rw[iD e,b];exact i
  .have d:¬ q.1=k:=λz=>e (f.trans z)
   have b:valueAt (q::c) k=valueAt c k:=by simp[valueAt,List.find?_cons,d]
   rw[iE e,b];exact g
theorem KV.any{a:List (κ×V)}{vs:List (κ×Value)}(r:KV a vs)(k:κ):(a.any λb=>decide (b.1=k))=vs.any λb=>decide (b.1=k):=by
 unfold KV at r
 induction r with
 |nil=>rfl
 |cons h t c=>rw[List.any_cons,List.any_cons,c,h.1]
theorem KV.repl{b:List (κ×V)}{vs:List (κ×Value)}(r:KV b vs)(k:κ){y:V}{u:Value}(d:RelV y u) :
  KV (b.map λa=>if a.1=k then (a.1,y)else a) (vs.map λa=>if a.1=k then (a.1,u)else a):=by
 unfold KV at r ⊢
 induction r with
 |nil=>exact .nil
 |@cons p q i j h t f=>
  rw[List.map_cons,List.map_cons];refine .cons ?_ f;obtain⟨c,g⟩:=h
  by_cases e:p.1=k
  .rw[if_pos e,if_pos (c.symm.trans e)];exact⟨c,d⟩
  .rw[if_neg e,if_neg (λz=>e (c.trans z))];exact⟨c,g⟩
theorem KV.put{a:List (κ×V)}{vs:List (κ×Value)}(r:KV a vs)(k:κ){y:V}{u:Value}(b:RelV y u):KV (putK a k y) (stored vs k u):=by
 unfold putK stored;rw[r.any k]
 by_cases e:(vs.any λc=>decide (c.1=k))=true
 .rw[if_pos e,if_pos e];exact r.repl k b
 .rw[if_neg e,if_neg e];exact Paired.snoc r ⟨rfl,b⟩
theorem KV.length{a:List (κ×V)}{vs:List (κ×Value)}(r:KV a vs):a.length=vs.length:=Paired.length r
end
theorem sI{P:Program}{w:World}{k:Key}{u:Value}(r:RelV (kV k) u):(bu P w).is k u=true:=by
 cases k with
 |inl i=>obtain⟨t,e⟩:=(show ∃t,u=Value.int i t from r);subst e;exact oK P w i t
 |inr x=>obtain⟨t,e⟩:=(show ∃t,u=Value.str x t from r);subst e;exact oM P w x t
theorem mj{P:Program}{w:World}:∀{a:List Key}{us:List Value},Vals (a.map kV) us->ItemsAre (bu P w) a us
 |[],_,r=>by rw[List.map_nil]at r;cases r;exact .nil
 |k::a,_,r=>by
  rw[List.map_cons]at r;cases r with
  |cons h t=>exact .cons (sI h) (mj t)
abbrev KT(H:Hp):List (List Key×V)->List (List Key×Addr×Value)->Prop:=Paired λp q=>p.1=q.1/\H q.2.1=some (.tup (p.1.map kV))/\RelV p.2 q.2.2
theorem KT.val{H:Hp}{a:List (List Key×V)}{xs:List (List Key×Addr×Value)}(r:KT H a xs)(k:List Key):fh (fj a k) ((atKey xs k).map (·.2)):=by
 induction r with
 |nil=>exact True.intro
 |@cons p q j c h t g=>
  obtain⟨f,_,i⟩:=h
  by_cases e:p.1=k
  .have d:q.1=k:=f.symm.trans e
   have b:atKey (q::c) k=some q.2:=by simp[atKey,List.find?_cons,d]
   rw[iD e,b];exact i
  .have d:¬ q.1=k:=λz=>e (f.trans z)
   have b:atKey (q::c) k=atKey c k:=by simp[atKey,List.find?_cons,d]
   rw[iE e,b];exact g
theorem KT.repl{H:Hp}{a:List (List Key×V)}{xs:List (List Key×Addr×Value)}(r:KT H a xs)(k:List Key){y:V}{u:Value}(f:RelV y u) :
  KT H (a.map λc=>if c.1=k then (c.1,y)else c) (xs.map (putAt k u)):=by
 induction r with
 |nil=>exact .nil
 |@cons p q j l h t g=>
  rw[List.map_cons,List.map_cons];refine .cons ?_ g;obtain⟨b,d,i⟩:=h;unfold putAt
  by_cases e:p.1=k
  .rw[if_pos e,if_pos (b.symm.trans e)];exact⟨b,d,f⟩
  .rw[if_neg e,if_neg (λz=>e (b.trans z))];exact⟨b,d,i⟩
theorem KT.put{H:Hp}{a:List (List Key×V)}{xs:List (List Key×Addr×Value)}(r:KT H a xs)(k:List Key){b:Addr}{y:V}{u:Value}(d:H b=some (.tup (k.map kV)))(c:RelV y u) :
  KT H (putK a k y) (storedH xs k b u):=by
 have e:(a.any λf=>decide (f.1=k))=(atKey xs k).isSome:=by
  rw[oW,(r.val k).uM,Option.isSome_map]
 unfold putK storedH;rw[e]
 by_cases q:(atKey xs k).isSome=true
 .rw[if_pos q,if_pos q];exact r.repl k c
 .rw[if_neg q,if_neg q];exact Paired.snoc r ⟨rfl,d,c⟩
theorem KT.keeps{H c:Hp}{a:List (List Key×V)}{xs:List (List Key×Addr×Value)}(r:KT H a xs)(e:∀b d,H b=some (.tup d)->c b=some (.tup d)):KT c a xs:=
 Paired.zz r λ_ _ z=>⟨z.1,e _ _ z.2.1,z.2.2⟩
section
variable{P:Program}{w:World}{H:Hp}{h:Heap}{a:Addr}
theorem wD{u:HO}(ok:ff P w H h)(e:Rd H a u):bQ P w H h a u:=e.ok ok
theorem sJ{b:List (Key×V)}(ok:ff P w H h)(e:Rd H a (.dK b)):b.length<=sizeLine/\(a==sysModules)=false/\∃vs,KV b vs/\h.DictOf (bu P w) a vs:=
 show bQ P w H h a (.dK b)from wD ok e
theorem GI{b:List (Key×V)}(ok:ff P w H h)(e:H a=some (.dK b)):b.length<=sizeLine/\(a==sysModules)=false/\∃vs,KV b vs/\h.DictOf (bu P w) a vs:=sJ ok (.inl e)
theorem km{b:List Key}(ok:ff P w H h)(e:H a=some (.tup (b.map kV))):(tupleKind (bu P w)).is h b a:=by
 obtain⟨_,c,r,o,d,f,n,g⟩:=(show bQ P w H h a (.tup (b.map kV))from ok a _ e)
 exact⟨o,c.toArray,n,d,f,g,by simpa using mj r⟩
theorem sL{b:List (List Key×V)}(ok:ff P w H h)(e:Rd H a (.dT b)):b.length<=sizeLine/\(a==sysModules)=false /\
  ∃xs,KT H b xs/\h.DictOfH (tupleKind (bu P w)) a xs:=by
 obtain⟨z,y,xs,r,o,f,g,i,j,k,n,s⟩:=(show bQ P w H h a (.dT b)from wD ok e)
 refine⟨z,y,xs,r,o,f,g,i,j,k,n,λx hx=>?_,s⟩
 have c:∀{l:List (List Key×V)}{m:List (List Key×Addr×Value)},KT H l m->∀x∈m,(tupleKind (bu P w)).is h x.1 x.2.1:=by
  intro l m q
  induction q with
  |nil=>intro x hx;exact nomatch hx
  |@cons p q A B d t u=>
   intro x hx;rcases List.mem_cons.mp hx with e|hx
   .subst e
    exact km ok (by rw[←d.1];exact d.2.1)
   .exact u x hx
 exact c r x hx
theorem wF{b:List (List Key×V)}(ok:ff P w H h)(e:H a=some (.dT b)):b.length<=sizeLine/\(a==sysModules)=false /\
  ∃xs,KT H b xs/\h.DictOfH (tupleKind (bu P w)) a xs:=sL ok (.inl e)
end
def jl(H:Hp)(a:Addr)(y:V)(r:Option V):Prop:=
 (∃c k,Rd H a (.dK c)/\y=kV k/\r=fj c k)\/∃c k b,Rd H a (.dT c)/\y=.ref b/\H b=some (.tup (k.map kV))/\r=fj c k
def oX(H:Hp)(a:Addr)(y v:V)(d:Hp):Prop:=
 (∃c k,H a=some (.dK c)/\y=kV k/\c.length<sizeLine/\d=upd H a (.dK (putK c k v))) \/
 ∃c k b,H a=some (.dT c)/\y=.ref b/\H b=some (.tup (k.map kV))/\c.length<sizeLine/\d=upd H a (.dT (putK c k v))
theorem jl.k{H:Hp}{a:Addr}{b:List (Key×V)}{k:Key}(e:H a=some (.dK b)):jl H a (kV k) (fj b k):=.inl ⟨b,k,.inl e,rfl,rfl⟩
theorem jl.t{H:Hp}{a b:Addr}{c:List (List Key×V)}{k:List Key}(e:H a=some (.dT c))(d:H b=some (.tup (k.map kV))):jl H a (.ref b) (fj c k):=.inr ⟨c,k,b,.inl e,rfl,d,rfl⟩
theorem oX.k{H:Hp}{a:Addr}{b:List (Key×V)}{k:Key}{v:V}(e:H a=some (.dK b))(c:b.length<sizeLine):oX H a (kV k) v (upd H a (.dK (putK b k v))):=.inl ⟨b,k,e,rfl,c,rfl⟩
theorem oX.t{H:Hp}{a b:Addr}{c:List (List Key×V)}{k:List Key}{v:V}(e:H a=some (.dT c))(d:H b=some (.tup (k.map kV)))(f:c.length<sizeLine) :
  oX H a (.ref b) v (upd H a (.dT (putK c k v))):=.inr ⟨c,k,b,e,rfl,d,f,rfl⟩
section
variable{X:Cx}{pins:List (Addr×Obj)}{σ:St}{H:Hp}{s:Shared}{a:Addr}{y v:V}{u r:Value}{o:Option V}{A:Around}{E:Value->Shared->Prop}
theorem Inv.big(I:Inv X pins σ H s):sysModules<s.heap.objs.size:=by
 have h:mainGlobals<s.heap.objs.size:=(I.mod.glob.keeps I.bk).lt;exact Nat.lt_trans (by decide) h
theorem uN{Q:Value->Shared->Prop}(x:A.units+1<cLine)(I:Inv X pins σ H s)(g:jl H a y (some v))(r:RelV y u)(h:∀f t,Inv X pins σ H t->RelV v f->Q f t) :
  wpAny (model X.prog X.w) A (getItem (.ref a) u) Q E s:=by
 rcases g with ⟨i,k,e,j,l⟩|⟨i,k,b,e,j,B,l⟩
 .subst j
  obtain⟨z,C,D,c,m⟩:=sJ I.hok e;obtain⟨f,n,d⟩:=fh.some_of (v:=v) (o:=valueAt D k) (by rw[l];exact c.val k)
  exact wpAny_getItem_of (sI r) m.mapOf n (h f _ (I.tok _) d)
 .subst j
  cases (show u=Value.ref b from r)
  obtain⟨z,C,F,c,m⟩:=sL I.hok e;obtain⟨f,n,d⟩:=fh.some_of (v:=v) (o:=(atKey F k).map (·.2)) (by rw[l];exact c.val k)
  obtain⟨p,G,q⟩:=Option.map_eq_some_iff.mp n;refine wpAny_getItem_heap (tupleKind_room_in1 x) (km I.hok B) m G ?_;rw[q];exact h f _ (I.tok _) d
theorem iF{h':Heap}{t':Nat}{ob:HO}(I:Inv X pins σ H s)(d:Ge (H a))(f:Heap.SameBut a s.heap h')(g:∃q,h'.get? a=some q)(c:bQ X.prog X.w (upd H a ob) h' a ob) :
  Inv X pins σ (upd H a ob) {s with heap:=h',toks:=t' }:=
 I.write (x:=a) (e:=a) d (.inl rfl) (λb q h z=>(f.2 b h).trans z) g c
theorem DT{P:Program}{w:World}{d:Hp}{h':Heap}{b:List (Key×V)}{vs:List (Key×Value)}(z:b.length<=sizeLine)(e:(a==sysModules)=false)(c:KV b vs)(dd:h'.DictOf (bu P w) a vs) :
  bQ P w d h' a (.dK b):=⟨z,e,vs,c,dd⟩
theorem uO{C:Hp}{Q:Unit->Shared->Prop}(M:A.units+1<cLine)(I:Inv X pins σ H s)(g:oX H a y v C)(D:RelV y u)(F:RelV v r)(h:∀G,Inv X pins σ C G->Q () G) :
  wpAny (model X.prog X.w) A (setItem (.ref a) u r) Q E s:=by
 rcases g with ⟨d,k,e,m,l,n⟩|⟨d,k,b,e,m,J,l,n⟩
 .subst m n
  obtain⟨z,o,N,f,p⟩:=GI I.hok e;have t:N.length<=sizeLine:=by rw[←f.length];exact z
  have x:(putK d k v).length<=sizeLine:=by have:=jB d k v;omega
  refine wpAny_setItem_pairs (hsz:=t) (sI D) p λK i B=>h _ ?_
  have O:∃q,K.get? a=some q:=let ⟨q,_,_,j,_⟩:=i;⟨q,j⟩
  exact iF I (by rw[e];exact True.intro) B O (DT x o (f.put k F) i)
 .subst m n
  cases (show u=Value.ref b from D)
  obtain⟨z,o,P,f,p⟩:=wF I.hok e;have t:P.length<=sizeLine:=by rw[←Paired.length f];exact z
  have x:(putK d k v).length<=sizeLine:=by have:=jB d k v;omega
  refine wpAny_setItem_heap (hsz:=t) (tupleKind_room_in1 M) (km I.hok J) p λK i B=>h _ ?_
  obtain⟨q,R,S,j,T,U,V,_,Y⟩:=i;refine iF I (by rw[e];exact True.intro) B ⟨q,j⟩ ⟨x,o,_,(f.put k J F).keeps λc Z L=>?_,q,R,S,j,T,U,V,Y⟩
  rw[ai (Ct L e (λz=>nomatch z))]
  exact L
end
section
variable{X:Cx}{pins:List (Addr×Obj)}{σ:St}{H:Hp}{s:Shared}{a:Addr}{kvs:List (Key×V)}{k:Key}{u:Value}{A:Around}{E:Value->Shared->Prop}
end
def GJ(i:Expr):Prop:=∀a b,subscripted i false a b=operate [a,b] (getItem a b)
theorem zU{prog:Program}{w:World}{A:Around}{E:Value->Shared->Prop}{s:Shared}{env:Env}{b a:Expr}{pos:Pos}{T id:String}{Q:Value->Shared->Prop}
  (m:typeLookup (.type T) "__getitem__"=pure (some (.builtin id))) (n:GJ a)
  (h:wpAny (model prog w) A (eval b env) (λo e=>wpAny (model prog w) A (eval a env) (λi c=>c.TypeIs o T/\wpAny (model prog w) A (getItem o i) Q E c) E e) E s) :
  wpAny (model prog w) A (eval (.Subscript b a pos) env) Q E s:=by
 refine Subscript_ (wpAny_mono h (λo e j=>wpAny_mono j (λi c d=>?_) λ_ _ x=>x) λ_ _ x=>x)
 obtain⟨l,d⟩:=d;unfold subscriptTail;refine wpAny_bind ?_;rw[getitemInPython_of_ne l.not_modules];refine wpAny_bind (wpAny_specialOf l m ?_)
 have g:wpAny (model prog w) A (subscripted a false o i) (λr f=>wpAny (model prog w) A (letTemporaryGo b o r >>= λ_=>pure r) Q E f) E c:=by
  rw[n o i];exact wpAny_operating (wpAny_mono d (λr f k=>wpAny_bind (wpAny_letTemporaryGo (wpAny_pure k))) λ_ _ x=>x)
 first
  |exact wpAny_pure (wpAny_bind g)
  |exact wpAny_bind (wpAny_pure (wpAny_bind g))
  |exact wpAny_bind g
theorem oY{X:Cx}{pins:List (Addr×Obj)}{f:St}{H:Hp}{s:Shared}{a:Addr}{y:V}{o:Option V}(I:Inv X pins f H s)(g:jl H a y o):s.TypeIs (.ref a) "dict":=by
 rcases g with ⟨c,k,e,_,_⟩|⟨c,k,b,e,_,_,_⟩
 .obtain⟨_,_,h,_,d⟩:=sJ I.hok e
  exact d.typeIs
 .obtain⟨_,_,i,_,d⟩:=sL I.hok e
  exact d.typeIs
noncomputable def GK(td d:TE):TE:=λb H Q=>td b H λx e=>d b e λy c=>∃a v,x=.ref a/\jl c a y (some v)/\Q v c
section
variable{X:Cx}{o i e value:Expr}{pos pos' tpos:Pos}{td ty tv:TE}
theorem zV(d:X.A.units+1<cLine)(e:PE X o td)(f:PE X i ty)(j:GJ i):PE X (.Subscript o i pos) (GK td ty):=by
 intro pins s c H Q I h;refine zU PySem.F.slot_dict_getitem.lookup j (bM (e pins s c H _ I h) λu k ⟨x,H1,I1,rx,q1⟩=>bM (f pins k c H1 _ I1 q1) λm n ⟨y,H2,I2,ry,a,v,ex,g,q2⟩=>?_)
 subst ex;obtain rfl:u=Value.ref a:=rx;exact⟨oY I2 g,uN d I2 g ry λp q l b=>⟨v,H2,l,b,q2⟩⟩
end
theorem wG{P:Program}{w:World}{H:Hp}(h:Heap)(a:sysModules<h.objs.size):bQ P w H (h.push {cls:=.type "dict",data:=.dict #[]}) h.objs.size (.dT []):=
 ⟨Nat.zero_le _,beq_eq_false_iff_ne.mpr (Ne.symm (Nat.ne_of_lt a)),[],.nil,_,#[],0,Heap.get?_push_size _ rfl,⟨rfl,rfl,rfl⟩,rfl,rfl,List.nodup_nil⟩
def DU:TE:=λ_ H Q=>∀p,H p=none->Q (.ref p) (upd H p (.dT []))
section
variable{X:Cx}{pos:Pos}
theorem wH:PE X (.Dict [] [] pos) DU:=λpins s b H Q I h=>
 wpAny_Dict_empty ⟨.ref s.heap.objs.size,_,I.laid (a:=s.heap.objs.size) (o:=.dT []) (t':=s.toks) (λ_ _ q=>Heap.get?_push_of_some _ q) (Nat.le_refl _) (wG s.heap I.big),rfl,h _ (I.hok.fresh (Nat.le_refl _))⟩
end
section
variable{X:Cx}{pins:List (Addr×Obj)}{σ:St}{H:Hp}{s:Shared}{a:Addr}{y d:V}{u r:Value}{o:Option V}{A:Around}{E:Value->Shared->Prop}
theorem DV{Q:Value->Shared->Prop}(q:A.units+1<cLine)(I:Inv X pins σ H s)(g:jl H a y o)(m:RelV y u)(h:∀n p,Inv X pins σ H p->RelV (o.getD .non) n->Q n p) :
  wpAny (model X.prog X.w) A (call (.builtin "dict.get") [.ref a,u]) Q E s:=by
 rcases g with ⟨f,k,e,i,l⟩|⟨f,k,b,e,i,r,l⟩
 .subst i
  obtain⟨z,j,x,c,d⟩:=sJ I.hok e;refine call_meetsIn PySem.F.slot_dict_get d.typeIs PySem.F.entry_dict_get (PySem.F.args_dict_get_2 _ _) (meets_dict_get (bu X.prog X.w) a (sI m) j) ⟨_,d.mapOf,h _ _ (I.tok _) ?_⟩;rw[l];exact(c.val k).getD rfl
 .subst i
  cases (show u=Value.ref b from m)
  obtain⟨z,j,t,c,d⟩:=sL I.hok e;refine call_meetsIn PySem.F.slot_dict_get d.typeIs PySem.F.entry_dict_get (PySem.F.args_dict_get_2 _ _) (meetsH_dict_get (tupleKind (bu X.prog X.w)) a b j) ⟨tupleKind_room_in1 q,k,t,km I.hok r,d,h _ _ (I.tok _) ?_⟩;rw[l];exact(c.val k).getD rfl
end
section
variable{X:Cx}{o e f:Expr}{apos cpos:Pos}{td ty tx:TE}
end
section
variable{X:Cx}{pins:List (Addr×Obj)}{σ:St}{H:Hp}{s:Shared}{a:Addr}{kvs:List (Key×V)}{A:Around}{E:Value->Shared->Prop}
end
section
variable{X:Cx}{pins:List (Addr×Obj)}{σ:St}{H:Hp}{s:Shared}{a:Addr}{y:V}{u:Value}{A:Around}{E:Value->Shared->Prop}
end
end L2
namespace Pc
open PySem PySem.W PySem.Calls PyProof.Rows
theorem jL{P:Params}{h:Heap}:∀(ns:List Int) (vs:List Value),WellAll P h vs (ns.map WData.int)->IntsAre vs ns:=by
 intro ns
 induction ns with
 |nil=>
  intro vs w;rw[List.map_nil]at w;cases w;exact .nil
 |cons n ns c=>
  intro vs w;rw[List.map_cons]at w;cases w with
  |cons a b=>
   cases a;exact .cons _ _ (c _ b)
theorem uP{l:OpenLaw}{n:Nat}(o:l.most=some n){P:Params}{h:Heap}{args:List WData}{b:List Value}
  (c:l.row.toRowW.claim.pre args=true) (j:WellAll P h b args) :
  ∃a vs ns,b=[Value.ref a]/\args=[WData.list (ns.map WData.int)]/\h.get? a=some {cls:=.type "list",data:=.seq vs.toArray}/\IntsAre vs ns/\ns.length<=n:=by
 have k:WShape.hasAll [] args [.list .int]=true:=(pre_splitW c).1;have m:l.pre.holds [] {args:=args}=true:=(pre_splitW c).2;obtain⟨d,r,rfl,p,s⟩:=hasAllW_cons k;obtain rfl:=hasAllW_nil s;obtain⟨z,rfl,t⟩:=hasW_list p;obtain⟨ns,rfl⟩:=items_int t
 have e:ns.length<=n:=by
  unfold OpenLaw.pre at m
  have g:(WTm.not (.lt (.lit (.int (n:Int))) (.len (.arg 0)))).holds [] {args:=[.list (ns.map .int)]}=true:=by
   have g:=(holds_andW m).1;rw[o]at g;exact g
  have i:=condW_of g (w_not (w_lt w_lit (w_len_list (w_arg rfl))));rw[List.length_map]at i;refine Nat.le_of_not_lt λq=>?_
  have u:(n:Int)<((ns.length:Nat):Int):=by omega
  first
   | (rw[decide_eq_true u]at i;exact absurd i (by decide))
   | (simp at i;omega)
 cases j with
 |cons w x=>
  cases x;cases w with
  |list y f=>exact⟨_,_,ns,rfl,rfl,y,jL ns _ f,e⟩
theorem uQ(l:OpenLaw)(args:List WData):l.row.toRowW.claim.post args (.bool true) args=true:=
 postW_of (r:=l.row.toRowW) (X:=(true==true))
  (show WShape.has [] (.bool true) .bool=true by first|rfl|decide|simp[WShape.has,WShape.arms,WShape.armsAll])
  (show(WTm.eq .res (.lit (.bool true))).value [] {args:=args,res:=some (.bool true),after:=args}=some (.bool (true==true))from w_eq_bool (w_res rfl) w_lit) rfl
theorem oZ{l:OpenLaw}{n:Nat}{q:Program}{c:List Str}{C:(Str->Option Value)->Heap->Prop}{D:World->Heap->Prop}{d:DefRec}
  (I:l.most=some n) (u:d.params.defaults=[])
  (call:∀(w:World) (e b:Shared) (p x:Str->Option Value) (i:Addr) (o:Obj) (y s g:Value) (a:Addr) (vs:List Value) (ns:List Int),
   Ground q c [] C w e p x b.heap->D w b.heap ->
   b.heap.get? i=some o->o.data=.func (docDef d.name d.params d.body d.scope y s g)->b.heap.CodeRec s d.name->p d.name=some (.ref i) ->
   b.heap.get? a=some {cls:=.type "list",data:=.seq vs.toArray}->IntsAre vs ns->ns.length<=n->b.gens = #[] ->
   codeAny (model l.prog w) callerA (.call (.ref i) ⟨[.ref a],[]⟩) (λr t=>r=.ok (.ret (.bool true))/\OldK b.heap t.heap/\t.os=b.os/\AllBare t.gens) b) :
  WalkO q c C D l.row.toRowW d [] (λf vs=>PySem.call f vs):=by
 intro w e b p x G Y i o y s g J kV K L z E A M args F U j H N B O;obtain rfl:J=.none:=Dflts.none E u;obtain rfl:kV=.none:=Dflts.noKw E;obtain⟨a,vs,ns,rfl,rfl,k,h,m⟩:=uP I j B;refine enter_call (codeAny_mono (call w e b p x i o y s g a vs ns G Y K (fd_plain L) z A k h m M) λr t P=>?_)
 obtain⟨rfl,Q,R,S⟩:=P;exact⟨.inl ⟨.bool true,.bool true,[],rfl,λ_=>rfl,.bool true,uQ l _,λ_=>⟨List.Pairwise.nil,λ_ T=>(nomatch T)⟩⟩,Q,R,S⟩
section
variable{prog:Program}{w:World}{A:Around}{E:Value->Shared->Prop}{s:Shared}{K:Frag}
end
end Pc
namespace L2
open PySem PySem.Spec PyProof.Rows
theorem jm:∀{vs:List Value}{ns:List Int},IntsAre vs ns->Vals (ns.map V.int) vs
 |_,_,.nil=>.nil
 |_,_,.cons n t h=>.cons ⟨t,rfl⟩ (jm h)
noncomputable def inClass(s:Stmt)(j:Nat):Stmt:=match s with
 |.ClassDef _ _ _ body _ _ _ _ _ _ _=>body.getD j (.Pass ⟨0,0,0,0⟩)
 |_=>.Pass ⟨0,0,0,0⟩
noncomputable def aN(s:Stmt):Arguments:=match s with
 |.FunctionDef _ a _ _ _ _ _ _ _ _=>a
 |_=>{posonlyargs:=[],args:=[],vararg:=none,kwonlyargs:=[],kw_defaults:=[],kwarg:=none,defaults:=[]}
noncomputable def ay(s:Stmt):List Stmt:=match s with
 |.FunctionDef _ _ b _ _ _ _ _ _ _=>b
 |_=>[]
noncomputable def ae(s:Stmt):Scope:=match s with
 |.FunctionDef _ _ _ _ _ _ a _ _ _=>a
 |_=>{kind:=.function,names:=[],isGenerator:=false,isCoroutine:=false}
abbrev ek:oR:=λ_ _ _ _ _ _=>False
abbrev E0:XK:=λ_ _ _=>False
theorem iG{X:Cx}:Passes ek X E0:=λ_ _ _ _ _ _ _ h=>h.elim
structure vY(K:PySem.W.Frag)(x qual:Str)(st:Stmt)(f:Addr)(fd:FuncData):Prop where
 ex:∃(oc:Value) (od:Option Addr) (kV doc pm:Value) (an:Option Addr) (cdv ct:Value) (osl:Array (Option Value)),
  fd=PySem.W.fnOf x qual (aN st) (ay st) (ae st) .none kV doc pm an cdv ct/\K.lookup f=some ⟨oc,od,.func fd,osl⟩/\PySem.W.codeIn K cdv qual=true
 kp:PySem.W.keepIn K (.ref f)=true
section
variable{P:Program}{w:World}{K:PySem.W.Frag}{mg:Str->Option Value}{base:Heap}
theorem vY.ok{x qual:Str}{st:Stmt}{f:Addr}{g:FuncData}{N ps:List Str}{k:Nat}{sp:Sp}(F:vY K x qual st f g)(S:eR N ps (ae st))(c:∀vs H Q E,sp vs H Q E->vs.length=ps.length)
  (b:∀(a:Value) (A:Around) (outer:List Env) (s:Shared) (H:Hp) (vs:List V) (Q:VK) (E:XK),br k (A.deeper (envOfC qual (ae st) s.heap.objs.size f a))->sp vs H Q E ->
   ∃t,iv (cx ek P w K mg base N qual (ae st) f a A outer s H E).hP (ay st) t/\t {nx:=λ_ i=>Q .non i,rt:=Q} (start N vs) H):bF P w K mg base ek (k+1) f g ps sp:=by
 obtain⟨oc,o,kV,j,p,r,a,ct,l,rfl,m,d⟩:=F.ex;refine wy m d S c λA outer s H vs Q E n e=>?_
 obtain⟨t,h,q⟩:=b a A outer s H vs Q E n e;exact⟨t,h.hP,q⟩
theorem vY.binds{x qual:Str}{st:Stmt}{f:Addr}{e:FuncData}{ps:List Str}(F:vY K x qual st f e)
  (h:∀(kV a c:Value) (d:Option Addr) (b ct:Value) (us:List Value),us.length=ps.length->bindArgs (PySem.W.fnOf x qual (aN st) (ay st) (ae st) .none kV a c d b ct) ⟨us,[]⟩=pure (ps.zip us)):Binds K e ps []:=by
 obtain⟨oc,j,kV,a,c,d,b,ct,g,rfl,k,i⟩:=F.ex;exact .all (h kV a c d b ct)
theorem bG{x qual:Str}{st:Stmt}{f:Addr}{oc:Value}{od e:Option Addr}{d:Array (Option Value)}{kV b g a ct:Value}(l:K.lookup f=some ⟨oc,od,.func (PySem.W.fnOf x qual (aN st) (ay st) (ae st) .none kV b g e a ct),d⟩)
  (c:PySem.W.codeIn K a qual=true) (k:PySem.W.keepIn K (.ref f)=true):vY K x qual st f (PySem.W.fnOf x qual (aN st) (ay st) (ae st) .none kV b g e a ct):=⟨⟨oc,od,kV,b,g,e,a,ct,d,rfl,l,c⟩,k⟩
end
section
variable{X:Cx}
end
theorem ra{A B:Prop}(h:B):if false=true then A else B:=by
 rw[if_neg Bool.false_ne_true];exact h
theorem rb{A B:Prop}(h:A):if true=true then A else B:=by
 rw[if_pos rfl];exact h
def iH(H a:Hp):Prop:=∀b o,H b=some o->a b=some o
theorem iH.refl(H:Hp):iH H H:=λ_ _ h=>h
theorem iH.trans{H d e:Hp}(a:iH H d)(b:iH d e):iH H e:=λc o h=>b c o (a c o h)
section
variable{κ:Type}[DecidableEq κ]
end
end L2
namespace Mir
open PySem
inductive D where
 |non|bl (b:Bool)|int (i:Int)|str (x:Str)
 |lst (xs:List D)|tup (xs:List D)|dct (ks:List L2.Key) (vs:List D)|ref (n:Nat)
 deriving Inhabited
inductive Out (α:Type) where
 |ok (a:α)|exc (c:Str) (fs:List (Str×D))|bad
noncomputable def Out.bind{b d:Type}:Out b->(b->Out d)->Out d
 |.ok a,f=>f a
 |.exc c fs,_=>.exc c fs
 |.bad,_=>.bad
instance:Monad Out where
 pure:=.ok
 bind:=Out.bind
@[simp] theorem JI{b c:Type}(a:b)(f:b->Out c):(Out.ok a >>= f)=f a:=rfl
@[simp] theorem GL{a b:Type}(f:a->Out b):((Out.bad:Out a) >>= f)=.bad:=rfl
@[simp] theorem GN{a b:Type}(c fs)(f:a->Out b):((Out.exc c fs:Out a) >>= f)=.exc c fs:=rfl
@[simp] theorem JJ{b:Type}(a:b):(pure a:Out b)=.ok a:=rfl
mutual
noncomputable def du:D->D->Bool
 |.non,.non=>true
 |.bl a,.bl b=>a==b
 |.bl a,.int j=>(if a then 1 else 0)==j
 |.int i,.bl b=>i==(if b then 1 else 0)
 |.int i,.int j=>i==j
 |.str x,.str y=>x==y
 |.lst xs,.lst ys=>eZ xs ys
 |.tup xs,.tup ys=>eZ xs ys
 |_,_=>false
noncomputable def eZ:List D->List D->Bool
 |[],[]=>true
 |x::xs,y::ys=>du x y&&eZ xs ys
 |_,_=>false
end
noncomputable def aH:Nat->D->Bool
 |_,.non|_,.bl _|_,.int _|_,.str _=>true
 |n+1,.lst xs|n+1,.tup xs=>xs.all (aH n)
 |_,_=>false
noncomputable def small(n:Nat):Bool:=decide (n<=sizeLine)
def jM:D->Option Bool
 |.non=>some false
 |.bl b=>some b
 |.int i=>some (i != 0)
 |.str x=>if small x.length then some (x.length != 0)else none
 |.lst xs=>some (!xs.isEmpty)
 |.tup xs=>some (!xs.isEmpty)
 |_=>none
abbrev Rs:=Bool×D
noncomputable def g_(i:Int):Bool:=decide (i.natAbs<18446744073709551616)
theorem o_{i:Int}(h:g_ i=true): -(2 ^ 64)<i/\i<2 ^ 64:=by
 have:=of_decide_eq_true h;omega
def dk(op:Operator)(x y:D):Out Rs:=
 match op,x,y with
 |.Add,.int i,.int j=>.ok (false,.int (i+j))
 |.Sub,.int i,.int j=>.ok (false,.int (i - j))
 |.Mult,.int i,.int j=>if g_ i||g_ j then .ok (false,.int (i*j))else .bad
 |.FloorDiv,.int i,.int j=>if decide (0<j)&&decide (j<1073741824)then .ok (false,.int (i / j))else .bad
 |.Mod,.int i,.int j=>if decide (0<j)then .ok (false,.int (i%j))else .bad
 |.Pow,.int i,.int j=>if decide (0<=j)&&decide (j<=1000)&&decide (i.natAbs<2 ^ 64)then .ok (false,.int (i ^ j.toNat))else .bad
 |.Add,.str i,.str j=>if small (i.length+j.length)then .ok (false,.str (i++j))else .bad
 |.Add,.lst i,.lst j=>if small (i.length+j.length)then .ok (true,.lst (i++j))else .bad
 |_,_,_=>.bad
noncomputable def CD(x y:Str):Bool := !(Builtin.Str.occurrences y x 0 y.length 1).isEmpty
def inD(x y:D):Out Bool:=
 match x,y with
 |x,.lst a=>if aH 8 x&&a.all (aH 8)then .ok (a.any λy=>du y x)else .bad
 |x,.tup a=>if aH 8 x&&a.all (aH 8)then .ok (a.any λy=>du y x)else .bad
 |.str x,.str y=>.ok (CD x y)
 |_,_=>.bad
noncomputable def isD(x y:D):Out Bool:=
 match x,y with
 |.non,.non=>.ok true
 |_,.non=>.ok false
 |.bl a,.bl b=>.ok (a==b)
 |.non,.bl _=>.ok false
 |.int _,.bl _=>.ok false
 |.str _,.bl _=>.ok false
 |.lst _,.bl _=>.ok false
 |.tup _,.bl _=>.ok false
 |_,_=>.bad
def bN(op:CmpOp)(x y:D):Out Bool:=
 match op,x,y with
 |.Eq,x,y=>if aH 8 x&&aH 8 y then .ok (du x y)else .bad
 |.NotEq,x,y=>if aH 8 x&&aH 8 y then .ok (!du x y)else .bad
 |.Lt,.int i,.int j=>.ok (decide (i<j))
 |.LtE,.int i,.int j=>.ok (decide (i<=j))
 |.Gt,.int i,.int j=>.ok (decide (j<i))
 |.GtE,.int i,.int j=>.ok (decide (j<=i))
 |.In,x,y=>inD x y
 |.NotIn,x,y=>do let b ←inD x y;.ok (!b)
 |.Is,x,y=>isD x y
 |.IsNot,x,y=>do let b ←isD x y;.ok (!b)
 |_,_,_=>.bad
noncomputable def aR(c:Nat):Str:=⟨#[c]⟩
def ko(x y:D):Out Rs:=
 match x,y with
 |.lst a,.int i=>match L2.gN a i with|some d=>.ok (false,d)|none=>.bad
 |.tup a,.int i=>match L2.gN a i with|some d=>.ok (false,d)|none=>.bad
 |.str z,.int i=>if small z.length then (match L2.gN z.cps.toList i with|some c=>.ok (false,.str (aR c))|none=>.bad)else .bad
 |_,_=>.bad
def cE{a:Type}(xs:List a)(b c:Option Int):List a:=(xs.drop (HT.jh xs.length 0 b)).take (HT.jh xs.length xs.length c - HT.jh xs.length 0 b)
def wJ(x:D)(a b:Option Int):Out Rs:=
 match x with
 |.lst c=>.ok (true,.lst (cE c a b))
 |.str z=>if small z.length then .ok (false,.str ⟨(cE z.cps.toList a b).toArray⟩)else .bad
 |_=>.bad
noncomputable def intsFrom(a:Int):Nat->List D
 |0=>[]
 |n+1=>.int a::intsFrom (a+1) n
noncomputable def jN(i:Int):Bool:=decide (i.natAbs<4611686018427387904)
theorem kq{i:Int}(h:jN i=true): -(2 ^ 62)<=i/\i<2 ^ 62:=by
 have:=of_decide_eq_true h;omega
inductive jn where
 |len|all|any|sorted|list|tuple|int|min|max|bool
 deriving DecidableEq
def ic:List D->Option (List Bool)
 |[]=>some []
 |d::r=>match jM d,ic r with|some b,some bs=>some (b::bs)|_,_=>none
noncomputable def mn:List D->Option (List Int)
 |[]=>some []
 |.int i::r=>(mn r).map (i :: ·)
 |_=>none
noncomputable def hV:List D->Option (List Str)
 |[]=>some []
 |.str i::r=>(hV r).map (i :: ·)
 |_=>none
noncomputable def ba(a b:Str):Bool := !decide (b.cps.toList<a.cps.toList)
def iI(ds:List D):Out (List D):=
 if 64<=ds.length then .bad else
 match mn ds with
 |some c=>.ok ((c.mergeSort λa b=>decide (a<=b)).map .int)
 |none=>match hV ds with
  |some d=>.ok ((d.mergeSort ba).map .str)
  |none=>.bad
def iJ(f:jn)(a:D):Out Rs:=
 match f,a with
 |.len,.tup [.lst b]=>.ok (false,.int b.length)
 |.len,.tup [.tup b]=>.ok (false,.int b.length)
 |.len,.tup [.str z]=>if small z.length then .ok (false,.int z.length)else .bad
 |.all,.tup [.lst b]=>match ic b with|some bs=>.ok (false,.bl (bs.all id))|none=>.bad
 |.any,.tup [.lst b]=>match ic b with|some bs=>.ok (false,.bl (bs.any id))|none=>.bad
 |.sorted,.tup [.lst b]=>do let c ←iI b;.ok (true,.lst c)
 |.list,.tup [.lst b]=>.ok (true,.lst b)
 |.list,.tup [.tup b]=>.ok (true,.lst b)
 |.tuple,.tup [.lst b]=>.ok (false,.tup b)
 |.tuple,.tup [.tup b]=>.ok (false,.tup b)
 |.int,.tup [.int i]=>.ok (false,.int i)
 |.int,.tup [.bl k]=>.ok (false,.int (if k then 1 else 0))
 |.min,.tup [.int i,.int j]=>.ok (false,.int (if j<i then j else i))
 |.max,.tup [.int i,.int j]=>.ok (false,.int (if j>i then j else i))
 |_,_=>.bad
inductive QH where
 |index|join
 deriving DecidableEq
def DW(m:QH)(x:D)(a:D):Out Rs:=
 match m,x,a with
 |.index,.lst b,.tup [d]=>if aH 8 d&&b.all (aH 8)then (match b.findIdx? λy=>du y d with|some j=>.ok (false,.int j)|none=>.bad)else .bad
 |.index,.str z,.tup [.str y]=>match Builtin.Str.occurrences z y 0 z.length 1 with|i::_=>.ok (false,.int i)|[]=>.bad
 |.join,.str z,.tup [.lst c]=>match hV c with|some b=>if decide (z.length<=16)&&decide ((b.map (·.length)).sum+b.length<=1048576)then .ok (false,.str (Txt.join z b))else .bad|none=>.bad
 |_,_,_=>.bad
inductive Ty where
 |int|str|bool|list|tuple|dict
 deriving DecidableEq
noncomputable def oH:D->Ty->Option Bool
 |.non,_=>some false
 |.bl _,t=>some (t==.bool||t==.int)
 |.int _,t=>some (t==.int)
 |.str _,t=>some (t==.str)
 |.lst _,t=>some (t==.list)
 |.tup _,t=>some (t==.tuple)
 |.dct _ _,t=>some (t==.dict)
 |.ref _,_=>none
noncomputable def ey:D->Bool
 |.non|.bl _|.int _|.str _=>true
 |_=>false
noncomputable def fuel:Nat:=100000
end Mir
namespace Mir
open PySem PySem.Spec PyProof.Rows L2
mutual
noncomputable def Rep(Z:Addr->Prop)(H:Hp):D->V->Prop
 |.non,v=>v=.non
 |.bl b,v=>v=.bl b
 |.int i,v=>v=.int i
 |.str x,v=>v=.str x
 |.lst ds,v=>∃a vs,v=.ref a/\Z a/\Rd H a (.lst vs)/\aO Z H ds vs
 |.tup ds,v=>∃a vs,v=.ref a/\Z a/\Rd H a (.tup vs)/\aO Z H ds vs
 |.dct ks ds,v=>∃a vs,v=.ref a/\Z a/\H a=some (.dK (ks.zip vs))/\aO Z H ds vs
 |.ref _,_=>False
noncomputable def aO(Z:Addr->Prop)(H:Hp):List D->List V->Prop
 |[],a=>a=[]
 |d::ds,a=>∃v r,a=v::r/\Rep Z H d v/\aO Z H ds r
end
section
variable{Z Z':Addr->Prop}{H H':Hp}
theorem nF{a:Addr}{u:HO}(k:∀o,H a=some o->H' a=some o)(h:Rd H a u):Rd H' a u:=by
 rcases h with h|⟨o,h⟩
 .exact .inl (k _ h)
 .exact .inr ⟨o,k _ h⟩
mutual
theorem Rep.mono(k:∀a o,Z a->H a=some o->H' a=some o)(z:∀a,Z a->Z' a):∀{d:D}{v:V},Rep Z H d v->Rep Z' H' d v
 |.non,_,h=>by simpa only [Rep]using h
 |.bl _,_,h=>by simpa only [Rep]using h
 |.int _,_,h=>by simpa only [Rep]using h
 |.str _,_,h=>by simpa only [Rep]using h
 |.lst ds,v,h=>by
  simp only[Rep]at h ⊢;obtain⟨a,c,e,b,f,g⟩:=h;exact⟨a,c,e,z a b,nF (λo=>k a o b) f,aO.mono k z g⟩
 |.tup ds,v,h=>by
  simp only[Rep]at h ⊢;obtain⟨a,c,e,b,f,g⟩:=h;exact⟨a,c,e,z a b,nF (λo=>k a o b) f,aO.mono k z g⟩
 |.dct i ds,v,h=>by
  simp only[Rep]at h ⊢;obtain⟨a,c,e,b,f,g⟩:=h;exact⟨a,c,e,z a b,k a _ b f,aO.mono k z g⟩
 |.ref _,_,h=>by simp only[Rep]at h
theorem aO.mono(k:∀a o,Z a->H a=some o->H' a=some o)(z:∀a,Z a->Z' a):∀{ds:List D}{vs:List V},aO Z H ds vs->aO Z' H' ds vs
 |[],_,h=>by simpa only [aO]using h
 |d::ds,vs,h=>by
  simp only[aO]at h ⊢;obtain⟨v,r,e,h1,h2⟩:=h;exact⟨v,r,e,Rep.mono k z h1,aO.mono k z h2⟩
end
theorem aO.length:∀{ds:List D}{vs:List V},aO Z H ds vs->vs.length=ds.length
 |[],_,h=>by simp only[aO]at h;rw[h];rfl
 |d::ds,_,h=>by
  simp only[aO]at h;obtain⟨v,r,e,_,h2⟩:=h;rw[e,List.length_cons,List.length_cons,aO.length h2]
theorem aO.get:∀{ds:List D}{vs:List V}{i:Nat}{d:D},aO Z H ds vs->ds[i]?=some d->∃v,vs[i]?=some v/\Rep Z H d v
 |[],_,_,_,_,e=>by simp at e
 |d::ds,_,0,_,h,e=>by
  simp only[aO]at h;obtain⟨v,r,rfl,h1,_⟩:=h;simp at e;subst e
  exact⟨v,rfl,h1⟩
 |d::ds,_,i+1,a,h,e=>by
  simp only[aO]at h;obtain⟨v,r,rfl,_,b⟩:=h;obtain⟨u,c,f⟩:=aO.get (i:=i) (d:=a) b (by simpa using e)
  exact⟨u,by simpa using c,f⟩
theorem aO.append:∀{ds es:List D}{vs a:List V},aO Z H ds vs->aO Z H es a->aO Z H (ds++es) (vs++a)
 |[],_,_,_,h,h'=>by simp only[aO]at h;rw[h];exact h'
 |d::ds,_,_,_,h,h'=>by
  simp only[aO]at h;obtain⟨v,r,rfl,h1,h2⟩:=h
  show aO Z H (d::(ds++_)) (v::(r++_))
  simp only[aO];exact⟨v,_,rfl,h1,aO.append h2 h'⟩
theorem aO.nil:aO Z H [] []:=by simp only[aO]
theorem aO.cons{d:D}{ds:List D}{v:V}{vs:List V}(h:Rep Z H d v)(h':aO Z H ds vs):aO Z H (d::ds) (v::vs):=by
 simp only[aO];exact⟨v,vs,rfl,h,h'⟩
theorem aO.nil_inv{vs:List V}(h:aO Z H [] vs):vs=[]:=by simpa only [aO]using h
theorem aO.cons_inv{d:D}{ds:List D}{vs:List V}(h:aO Z H (d::ds) vs):∃v r,vs=v::r/\Rep Z H d v/\aO Z H ds r:=by simpa only [aO]using h
def Now(Z:Addr->Prop)(H:Hp)(d:D)(v:V):Prop:=
 match d with
 |.lst c=>∃a b,v=.ref a/\Rd H a (.lst b)/\aO Z H c b
 |d=>Rep Z H d v
theorem Rep.now{d:D}{v:V}(h:Rep Z H d v):Now Z H d v:=by
 cases d with
 |lst c=>
  simp only[Rep]at h;obtain⟨a,b,e,_,h⟩:=h;exact⟨a,b,e,h⟩
 |_=>exact h
end
structure ez(Z:Addr->Prop)(H:Hp)(Z':Addr->Prop)(H':Hp):Prop where
 same:iH H H'
 sub:∀a,Z a->Z' a
 new:∀a,Z' a->Z a\/H a=none
 dom:∀a,Z' a->H' a≠none
theorem ez.refl{Z:Addr->Prop}{H:Hp}(d:∀a,Z a->H a≠none):ez Z H Z H:=⟨iH.refl _,λ_ h=>h,λ_ h=>.inl h,d⟩
theorem iH.laid{H:Hp}{p:Addr}{o:HO}(h:H p=none):iH H (upd H p o):=λb u e=>by rw[ai (aM e h)];exact e
theorem ez.laid{Z:Addr->Prop}{H:Hp}{p:Addr}{o:HO}(d:∀a,Z a->H a≠none)(h:H p=none):ez Z H Z (upd H p o):=
 ⟨iH.laid h,λ_ h=>h,λ_ h=>.inl h,λa b=>by
  have c:a≠p:=λe=>d a b (by rw[e];exact h)
  rw[ai c];exact d a b⟩
def Zp(Z:Addr->Prop)(p:Addr):Addr->Prop:=λa=>Z a\/a=p
section
variable{Z0 Z Z':Addr->Prop}{H0 H H':Hp}{ρ:zW}{σ:L2.St}
end
def dM(bw b:Bool)(Z:Addr->Prop)(f H:Hp)(d:D)(v:V):Prop:=
 if b=true then ∃a c e,d=.lst e/\v=.ref a/\f a=none/\¬ Z a/\H a=some (.lst c)/\aO Z H e c
 else if bw=true then Now Z H d v else Rep Z H d v
theorem dM.own{bw:Bool}{Z:Addr->Prop}{b H:Hp}{a:Addr}{ds:List D}{vs:List V}(c:b a=none)(d:¬ Z a)(e:H a=some (.lst vs))(f:aO Z H ds vs):dM bw true Z b H (.lst ds) (.ref a):=by
 unfold dM;rw[if_pos rfl];exact⟨a,vs,ds,rfl,rfl,c,d,e,f⟩
theorem dM.rep{bw:Bool}{Z:Addr->Prop}{a H:Hp}{d:D}{v:V}(h:Rep Z H d v):dM bw false Z a H d v:=by
 unfold dM;rw[if_neg Bool.false_ne_true]
 split
 .exact h.now
 .exact h
theorem dM.now{b:Bool}{Z:Addr->Prop}{c H:Hp}{d:D}{v:V}(h:dM true b Z c H d v):Now Z H d v:=by
 unfold dM at h;split at h
 .obtain⟨a,e,i,rfl,rfl,_,_,f,g⟩:=h
  exact⟨a,e,rfl,.inl f,g⟩
 .rw[if_pos rfl]at h;exact h
theorem PE.imp{X:Cx}{e:Expr}{t t':TE}(h:PE X e t)(i:∀a H Q,t' a H Q->t a H Q):PE X e t':=λpins s a H Q I q=>h pins s a H Q I (i a H Q q)
theorem kr{d e:Type}{x:Out d}{f:d->Out e}{b:e}(h:(x >>= f)=.ok b):∃a,x=.ok a/\f a=.ok b:=by
 cases x with
 |ok a=>exact⟨a,rfl,h⟩
 |exc c g=>cases h
 |bad=>cases h
section
variable{Γ:lH}{Z0 Z:Addr->Prop}{H0 H:Hp}{ρ:zW}{σ:L2.St}{c:Ex}{Q:VK}{own:Bool}{d:D}
end
end Mir
namespace Mir
open PySem PySem.Spec PyProof.Rows L2
section
variable{Z Z':Addr->Prop}{H H2 H':Hp}{d:D}{v:V}{bw own:Bool}
theorem bz{n:Nat}(h:small n=true):n<=sizeLine:=of_decide_eq_true h
end
section
variable{X:Cx}{Γ:lH}{bw:Bool}{a b e:Expr}{ca cb c:Ex}{pos:Pos}
noncomputable def fk:D->Option V
 |.non=>some .non
 |.bl b=>some (.bl b)
 |.int i=>some (.int i)
 |.str x=>some (.str x)
 |_=>none
theorem fm{Z:Addr->Prop}{H:Hp}{d:D}{v:V}(h:fk d=some v):Rep Z H d v:=by
 cases d<;>simp only[fk]at h<;>first|cases h;simp only[Rep]|cases h
end
section
variable{Z:Addr->Prop}{H:Hp}{x:V}
theorem fN(h:Now Z H .non x):x=.non:=by simpa only [Now,Rep]using h
theorem aX{i:Int}(h:Now Z H (.int i) x):x=.int i:=by simpa only [Now,Rep]using h
theorem ie{i:Bool}(h:Now Z H (.bl i) x):x=.bl i:=by simpa only [Now,Rep]using h
theorem cR{i:Str}(h:Now Z H (.str i) x):x=.str i:=by simpa only [Now,Rep]using h
theorem dg{ds:List D}(h:Now Z H (.lst ds) x):∃a vs,x=.ref a/\Rd H a (.lst vs)/\aO Z H ds vs:=h
theorem fO{ds:List D}(h:Now Z H (.tup ds) x):∃a vs,x=.ref a/\Z a/\Rd H a (.tup vs)/\aO Z H ds vs:=by simpa only [Now,Rep]using h
theorem nG{K:PySem.W.Frag}{a:Addr}{vs:List V}(h:Rd H a (.lst vs)):mU K H a vs:=.inl h
theorem sM{K:PySem.W.Frag}{a:Addr}{vs:List V}(h:Rd H a (.tup vs)):qM K H a vs:=.inl h
theorem zX{bw:Bool}{Q:VK}{ds:List D}{vs:List V}(b:∀a,Z a->H a≠none)(f:aO Z H ds vs)
  (k:∀v d e,ez Z H e d->dM bw true e H d (.lst ds) v->Q v d):∀p,H p=none->Q (.ref p) (upd H p (.lst vs)):=λp c=>
 k _ _ Z (ez.laid b c) (.own c (λz=>b p z c) aF (f.mono (λa o _=>iH.laid c a o) λ_ z=>z))
end
section
variable{X:Cx}{Γ:lH}{bw:Bool}{a b e:Expr}{ca cb c:Ex}{pos:Pos}
def CF:R2:=λx y H Q=>∃l b a c,x=.ref l/\y=.ref b/\Rd H l (.lst a)/\Rd H b (.lst c)/\a.length+c.length<=sizeLine/\∀p,H p=none->Q (.ref p) (upd H p (.lst (a++c)))
theorem zY:ia X (binaryOp .Add) CF:=by
 intro pins s w H x y v u Q I i j h;obtain⟨l,b,d,f,rfl,rfl,k,m,A,q⟩:=h;cases i;cases j;obtain⟨z,a,n,r,e⟩:d.length<=sizeLine/\∃(a:List Value) (n:Nat),Vals d a/\s.heap.get? l=some {cls:=.type "list",data:=.seq a.toArray n}:=Rd.ok k I.hok;obtain⟨B,c,C,g,o⟩:f.length<=sizeLine/\∃(a:List Value) (n:Nat),Vals f a/\s.heap.get? b=some {cls:=.type "list",data:=.seq a.toArray n}:=Rd.ok m I.hok;have D:=r.length;have p:=g.length;refine PySem.P.add_list e o ?_ (by rw[List.size_toArray,List.size_toArray];omega)
 have t:a.toArray++c.toArray=(a++c).toArray:=by simp
 rw[t];exact⟨.ref _,_,I.LI (t':=s.toks) (r.append g) (by rw[List.length_append];omega),rfl,q _ I.fresh⟩
def zZ(op:Operator):R2:=λx y H Q=>match op with
 |.Add=>(∃i j,x=.int i/\y=.int j/\Q (.int (i+j)) H)\/(∃i j,x=.str i/\y=.str j/\i.length+j.length<=sizeLine/\Q (.str (i++j)) H)\/CF x y H Q
 |.Sub=>∃i j,x=.int i/\y=.int j/\Q (.int (i - j)) H
 |.Mult=>∃i j,x=.int i/\y=.int j/\zJ i j/\Q (.int (i*j)) H
 |.FloorDiv=>∃i j,x=.int i/\y=.int j/\Gq i j/\Q (.int (i / j)) H
 |.Mod=>∃i j,x=.int i/\y=.int j/\0<j/\Q (.int (i%j)) H
 |.Pow=>∃i j,x=.int i/\y=.int j/\Gr i j/\Q (.int (i ^ j.toNat)) H
 |_=>False
theorem wK(op:Operator):ia X (binaryOp op) (zZ op):=by
 cases op with
 |Add=>exact DC.or (qT.or zY)
 |Sub=>exact DD
 |Mult=>exact DE
 |FloorDiv=>exact zK
 |Mod=>exact DF
 |Pow=>exact DG
 |_=>exact λ_ _ _ _ _ _ _ _ _ _ _ _ h=>h.elim
theorem DX{op:Operator}{n o:D}{x y:V}{Z:Addr->Prop}{H:Hp}{h:Bool}{d:D}{Q:VK}(f:Now Z H n x)(g:Now Z H o y)(i:∀a,Z a->H a≠none)(b:dk op n o=.ok (h,d))
  (k:∀v j p,ez Z H p j->dM bw h p H j d v->Q v j):zZ op x y H Q:=by
 have c:∀{r:D}{v:V},fk r=some v->Out.ok (false,r)=Out.ok (h,d)->Q v H:=λu q=>by
  cases q;exact k _ H Z (ez.refl i) (.rep (fm u))
 unfold dk at b;split at b
 .cases aX f;cases aX g
  exact .inl ⟨_,_,rfl,rfl,c rfl b⟩
 .cases aX f;cases aX g
  exact⟨_,_,rfl,rfl,c rfl b⟩
 .cases aX f;cases aX g
  split at b
  .rename_i e
   refine⟨_,_,rfl,rfl,?_,c rfl b⟩;simp only[Bool.or_eq_true]at e;have e:=e.imp o_ o_;exact e
  .cases b
 .cases aX f;cases aX g
  split at b
  .rename_i e
   refine⟨_,_,rfl,rfl,?_,c rfl b⟩;simp only[Bool.and_eq_true,decide_eq_true_eq]at e;exact e
  .cases b
 .cases aX f;cases aX g
  split at b
  .rename_i e
   exact⟨_,_,rfl,rfl,of_decide_eq_true e,c rfl b⟩
  .cases b
 .cases aX f;cases aX g
  split at b
  .rename_i e
   refine⟨_,_,rfl,rfl,?_,c rfl b⟩;simp only[Bool.and_eq_true,decide_eq_true_eq]at e;exact⟨e.1.1,Int.le_trans e.1.2 (by decide),e.2⟩
  .cases b
 .cases cR f;cases cR g
  split at b
  .rename_i e
   exact .inr (.inl ⟨_,_,rfl,rfl,bz e,c rfl b⟩)
  .cases b
 .obtain⟨l,w,rfl,z,s⟩:=dg f
  obtain⟨m,A,rfl,B,t⟩:=dg g;split at b
  .rename_i e
   cases b;have C:=bz e;exact .inr (.inr ⟨l,m,w,A,rfl,rfl,z,B,by rw[s.length,t.length];exact C,zX i (s.append t) k⟩)
  .cases b
 .cases b
end
section
variable{Z:Addr->Prop}{H:Hp}
theorem nH{a:Addr}{u b:HO}(d:∀o w,u≠.cw o w)(c:∀o w,b≠.cw o w)(h:Rd H a u)(h':Rd H a b):u=b:=by
 rcases h with h|⟨o,h⟩<;>rcases h' with h' |⟨f,h'⟩<;>rw[h]at h'<;>injection h' with e
 .exact absurd e (d _ _)
 .exact absurd e.symm (c _ _)
 .injection e
theorem rg{a:Addr}{xs b:List V}(h:Rd H a (.lst xs))(h':Rd H a (.lst b)):xs=b:=by
 have e:=nH (λ_ _ z=>by cases z) (λ_ _ z=>by cases z) h h'
 injection e
theorem rh{a:Addr}{xs b:List V}(h:Rd H a (.tup xs))(h':Rd H a (.tup b)):xs=b:=by
 have e:=nH (λ_ _ z=>by cases z) (λ_ _ z=>by cases z) h h'
 injection e
theorem sN{a:Addr}{xs b:List V}(h:Rd H a (.lst xs))(h':Rd H a (.tup b)):False:=by
 have e:=nH (λ_ _ z=>by cases z) (λ_ _ z=>by cases z) h h'
 cases e
mutual
theorem Rep.uniq:∀(n:Nat) (d d':D) (v:V),aH n d=true->aH n d'=true->Rep Z H d v->Rep Z H d' v->d=d'
 |n,.lst xs,d',v,o,o',h,h'=>by
  simp only[Rep]at h;obtain⟨a,g,rfl,_,h1,h2⟩:=h;cases d'<;>simp only[Rep]at h'
  case lst ys=>
   obtain⟨b,i,e,_,c,f⟩:=h';cases e;cases rg h1 c;cases n with
   |zero=>simp[aH]at o
   |succ n=>rw[aO.uniq n xs ys g (by simpa[aH]using o) (by simpa[aH]using o') h2 f]
  case tup ys=>
   obtain⟨b,i,e,_,c,f⟩:=h';cases e;exact(sN h1 c).elim
  case dct ks ys=>cases n<;>simp[aH]at o'
  all_goals cases h'
 |n,.tup xs,d',v,o,o',h,h'=>by
  simp only[Rep]at h;obtain⟨a,g,rfl,_,h1,h2⟩:=h;cases d'<;>simp only[Rep]at h'
  case tup ys=>
   obtain⟨b,i,e,_,c,f⟩:=h';cases e;cases rh h1 c;cases n with
   |zero=>simp[aH]at o
   |succ n=>rw[aO.uniq n xs ys g (by simpa[aH]using o) (by simpa[aH]using o') h2 f]
  case lst ys=>
   obtain⟨b,i,e,_,c,f⟩:=h';cases e;exact(sN c h1).elim
  case dct ks ys=>cases n<;>simp[aH]at o'
  all_goals cases h'
 |n,.dct ks xs,_,_,o,_,_,_=>by cases n<;>simp[aH]at o
 |n,.ref _,_,_,_,_,h,_=>by simp only[Rep]at h
 |n,.non,d',v,_,o',h,h'=>by
  simp only[Rep]at h;subst h
  cases d'<;>simp only[Rep]at h'<;>first|rfl | (obtain⟨_,_,e,_⟩:=h';cases e;done) | (cases h';done)
 |n,.bl b,d',v,_,o',h,h'=>by
  simp only[Rep]at h;subst h
  cases d'<;>simp only[Rep]at h'<;>first | (obtain⟨_,_,e,_⟩:=h';cases e;done) | (cases h';rfl) | (cases h';done)
 |n,.int b,d',v,_,o',h,h'=>by
  simp only[Rep]at h;subst h
  cases d'<;>simp only[Rep]at h'<;>first | (obtain⟨_,_,e,_⟩:=h';cases e;done) | (cases h';rfl) | (cases h';done)
 |n,.str b,d',v,_,o',h,h'=>by
  simp only[Rep]at h;subst h
  cases d'<;>simp only[Rep]at h'<;>first | (obtain⟨_,_,e,_⟩:=h';cases e;done) | (cases h';rfl) | (cases h';done)
theorem aO.uniq:∀(n:Nat) (xs a:List D) (vs:List V),(∀x∈xs,aH n x=true)->(∀x∈a,aH n x=true)->aO Z H xs vs->aO Z H a vs->xs=a
 |n,[],a,vs,_,_,h,h'=>by
  rw[h.nil_inv]at h';cases a with
  |nil=>rfl
  |cons y a=>obtain⟨_,_,e,_⟩:=h'.cons_inv;cases e
 |n,x::xs,a,vs,o,c,h,h'=>by
  obtain⟨v,r,rfl,d,f⟩:=h.cons_inv;cases a with
  |nil=>exact absurd h'.nil_inv (by simp)
  |cons y a=>
   obtain⟨w,j,e,g,i⟩:=h'.cons_inv;cases e;rw[Rep.uniq n x y v (o x (by simp)) (c y (by simp)) d g,aO.uniq n xs a r (λz b=>o z (by simp[b])) (λz b=>c z (by simp[b])) f i]
end
mutual
theorem ku:∀(n:Nat) (d:D),aH n d=true->du d d=true
 |n,.lst xs,o=>by
  cases n with
  |zero=>simp[aH]at o
  |succ n=>simp only[du];exact fo n xs (by simpa[aH]using o)
 |n,.tup xs,o=>by
  cases n with
  |zero=>simp[aH]at o
  |succ n=>simp only[du];exact fo n xs (by simpa[aH]using o)
 |n,.dct _ _,o=>by cases n<;>simp[aH]at o
 |n,.ref _,o=>by cases n<;>simp[aH]at o
 |n,.non,_=>by simp[du]
 |n,.bl _,_=>by simp[du]
 |n,.int _,_=>by simp[du]
 |n,.str _,_=>by simp[du]
theorem fo:∀(n:Nat) (xs:List D),(∀x∈xs,aH n x=true)->eZ xs xs=true
 |n,[],_=>by simp[eZ]
 |n,x::xs,o=>by
  simp only[eZ,ku n x (o x (by simp)),fo n xs λz hz=>o z (by simp[hz]),Bool.and_self]
end
theorem dy:∀(xs a:List D),((List.range (min xs.length a.length)).all (λj=>du (xs.getD j .non) (a.getD j .non))&&(xs.length==a.length))=eZ xs a
 |[],[]=>by simp[eZ]
 |[],_::_=>by simp[eZ]
 |_::_,[]=>by simp[eZ]
 |x::xs,y::a=>by
  have b:=dy xs a;have c:min (x::xs).length (y::a).length=min xs.length a.length+1:=by simp only[List.length_cons];omega
  rw[c,List.range_succ_eq_map,List.all_cons,List.all_map,eZ,←b];simp[Function.comp_def,Bool.and_assoc]
theorem kv{xs a:List D}(h:xs.length=a.length):(List.range xs.length).all (λj=>du (xs.getD j .non) (a.getD j .non))=eZ xs a:=by
 have e:=dy xs a;rw[←h,Nat.min_self]at e;simpa using e
theorem nI{xs a:List D}(h:xs.length≠a.length):eZ xs a=false:=by
 rw[←dy xs a];simp[h]
end
inductive Vw (s:Shared) (Z:Addr->Prop) (H:Hp):D->Value->Prop where
 |non:Vw s Z H .non .none
 |bl (b:Bool):Vw s Z H (.bl b) (.bool b)
 |int (i:Int) (t:Tok):Vw s Z H (.int i) (.int i t)
 |str (x:Str) (t:Tok):Vw s Z H (.str x) (.str x t)
 |lst {l:Addr}{its:List Value}{vs:List V}{ds:List D}:s.heap.IsList l its.toArray->Vals vs its->Rd H l (.lst vs)/\aO Z H ds vs->Vw s Z H (.lst ds) (.ref l)
 |tup {l:Addr}{its:List Value}{vs:List V}{ds:List D}:s.heap.IsTuple l its.toArray->Vals vs its->Rd H l (.tup vs)/\aO Z H ds vs->Vw s Z H (.tup ds) (.ref l)
section
variable{X:Cx}{pins:List (Addr×Obj)}{σ:L2.St}{Z:Addr->Prop}{H:Hp}{s:Shared}{A:Around}
theorem hX{n:Nat}{d:D}{v:V}{u:Value}(I:Inv X pins σ H s)(c:Now Z H d v)(r:RelV v u)(o:aH n d=true):Vw s Z H d u:=by
 cases d with
 |non=>cases fN c;cases r;exact .non
 |bl b=>cases ie c;cases r;exact .bl b
 |int b=>cases aX c;obtain⟨t,rfl⟩:=r;exact .int b t
 |str b=>cases cR c;obtain⟨t,rfl⟩:=r;exact .str b t
 |lst i=>
  obtain⟨a,j,rfl,e,f⟩:=dg c;cases r;obtain⟨g,h,p,l⟩:=I.list (nG (K:=X.K) e);exact .lst p.isList h ⟨e,f⟩
 |tup i=>
  obtain⟨a,j,rfl,_,e,f⟩:=fO c;cases r;obtain⟨g,h,p,l⟩:=I.tuple (sM (K:=X.K) e);exact .tup p h ⟨e,f⟩
 |dct m i=>cases n<;>simp[aH]at o
 |ref k=>cases n<;>simp[aH]at o
theorem nJ{vs:List V}{a:List Value}(r:Vals vs a){j:Nat}(d:j<a.length):∃v,vs[j]?=some v/\RelV v a[j]:=by
 have f:=r.length;have b:vs[j]?=some vs[j]:=by simp[show j<vs.length by omega]
 obtain⟨u,c,e⟩:=r.get b;rw[List.getElem?_eq_getElem d]at c;cases c;exact⟨_,b,e⟩
theorem fq{n:Nat}(I:Inv X pins σ H s)(t:∀(A:Around) (e f:D) (u w:Value),A.units+n<cLine->aH n e=true->aH n f=true->Vw s Z H e u->Vw s Z H f w->SeqAt.EqAt A s u w (du e f))
  {ds es:List D} (ox:∀x∈ds,aH n x=true) (y:∀x∈es,aH n x=true) (G:A.units+(n+1)<cLine) {vs k:List V}{b a:List Value} (l:Vals vs b) (m:Vals k a) (pl:aO Z H ds vs) (o:aO Z H es k) :
  ∀j (g:j<b.toArray.size) (h:j<a.toArray.size),SeqAt.EqAt A.in1 s b.toArray[j] a.toArray[j] (du (ds.getD j .non) (es.getD j .non)):=by
 intro j g h;have J:=l.length;have K:=m.length;have L:=pl.length;have M:=o.length;simp only[List.size_toArray]at g h;simp only[List.getElem_toArray];obtain⟨v,z,B⟩:=nJ l g;obtain⟨w,C,i⟩:=nJ m h;have p:ds[j]?=some (ds.getD j .non):=by simp[List.getD,show j<ds.length by omega]
 have q:es[j]?=some (es.getD j .non):=by simp[List.getD,show j<es.length by omega]
 obtain⟨N,c,E⟩:=pl.get p;obtain⟨O,d,F⟩:=o.get q;rw[z]at c;cases c
 rw[C]at d;cases d
 have r:=ox _ (List.mem_of_getElem? p);have o2:=y _ (List.mem_of_getElem? q);exact t A.in1 _ _ _ _ (by show A.units+1+n<cLine;omega) r o2 (hX I E.now B r) (hX I F.now i o2)
theorem gp(I:Inv X pins σ H s):∀(n:Nat) (A:Around) (G J:D) (u w:Value),A.units+n<cLine->aH n G=true->aH n J=true->Vw s Z H G u->Vw s Z H J w->SeqAt.EqAt A s u w (du G J):=by
 intro n
 induction n with
 |zero=>
  intro A G J u w N E K O o;have f:A.units<cLine:=by omega
  cases O with
  |non=>
   cases o with
   |non=>exact SeqAt.EqAt.same _
   |bl p=>exact SeqAt.EqAt.none_bool _
   |int q k=>exact SeqAt.EqAt.none_int _ _
   |str r k=>exact SeqAt.EqAt.none_str _ _
   |@lst m a d c e h g=>exact SeqAt.EqAt.none_list e f
   |@tup m a d c e h g=>exact SeqAt.EqAt.none_tuple e f
  |bl b=>
   cases o with
   |non=>exact SeqAt.EqAt.bool_none _
   |bl p=>exact SeqAt.EqAt.bool_bool _ _
   |int q k=>exact SeqAt.EqAt.bool_int _ _ _
   |str r k=>exact SeqAt.EqAt.bool_str _ _ _
   |@lst m a d c e h g=>exact SeqAt.EqAt.bool_list _ e f
   |@tup m a d c e h g=>exact SeqAt.EqAt.bool_tuple _ e f
  |int i t=>
   cases o with
   |non=>exact SeqAt.EqAt.int_none _ _
   |bl p=>exact SeqAt.EqAt.int_bool _ _ _
   |int q k=>exact SeqAt.EqAt.int_int _ _ _ _
   |str r k=>exact SeqAt.EqAt.int_str _ _ _ _
   |@lst m a d c e h g=>exact SeqAt.EqAt.int_list _ _ e f
   |@tup m a d c e h g=>exact SeqAt.EqAt.int_tuple _ _ e f
  |str x t=>
   cases o with
   |non=>exact SeqAt.EqAt.str_none _ _
   |bl p=>exact SeqAt.EqAt.str_bool _ _ _
   |int q k=>exact SeqAt.EqAt.str_int _ _ _ _
   |str r k=>exact SeqAt.EqAt.str_str _ _ _ _
   |@lst m a d c e h g=>exact SeqAt.EqAt.str_list _ _ e f
   |@tup m a d c e h g=>exact SeqAt.EqAt.str_tuple _ _ e f
  |@lst l y L z j F B=>
   cases o with
   |non=>exact SeqAt.EqAt.list_none j f
   |bl p=>exact SeqAt.EqAt.list_bool _ j f
   |int q k=>exact SeqAt.EqAt.list_int _ _ j f
   |str r k=>exact SeqAt.EqAt.list_str _ _ j f
   |@lst m a d c e h g=>
    simp[aH]at E
   |@tup m a d c e h g=>exact SeqAt.EqAt.list_tuple j e f
  |@tup l y L z j F B=>
   cases o with
   |non=>exact SeqAt.EqAt.tuple_none j f
   |bl p=>exact SeqAt.EqAt.tuple_bool _ j f
   |int q k=>exact SeqAt.EqAt.tuple_int _ _ j f
   |str r k=>exact SeqAt.EqAt.tuple_str _ _ j f
   |@lst m a d c e h g=>exact SeqAt.EqAt.tuple_list j e f
   |@tup m a d c e h g=>
    simp[aH]at E
 |succ n R=>
  intro A G J u w N E K O o;have f:A.units<cLine:=by omega
  cases O with
  |non=>
   cases o with
   |non=>exact SeqAt.EqAt.same _
   |bl p=>exact SeqAt.EqAt.none_bool _
   |int q k=>exact SeqAt.EqAt.none_int _ _
   |str r k=>exact SeqAt.EqAt.none_str _ _
   |@lst m a d c e h g=>exact SeqAt.EqAt.none_list e f
   |@tup m a d c e h g=>exact SeqAt.EqAt.none_tuple e f
  |bl b=>
   cases o with
   |non=>exact SeqAt.EqAt.bool_none _
   |bl p=>exact SeqAt.EqAt.bool_bool _ _
   |int q k=>exact SeqAt.EqAt.bool_int _ _ _
   |str r k=>exact SeqAt.EqAt.bool_str _ _ _
   |@lst m a d c e h g=>exact SeqAt.EqAt.bool_list _ e f
   |@tup m a d c e h g=>exact SeqAt.EqAt.bool_tuple _ e f
  |int i t=>
   cases o with
   |non=>exact SeqAt.EqAt.int_none _ _
   |bl p=>exact SeqAt.EqAt.int_bool _ _ _
   |int q k=>exact SeqAt.EqAt.int_int _ _ _ _
   |str r k=>exact SeqAt.EqAt.int_str _ _ _ _
   |@lst m a d c e h g=>exact SeqAt.EqAt.int_list _ _ e f
   |@tup m a d c e h g=>exact SeqAt.EqAt.int_tuple _ _ e f
  |str x t=>
   cases o with
   |non=>exact SeqAt.EqAt.str_none _ _
   |bl p=>exact SeqAt.EqAt.str_bool _ _ _
   |int q k=>exact SeqAt.EqAt.str_int _ _ _ _
   |str r k=>exact SeqAt.EqAt.str_str _ _ _ _
   |@lst m a d c e h g=>exact SeqAt.EqAt.str_list _ _ e f
   |@tup m a d c e h g=>exact SeqAt.EqAt.str_tuple _ _ e f
  |@lst l y L z j F B=>
   cases o with
   |non=>exact SeqAt.EqAt.list_none j f
   |bl p=>exact SeqAt.EqAt.list_bool _ j f
   |int q k=>exact SeqAt.EqAt.list_int _ _ j f
   |str r k=>exact SeqAt.EqAt.list_str _ _ j f
   |@lst m a d c e h g=>
    have S:=F.length;have T:=h.length;have U:=B.2.length;have V:=g.2.length;simp only[du]
    by_cases C:l=m
    .subst C
     have P:=rg B.1 g.1;subst P;have Q:=aO.uniq n z c L (by simpa[aH]using E) (by simpa[aH]using K) B.2 g.2
     subst Q;rw[fo n z (by simpa[aH]using E)]
     exact SeqAt.EqAt.same _
    .refine SeqAt.EqAt.of_refs C ?_
     by_cases M:z.length=c.length
     .rw[←kv M]
      have:=SeqAt.RcAt.lists j e (by simp only[List.size_toArray];omega) f (fq I R (by simpa[aH]using E) (by simpa[aH]using K) N F h B.2 g.2)
      rw[show y.toArray.size=z.length by simp only[List.size_toArray];omega]at this
      exact this
     .rw[nI M]
      exact SeqAt.RcAt.lists_lengths j e (by simp only[List.size_toArray,bne_iff_ne];omega) f
   |@tup m a d c e h g=>exact SeqAt.EqAt.list_tuple j e f
  |@tup l y L z j F B=>
   cases o with
   |non=>exact SeqAt.EqAt.tuple_none j f
   |bl p=>exact SeqAt.EqAt.tuple_bool _ j f
   |int q k=>exact SeqAt.EqAt.tuple_int _ _ j f
   |str r k=>exact SeqAt.EqAt.tuple_str _ _ j f
   |@lst m a d c e h g=>exact SeqAt.EqAt.tuple_list j e f
   |@tup m a d c e h g=>
    have S:=F.length;have T:=h.length;have U:=B.2.length;have V:=g.2.length;simp only[du]
    by_cases C:l=m
    .subst C
     have P:=rh B.1 g.1;subst P;have Q:=aO.uniq n z c L (by simpa[aH]using E) (by simpa[aH]using K) B.2 g.2
     subst Q;rw[fo n z (by simpa[aH]using E)]
     exact SeqAt.EqAt.same _
    .refine SeqAt.EqAt.of_refs C ?_
     rw[←dy z c];have:=SeqAt.RcAt.tuples j e f (fq I R (by simpa[aH]using E) (by simpa[aH]using K) N F h B.2 g.2)
     rw[show y.toArray.size=z.length by simp only[List.size_toArray];omega,show a.toArray.size=c.length by simp only[List.size_toArray];omega]at this
     exact this
theorem wL(I:Inv X pins σ H s){n:Nat}{F G:D}{u w:Value}(J:A.units+(n+1)<cLine)(ox:aH (n+1) F=true)(K:aH (n+1) G=true)(L:Vw s Z H F u)(p:Vw s Z H G w):SeqAt.RcAt A s u w (du F G):=by
 have f:A.units<cLine:=by omega
 cases L with
 |non=>
  cases p with
  |non=>exact SeqAt.RcAt.none_none
  |bl q=>exact SeqAt.RcAt.none_bool _
  |int r k=>exact SeqAt.RcAt.none_int _ _
  |str y k=>exact SeqAt.RcAt.none_str _ _
  |@lst m a e c d g h=>exact SeqAt.RcAt.none_list d f
  |@tup m a e c d g h=>exact SeqAt.RcAt.none_tuple d f
 |bl b=>
  cases p with
  |non=>exact SeqAt.RcAt.bool_none _
  |bl q=>exact SeqAt.RcAt.bool_bool _ _
  |int r k=>exact SeqAt.RcAt.bool_int _ _ _
  |str y k=>exact SeqAt.RcAt.bool_str _ _ _
  |@lst m a e c d g h=>exact SeqAt.RcAt.bool_list _ d f
  |@tup m a e c d g h=>exact SeqAt.RcAt.bool_tuple _ d f
 |int i t=>
  cases p with
  |non=>exact SeqAt.RcAt.int_none _ _
  |bl q=>exact SeqAt.RcAt.int_bool _ _ _
  |int r k=>exact SeqAt.RcAt.int_int _ _ _ _
  |str y k=>exact SeqAt.RcAt.int_str _ _ _ _
  |@lst m a e c d g h=>exact SeqAt.RcAt.int_list _ _ d f
  |@tup m a e c d g h=>exact SeqAt.RcAt.int_tuple _ _ d f
 |str x t=>
  cases p with
  |non=>exact SeqAt.RcAt.str_none _ _
  |bl q=>exact SeqAt.RcAt.str_bool _ _ _
  |int r k=>exact SeqAt.RcAt.str_int _ _ _ _
  |str y k=>exact SeqAt.RcAt.str_str _ _ _ _
  |@lst m a e c d g h=>exact SeqAt.RcAt.str_list _ _ d f
  |@tup m a e c d g h=>exact SeqAt.RcAt.str_tuple _ _ d f
 |@lst l o M z j B C=>
  cases p with
  |non=>exact SeqAt.RcAt.list_none j f
  |bl q=>exact SeqAt.RcAt.list_bool _ j f
  |int r k=>exact SeqAt.RcAt.list_int _ _ j f
  |str y k=>exact SeqAt.RcAt.list_str _ _ j f
  |@lst m a e c d g h=>
   have N:=B.length;have O:=g.length;have P:=C.2.length;have Q:=h.2.length;simp only[du]
   by_cases E:z.length=c.length
   .rw[←kv E]
    have:=SeqAt.RcAt.lists j d (by simp only[List.size_toArray];omega) f (fq I (gp I n) (by simpa[aH]using ox) (by simpa[aH]using K) J B g C.2 h.2)
    rw[show o.toArray.size=z.length by simp only[List.size_toArray];omega]at this
    exact this
   .rw[nI E]
    exact SeqAt.RcAt.lists_lengths j d (by simp only[List.size_toArray,bne_iff_ne];omega) f
  |@tup m a e c d g h=>exact SeqAt.RcAt.list_tuple j d f
 |@tup l o M z j B C=>
  cases p with
  |non=>exact SeqAt.RcAt.tuple_none j f
  |bl q=>exact SeqAt.RcAt.tuple_bool _ j f
  |int r k=>exact SeqAt.RcAt.tuple_int _ _ j f
  |str y k=>exact SeqAt.RcAt.tuple_str _ _ j f
  |@lst m a e c d g h=>exact SeqAt.RcAt.tuple_list j d f
  |@tup m a e c d g h=>
   have N:=B.length;have O:=g.length;have P:=C.2.length;have Q:=h.2.length;simp only[du];rw[←dy z c];have:=SeqAt.RcAt.tuples j d f (fq I (gp I n) (by simpa[aH]using ox) (by simpa[aH]using K) J B g C.2 h.2)
   rw[show o.toArray.size=z.length by simp only[List.size_toArray];omega,show a.toArray.size=c.length by simp only[List.size_toArray];omega]at this
   exact this
theorem ri(I:Inv X pins σ H s){n:Nat}{F G:D}{u w:Value}(J:A.units+(n+1)<cLine)(ox:aH (n+1) F=true)(K:aH (n+1) G=true)(L:Vw s Z H F u)(p:Vw s Z H G w):SeqAt.RcNeAt A s u w (!du F G):=by
 have f:A.units<cLine:=by omega
 cases L with
 |non=>
  cases p with
  |non=>exact SeqAt.RcNeAt.none_none
  |bl q=>exact SeqAt.RcNeAt.none_bool _
  |int r k=>exact SeqAt.RcNeAt.none_int _ _
  |str y k=>exact SeqAt.RcNeAt.none_str _ _
  |@lst m a e c d g h=>exact SeqAt.RcNeAt.none_list d f
  |@tup m a e c d g h=>exact SeqAt.RcNeAt.none_tuple d f
 |bl b=>
  cases p with
  |non=>exact SeqAt.RcNeAt.bool_none _
  |bl q=>exact SeqAt.RcNeAt.bool_bool _ _
  |int r k=>exact SeqAt.RcNeAt.bool_int _ _ _
  |str y k=>exact SeqAt.RcNeAt.bool_str _ _ _
  |@lst m a e c d g h=>exact SeqAt.RcNeAt.bool_list _ d f
  |@tup m a e c d g h=>exact SeqAt.RcNeAt.bool_tuple _ d f
 |int i t=>
  cases p with
  |non=>exact SeqAt.RcNeAt.int_none _ _
  |bl q=>exact SeqAt.RcNeAt.int_bool _ _ _
  |int r k=>exact SeqAt.RcNeAt.int_int _ _ _ _
  |str y k=>exact SeqAt.RcNeAt.int_str _ _ _ _
  |@lst m a e c d g h=>exact SeqAt.RcNeAt.int_list _ _ d f
  |@tup m a e c d g h=>exact SeqAt.RcNeAt.int_tuple _ _ d f
 |str x t=>
  cases p with
  |non=>exact SeqAt.RcNeAt.str_none _ _
  |bl q=>exact SeqAt.RcNeAt.str_bool _ _ _
  |int r k=>exact SeqAt.RcNeAt.str_int _ _ _ _
  |str y k=>exact SeqAt.RcNeAt.str_str _ _ _ _
  |@lst m a e c d g h=>exact SeqAt.RcNeAt.str_list _ _ d f
  |@tup m a e c d g h=>exact SeqAt.RcNeAt.str_tuple _ _ d f
 |@lst l o M z j B C=>
  cases p with
  |non=>exact SeqAt.RcNeAt.list_none j f
  |bl q=>exact SeqAt.RcNeAt.list_bool _ j f
  |int r k=>exact SeqAt.RcNeAt.list_int _ _ j f
  |str y k=>exact SeqAt.RcNeAt.list_str _ _ j f
  |@lst m a e c d g h=>
   have N:=B.length;have O:=g.length;have P:=C.2.length;have Q:=h.2.length;simp only[du]
   by_cases E:z.length=c.length
   .rw[←kv E]
    have:=SeqAt.RcNeAt.lists j d (by simp only[List.size_toArray];omega) f (fq I (gp I n) (by simpa[aH]using ox) (by simpa[aH]using K) J B g C.2 h.2)
    rw[show o.toArray.size=z.length by simp only[List.size_toArray];omega]at this
    exact this
   .rw[nI E]
    exact SeqAt.RcNeAt.lists_lengths j d (by simp only[List.size_toArray,bne_iff_ne];omega) f
  |@tup m a e c d g h=>exact SeqAt.RcNeAt.list_tuple j d f
 |@tup l o M z j B C=>
  cases p with
  |non=>exact SeqAt.RcNeAt.tuple_none j f
  |bl q=>exact SeqAt.RcNeAt.tuple_bool _ j f
  |int r k=>exact SeqAt.RcNeAt.tuple_int _ _ j f
  |str y k=>exact SeqAt.RcNeAt.tuple_str _ _ j f
  |@lst m a e c d g h=>exact SeqAt.RcNeAt.tuple_list j d f
  |@tup m a e c d g h=>
   have N:=B.length;have O:=g.length;have P:=C.2.length;have Q:=h.2.length;simp only[du];rw[←dy z c];have:=SeqAt.RcNeAt.tuples j d f (fq I (gp I n) (by simpa[aH]using ox) (by simpa[aH]using K) J B g C.2 h.2)
   rw[show o.toArray.size=z.length by simp only[List.size_toArray];omega,show a.toArray.size=c.length by simp only[List.size_toArray];omega]at this
   exact this
end
end Mir
namespace Mir
open PySem PySem.Spec PyProof.Rows L2
theorem Vw.uniq{s:Shared}{Z:Addr->Prop}{H:Hp}{n:Nat}{d d':D}{u:Value}(h:Vw s Z H d u)(h':Vw s Z H d' u)(o:aH n d=true)(r:aH n d'=true):d=d':=by
 cases h with
 |non=>cases h';rfl
 |bl b=>cases h';rfl
 |int i t=>cases h';rfl
 |str x t=>cases h';rfl
 |@lst l j k m w y f=>
  cases h' with
  |@lst _ a g c p q e=>
   cases rg f.1 e.1;cases n with
   |zero=>simp[aH]at o
   |succ n=>rw[aO.uniq n m c k (by simpa[aH]using o) (by simpa[aH]using r) f.2 e.2]
  |@tup _ a g c p q e=>exact(sN f.1 e.1).elim
 |@tup l j k m w y f=>
  cases h' with
  |@tup _ a g c p q e=>
   cases rh f.1 e.1;cases n with
   |zero=>simp[aH]at o
   |succ n=>rw[aO.uniq n m c k (by simpa[aH]using o) (by simpa[aH]using r) f.2 e.2]
  |@lst _ a g c p q e=>exact(sN e.1 f.1).elim
section
variable{X:Cx}{pins:List (Addr×Obj)}{σ:L2.St}{Z:Addr->Prop}{H:Hp}{s:Shared}
def jO(s:Shared)(Z:Addr->Prop)(H:Hp)(a:D)(u:Value):Bool:=@decide (∃d,aH 8 d=true/\Vw s Z H d u/\du d a=true) (Classical.propDecidable _)
theorem sO{a d:D}{u:Value}(o:aH 8 d=true)(h:Vw s Z H d u):jO s Z H a u=du d a:=by
 unfold jO;cases e:du d a with
 |true=>exact @decide_eq_true _ (Classical.propDecidable _) ⟨d,o,h,e⟩
 |false=>
  refine @decide_eq_false _ (Classical.propDecidable _) ?_;rintro⟨g,c,f,b⟩;rw[Vw.uniq f h c o,e]at b;cases b
theorem ky(I:Inv X pins σ H s){b:D}:∀{ds:List D}{vs:List V}{a:List Value},aO Z H ds vs->Vals vs a->(∀d∈ds,aH 8 d=true)->a.any (jO s Z H b)=ds.any λd=>du d b
 |[],_,_,h,r,_=>by rw[h.nil_inv]at r;cases r;rfl
 |d::ds,_,_,h,r,o=>by
  obtain⟨v,vr,rfl,h1,h2⟩:=h.cons_inv;cases r with
  |cons c e=>
   rw[List.any_cons,List.any_cons,ky I h2 e λz f=>o z (by simp[f]),sO (o d (by simp)) (hX I h1.now c (o d (by simp)))]
theorem kz(I:Inv X pins σ H s){A:Around}{b:D}{w:Value}(c:A.units+8<cLine)(ox:aH 8 b=true)(f:Vw s Z H b w) :
  ∀{ds:List D}{vs:List V}{a:List Value},aO Z H ds vs->Vals vs a->(∀d∈ds,aH 8 d=true)->∀u∈a,SeqAt.EqAt A s u w (jO s Z H b u)
 |[],_,_,h,r,_,u,hm=>by rw[h.nil_inv]at r;cases r;simp at hm
 |d::ds,_,_,h,r,o,u,hm=>by
  obtain⟨v,vr,rfl,h1,h2⟩:=h.cons_inv;cases r with
  |cons i j=>
   rcases List.mem_cons.mp hm with e|hm
   .subst e
    have g:=hX I h1.now i (o d (by simp))
    rw[sO (o d (by simp)) g]
    exact gp I 8 A d b _ w c (o d (by simp)) ox g f
   .exact kz I c ox f h2 j (λz k=>o z (by simp[k])) u hm
end
section
variable{X:Cx}{Γ:lH}{bw:Bool}{a b e:Expr}{ca cb cc c:Ex}{pos:Pos}
def wM(op:CmpOp):R2:=λx y H Q=>∃Z a b k,Now Z H a x/\Now Z H b y/\bN op a b=.ok k/\Q (.bl k) H
theorem pb{Z:Addr->Prop}{H:Hp}{b:List L2.Key}{ds:List D}{x:V}(h:Now Z H (.dct b ds) x):∃a,x=.ref a:=by
 have h:Rep Z H (.dct b ds) x:=h;simp only[Rep]at h;obtain⟨a,_,e,_⟩:=h;exact⟨a,e⟩
theorem CG{Z:Addr->Prop}{H:Hp}{f l:D}{x y:V}{k:Bool}{u v:Value}(d:Now Z H f x)(m:Now Z H l y)(e:RelV x u)(o:RelV y v)(h:isD f l=.ok k):plainIs u v=true/\(u==v)=k:=by
 have z_:∀{g:List D}{x:V}{u:Value},Now Z H (.lst g) x->RelV x u->∃a,u=.ref a:=λn r=>by
  obtain⟨a,_,rfl,_⟩:=dg n;exact⟨a,r⟩
 have j:∀{g:List D}{x:V}{u:Value},Now Z H (.tup g) x->RelV x u->∃a,u=.ref a:=λn r=>by
  obtain⟨a,_,rfl,_⟩:=fO n;exact⟨a,r⟩
 cases l with
 |non=>
  cases fN m;cases o;cases f with
  |non=>cases fN d;cases e;cases h;exact⟨rfl,rfl⟩
  |bl b=>cases ie d;cases e;cases h;exact⟨rfl,rfl⟩
  |int i=>cases aX d;obtain⟨t,rfl⟩:=e;cases h;exact⟨rfl,rfl⟩
  |str i=>cases cR d;obtain⟨t,rfl⟩:=e;cases h;exact⟨rfl,rfl⟩
  |lst g=>obtain⟨a,rfl⟩:=z_ d e;cases h;exact⟨rfl,rfl⟩
  |tup g=>obtain⟨a,rfl⟩:=j d e;cases h;exact⟨rfl,rfl⟩
  |dct p g=>obtain⟨a,rfl⟩:=pb d;cases e;cases h;exact⟨rfl,rfl⟩
  |ref n=>exact(show False by simpa only [Now,Rep]using d).elim
 |bl c=>
  cases ie m;cases o;cases f with
  |non=>cases fN d;cases e;cases h;exact⟨rfl,rfl⟩
  |bl b=>cases ie d;cases e;cases h;exact⟨rfl,by cases b<;>cases c<;>rfl⟩
  |int i=>cases aX d;obtain⟨t,rfl⟩:=e;cases h;exact⟨rfl,rfl⟩
  |str i=>cases cR d;obtain⟨t,rfl⟩:=e;cases h;exact⟨rfl,rfl⟩
  |lst g=>obtain⟨a,rfl⟩:=z_ d e;cases h;exact⟨rfl,rfl⟩
  |tup g=>obtain⟨a,rfl⟩:=j d e;cases h;exact⟨rfl,rfl⟩
  |dct p g=>cases h
  |ref n=>cases h
 |int _=>cases f<;>cases h
 |str _=>cases f<;>cases h
 |lst _=>cases f<;>cases h
 |tup _=>cases f<;>cases h
 |dct _ _=>cases f<;>cases h
 |ref _=>cases f<;>cases h
theorem CH{pins:List (Addr×Obj)}{s:Shared}{d:L2.St}{H:Hp}{x y:V}{u v:Value}{Q:VK}(L:X.A.units+64<cLine)(I:Inv X pins d H s)(n:RelV x u)(o:RelV y v)
  {Z:Addr->Prop}{a F:D}{k:Bool} (r:Now Z H a x) (t:Now Z H F y) (e:inD a F=.ok k) :
  (Q (.bl k) H->wpAny (model X.prog X.w) X.A (compareOp .In u v) (EP X pins d Q) X.xe s)/\(Q (.bl !k) H->wpAny (model X.prog X.w) X.A (compareOp .NotIn u v) (EP X pins d Q) X.xe s):=by
 unfold inD at e;split at e
 .rename_i z
  split at e
  .rename_i f
   cases e;simp only[Bool.and_eq_true]at f;obtain⟨g,c⟩:=f;have c:=List.all_eq_true.mp c;obtain⟨l,G,rfl,B,h⟩:=dg t;cases o;obtain⟨b,i,p,J⟩:=I.list (nG (K:=X.K) B);have C:=hX I r n g;have j:∀w,w∈b.toArray->SeqAt.EqAt X.A.in1 s w u (jO s Z H a w):=λw E=>kz I (A:=X.A.in1) (by show X.A.units+1+8<cLine;omega) g C h i c w (by simpa using E)
   have m:b.toArray.any (jO s Z H a)=z.any λy=>du y a:=by
    rw[←ky I h i c];simp
   exact⟨λq=>SeqAt.in_listAt (jO s Z H a) p.isList j ⟨.bl _,H,I,rfl,by rw[m];exact q⟩,λq=>SeqAt.notIn_listAt (jO s Z H a) p.isList j ⟨.bl _,H,I,rfl,by rw[m];exact q⟩⟩
  .cases e
 .rename_i z
  split at e
  .rename_i f
   cases e;simp only[Bool.and_eq_true]at f;obtain⟨g,c⟩:=f;have c:=List.all_eq_true.mp c;obtain⟨l,G,rfl,_,B,h⟩:=fO t;cases o;obtain⟨b,i,p,J⟩:=I.tuple (sM (K:=X.K) B);have C:=hX I r n g;have j:∀w,w∈b.toArray->SeqAt.EqAt X.A.in1 s w u (jO s Z H a w):=λw E=>kz I (A:=X.A.in1) (by show X.A.units+1+8<cLine;omega) g C h i c w (by simpa using E)
   have m:b.toArray.any (jO s Z H a)=z.any λy=>du y a:=by
    rw[←ky I h i c];simp
   exact⟨λq=>SeqAt.in_tupleAt (jO s Z H a) p j ⟨.bl _,H,I,rfl,by rw[m];exact q⟩,λq=>SeqAt.notIn_tupleAt (jO s Z H a) p j ⟨.bl _,H,I,rfl,by rw[m];exact q⟩⟩
  .cases e
 .cases e
  cases cR r;cases cR t;exact⟨λq=>uH pins s d H _ _ u v Q I n o ⟨_,_,rfl,rfl,q⟩,λq=>mY pins s d H _ _ u v Q I n o ⟨_,_,rfl,rfl,q⟩⟩
 .cases e
theorem gq(F:X.A.units+64<cLine)(op:CmpOp):ia X (compareOp op) (wM op):=by
 intro pins s D H x y u v Q I m p h;obtain⟨Z,c,d,k,r,t,e,q⟩:=h;have l:EP X pins D Q (.bool k) s:=⟨.bl k,H,I,rfl,q⟩
 have a:∀{i j:Int}{o:CmpOp}{g:Int->Int->Bool},ia X (compareOp o) (zH λi j=>.bl (g i j))->c=.int i->d=.int j->k=g i j->wpAny (model X.prog X.w) X.A (compareOp o u v) (EP X pins D Q) X.xe s:=by
  intro i j o g z B C G;subst B C G;cases aX r;cases aX t;exact z pins s D H _ _ u v Q I m p ⟨_,_,rfl,rfl,q⟩
 cases op with
 |Eq=>
  unfold bN at e;dsimp only at e;split at e
  .rename_i f
   cases e;simp only[Bool.and_eq_true]at f;exact wL I (n:=7) (by omega) f.1 f.2 (hX I r m f.1) (hX I t p f.2) X.prog X.w X.xe _ l
  .cases e
 |NotEq=>
  unfold bN at e;dsimp only at e;split at e
  .rename_i f
   cases e;simp only[Bool.and_eq_true]at f;exact ri I (n:=7) (by omega) f.1 f.2 (hX I r m f.1) (hX I t p f.2) X.prog X.w X.xe _ l
  .cases e
 |Lt=>cases c<;>cases d<;>first | (cases e;exact a Gs rfl rfl rfl)|cases e
 |LtE=>cases c<;>cases d<;>first | (cases e;exact a Gu rfl rfl rfl)|cases e
 |Gt=>cases c<;>cases d<;>first | (cases e;exact a Gv rfl rfl rfl)|cases e
 |GtE=>cases c<;>cases d<;>first | (cases e;exact a Gw rfl rfl rfl)|cases e
 |In=>
  have e:inD c d=.ok k:=by cases c<;>cases d<;>exact e
  exact(CH F I m p r t e).1 q
 |NotIn=>
  have e:(do let b ←inD c d;Out.ok (!b))=.ok k:=by cases c<;>cases d<;>exact e
  obtain⟨b,B,C⟩:=kr e;cases C;exact(CH F I m p r t B).2 q
 |Is=>
  have e:isD c d=.ok k:=by cases c<;>cases d<;>exact e
  obtain⟨z,E⟩:=CG r t m p e;exact wpAny_is_plain z (by rw[E];exact l)
 |IsNot=>
  have e:(do let b ←isD c d;Out.ok (!b))=.ok k:=by cases c<;>cases d<;>exact e
  obtain⟨b,B,C⟩:=kr e;cases C;obtain⟨z,E⟩:=CG r t m p B;exact wpAny_isNot_plain z (by rw[E];exact l)
theorem DY{op:CmpOp}{c e:D}{x y:V}{Z:Addr->Prop}{H:Hp}{b:Bool}{d:D}{Q:VK}(i:Now Z H c x)(j:Now Z H e y)(f:∀a,Z a->H a≠none)
  (l:(do let r ←bN op c e;Out.ok (false,D.bl r))=.ok (b,d)) (k:∀v g h,ez Z H h g->dM bw b h H g d v->Q v g):wM op x y H Q:=by
 obtain⟨r,m,n⟩:=kr l;cases n;exact⟨Z,c,e,r,i,j,m,k _ H Z (ez.refl f) (.rep (fm rfl))⟩
end
theorem PT.imp{X:Cx}{e:Expr}{t t':TT}(h:PT X e t)(i:∀a H Q,t' a H Q->t a H Q):PT X e t':=λpins s a H Q I q=>h pins s a H Q I (i a H Q q)
theorem PW.imp{X:Cx}{e:Expr}{t t':TT}(h:PW X e t)(i:∀a H Q,t' a H Q->t a H Q):PW X e t':=λb pins s a H Q I q=>h b pins s a H Q I (i a H Q q)
section
variable{X:Cx}{Γ:lH}{bw:Bool}{a b e:Expr}{ca cb cc c:Ex}{pos:Pos}
theorem DZ{Z:Addr->Prop}{H:Hp}{d:D}{x:V}{t:Bool}{K:PySem.W.Frag}(n:Now Z H d x)(h:jM d=some t):oQ K x H t:=by
 cases d with
 |non=>cases fN n;cases h;rfl
 |bl b=>cases ie n;cases h;rfl
 |int b=>cases aX n;cases h;rfl
 |str b=>
  cases cR n;simp only[jM]at h;split at h
  .rename_i j
   cases h;refine⟨bz j,?_⟩
   have e:((b.length:Int) != 0)=(b.length != 0):=by
    rw[Bool.eq_iff_iff];simp only[bne_iff_ne,ne_eq];omega
   rw[e]
  .cases h
 |lst f=>
  obtain⟨a,c,rfl,g,i⟩:=dg n;cases h;refine .inl ⟨c,nG g,?_⟩;have:=i.length;cases f<;>cases c<;>simp at this ⊢
 |tup f=>
  obtain⟨a,c,rfl,_,g,i⟩:=fO n;cases h;refine .inr (.inl ⟨c,sM g,?_⟩);have:=i.length;cases f<;>cases c<;>simp at this ⊢
 |dct l f=>cases h
 |ref k=>cases h
end
def rj(Z:Addr->Prop)(H:Hp):List D->List V->Prop
 |[],a=>a=[]
 |d::ds,a=>∃v r,a=v::r/\Now Z H d v/\rj Z H ds r
section
variable{Z Z':Addr->Prop}{H H':Hp}
theorem rj.one{d:D}{xs:List V}(h:rj Z H [d] xs):∃x,xs=[x]/\Now Z H d x:=by
 obtain⟨v,r,e,a,b⟩:=h;exact⟨v,by rw[e,show r=[]from b],a⟩
theorem rj.two{d d':D}{xs:List V}(h:rj Z H [d,d'] xs):∃x y,xs=[x,y]/\Now Z H d x/\Now Z H d' y:=by
 obtain⟨v,r,e,a,b,c,f,g,i⟩:=h;exact⟨v,b,by rw[e,f,show c=[]from i],a,g⟩
end
def Args(bw:Bool)(Z:Addr->Prop)(H:Hp)(ds:List D)(vs:List V):Prop:=if bw=true then rj Z H ds vs else aO Z H ds vs
theorem PA.imp{X:Cx}{e:List Expr}{t t':TA}(h:PA X e t)(i:∀a H Q,t' a H Q->t a H Q):PA X e t':=λb pins s a H Q I q=>h b pins s a H Q I (i a H Q q)
section
variable{X:Cx}{Γ:lH}{bw:Bool}{a b e:Expr}{es:List Expr}{ca cb cc c cs:Ex}{pos p:Pos}
theorem wN{Z:Addr->Prop}{H:Hp}{ds:List D}{vs:List V}{i:Int}{d:D}(h:aO Z H ds vs)(e:gN ds i=some d):∃v,gN vs i=some v/\Rep Z H d v:=by
 unfold gN at e ⊢;rw[h.length];cases q:wA ds.length i with
 |none=>rw[q]at e;cases e
 |some j=>
  rw[q]at e;exact h.get e
theorem D_{q r:D}{x y:V}{Z:Addr->Prop}{H:Hp}{e:Bool}{d:D}{Q:VK}{K:PySem.W.Frag}(g:Now Z H q x)(h:Now Z H r y)(c:∀a,Z a->H a≠none)(b:ko q r=.ok (e,d))
  (k:∀v i s,ez Z H s i->dM bw e s H i d v->Q v i):JH K x y H Q:=by
 unfold ko at b;split at b
 .obtain⟨l,j,rfl,m,n⟩:=dg g
  cases aX h;split at b
  .rename_i t f
   cases b;obtain⟨v,o,p⟩:=wN n f;exact .inl ⟨l,j,_,v,rfl,rfl,nG m,o,k v H Z (ez.refl c) (.rep p)⟩
  .cases b
 .obtain⟨l,j,rfl,_,m,n⟩:=fO g
  cases aX h;split at b
  .rename_i t f
   cases b;obtain⟨v,o,p⟩:=wN n f;exact .inr (.inl ⟨l,j,_,v,rfl,rfl,sM m,o,k v H Z (ez.refl c) (.rep p)⟩)
  .cases b
 .cases cR g
  cases aX h;split at b
  .rename_i u
   split at b
   .rename_i w f
    cases b;exact .inr (.inr ⟨_,_,w,rfl,rfl,bz u,f,k _ H Z (ez.refl c) (.rep (fm rfl))⟩)
   .cases b
  .cases b
 .cases b
theorem pe{a:Type}(xs:List a)(b c:Option Int):(cE xs b c).length<=xs.length:=by
 unfold cE;rw[List.length_take,List.length_drop];omega
theorem sP(n d:Nat)(v:Int):max 0 (min (if v<0 then v+(n:Int)else v) (n:Int))=((HT.jh n d (some v):Nat):Int):=by
 show max 0 (min (if v<0 then v+(n:Int)else v) (n:Int))=(((if v<0 then (v+(n:Int)).toNat else min v.toNat n):Nat):Int)
 by_cases a:v<0
 .simp only[if_pos a];omega
 .simp only[if_neg a];omega
theorem wO{a b:Int}{p q:Nat}(d:a=p)(e:b=q):sliceRange a b 1=(List.range (q - p)).map λk=>p+k:=by
 subst d e;unfold sliceRange;simp only[show((1:Int)>0)=True from by simp,if_true]
 by_cases c:(p:Int)<q
 .rw[if_pos c]
  have f:(((q:Int) - p+1 - 1) / 1).toNat=q - p:=by first|omega | (simp;done) | (simp;omega)
  rw[f];refine List.map_congr_left λk _=>?_
  omega
 .rw[if_neg c]
  have:q - p=0:=by omega
  rw[this];rfl
theorem kB(a b:Option Int)(n:Nat):Builtin.Str.strSliceIndices a b 1 n=(List.range (HT.jh n n b - HT.jh n 0 a)).map λk=>HT.jh n 0 a+k:=by
 unfold Builtin.Str.strSliceIndices;simp only[show((1:Int)>0)=True from by simp,if_true]
 refine wO ?_ ?_
 .cases a with
  |none=>rfl
  |some v=>exact sP n 0 v
 .cases b with
  |none=>rfl
  |some v=>exact sP n n v
theorem uR:∀(n a:Nat) (l:List Nat),a+n<=l.length->((List.range n).map λk=>a+k).filterMap (λi=>l[i]?)=(l.drop a).take n:=by
 intro n
 induction n with
 |zero=>intro a l _;simp
 |succ n c=>
  intro a l h;have b:a+n<l.length:=by omega
  rw[List.range_succ,List.map_append,List.filterMap_append,c a l (by omega),List.take_add_one,List.getElem?_drop]
  simp[List.getElem?_eq_getElem b]
theorem wQ(x:Str)(a b:Option Int):(Builtin.Str.strSliceIndices a b 1 x.length).filterMap (x.cps[·]?)=cE x.cps.toList a b:=by
 have c:x.cps.toList.length=x.length:=by simp[Str.length]
 have e:=HT.qY x.length 0 (Nat.zero_le _) a;have f:=HT.qY x.length x.length (Nat.le_refl _) b;rw[kB];unfold cE;rw[c];generalize HT.jh x.length 0 a=p at *;generalize HT.jh x.length x.length b=q at *
 by_cases d:p<=q
 .have:=uR (q - p) p x.cps.toList (by rw[c];omega)
  simpa using this
 .have:q - p=0:=by omega
  rw[this];simp
def GO:V->Option Int->Option Int->Hp->VK->Prop:=λx a b H Q=>∃z,x=.str z/\z.length<=sizeLine/\Q (.str ⟨(cE z.cps.toList a b).toArray⟩) H
theorem kC:DN X GO:=by
 intro pins s G H x v J K a b L Q I j k m n h;obtain⟨z,rfl,M,q⟩:=h;obtain⟨t,rfl⟩:=j;refine⟨"str",_,F.slot_str_getitem.lookup,typeIs_str _ _ _,?_⟩
 have part:∀{w:Value}{o:Option Int},IsPart w o->∃p:Option (Int×Tok),w=partValue p/\p.map (·.1)=o:=λh=>by
  cases h with
  |none=>exact⟨none,rfl,rfl⟩
  |int i t=>exact⟨some (i,t),rfl,rfl⟩
 obtain⟨d,r,m1⟩:=part m;obtain⟨e,y,m2⟩:=part n;subst r y;refine wpAny_getItem_str_slice (l:=d) (u:=e) (st:=none) k rfl ?_
 have A:(slicePicked z d e none).filterMap (z.cps[·]?)=cE z.cps.toList a b:=by
  unfold slicePicked;rw[m1,m2];exact wQ z a b
 have N:(cE z.cps.toList a b).length<=z.length:=by
  have:=pe z.cps.toList a b;simpa[Str.length]using this
 unfold sliceMade;split
 .rename_i g
  have c:(slicePicked z d e none).length=z.length:=by
   simp only[Bool.and_eq_true,beq_iff_eq]at g;exact g.2
  have B:(⟨(cE z.cps.toList a b).toArray⟩:Str)=z:=by
   unfold slicePicked at c;rw[m1,m2]at c;have c:(Builtin.Str.strSliceIndices a b 1 z.length).length=z.length:=c;rw[kB,List.length_map,List.length_range]at c;have O:=HT.qY z.length z.length (Nat.le_refl _) b;have f:z.cps.toList.length=z.length:=by simp[Str.length]
   have C:cE z.cps.toList a b=z.cps.toList:=by
    unfold cE;rw[f]
    by_cases D:z.length=0
    .have:z.cps.toList=[]:=List.eq_nil_of_length_eq_zero (by rw[f];exact D)
     rw[this];simp
    .have E:HT.jh z.length 0 a=0:=by omega
     rw[E,List.drop_zero,List.take_of_length_le (by rw[f];omega)]
   rw[C]
  refine⟨.str z,H,I,⟨t,rfl⟩,?_⟩;rw[B]at q;exact q
 .rw[A]
  refine⟨?_,.str _,H,I.tok _,⟨_,rfl⟩,q⟩
  show(cE z.cps.toList a b).toArray.size<=sizeLine
  rw[List.size_toArray];omega
def GP(K:PySem.W.Frag):V->Option Int->Option Int->Hp->VK->Prop:=λx a b H Q=>GD K x a b H Q\/GO x a b H Q
end
noncomputable def kD(F:List D->Out Rs):Sp:=λg H Q _=>
 ∃Z e b d,(∀a,Z a->H a≠none)/\aO Z H e g/\F e=.ok (b,d)/\∀v c f,ez Z H f c->dM false b f H c d v->Q v c
theorem dM.weak{bw a:Bool}{Z:Addr->Prop}{c H:Hp}{d:D}{v:V}(h:dM false a Z c H d v):dM bw a Z c H d v:=by
 unfold dM at h ⊢;split
 .rename_i b;rw[if_pos b]at h;exact h
 .rename_i b;rw[if_neg b,if_neg Bool.false_ne_true]at h
  split
  .exact h.now
  .exact h
section
variable{X:Cx}{Γ:lH}{bw:Bool}{a b e:Expr}{es:List Expr}{ca cb cc c cs:Ex}{pos p:Pos}
structure GQ(X:Cx)(k:Nat)(x:Str)(F:List D->Out Rs):Prop where
 ex:∃(f:Addr) (fd:FuncData) (ps:List Str),X.mg x=some (.ref f)/\PySem.W.keepIn X.K (.ref f)=true/\Binds X.K fd ps []/\bF X.prog X.w X.K X.mg X.base ek k f fd ps (kD F)
inductive eS (h:Heap):Value->Bool->Prop where
 |non:eS h .none false
 |bl (b:Bool):eS h (.bool b) b
 |int (i:Int) (t:Tok):eS h (.int i t) (i != 0)
 |str (x:Str) (t:Tok):x.length<=sizeLine->eS h (.str x t) ((x.length:Int) != 0)
 |lst {l:Addr}{its:Array Value}:h.IsList l its->its.size<=sizeLine->eS h (.ref l) (!its.isEmpty)
 |tup {l:Addr}{its:Array Value}:IsTup h l its->its.size<=sizeLine->eS h (.ref l) (!its.isEmpty)
theorem eS.keep{h h':Heap}{u:Value}{t:Bool}(k:∀b o,(u=.ref b)->h.get? b=some o->h'.get? b=some o)(x:eS h u t):eS h' u t:=by
 cases x with
 |non=>exact .non
 |bl=>exact .bl _
 |int i t=>exact .int i t
 |str x t z=>exact .str x t z
 |lst q z=>obtain⟨o,a,c⟩:=q;exact .lst ⟨o,k _ o rfl a,c⟩ z
 |tup q z=>obtain⟨o,a,c⟩:=q;exact .tup ⟨o,k _ o rfl a,c⟩ z
theorem eS.run{prog:Program}{w:World}{A:Around}{E:Value->Shared->Prop}{s:Shared}{u:Value}{t:Bool}{Q:Bool->Shared->Prop}(x:eS s.heap u t)(q:∀tk,Q t {s with toks:=tk}):wpAny (model prog w) A (truthy u) Q E s:=by
 have a:=gk;cases x with
 |non=>exact truthy_none (q s.toks)
 |bl=>exact wpAny_truthy_bool (q s.toks)
 |int i t=>exact PySem.P.truthy_int (q s.toks)
 |str x t z=>exact PySem.P.truthy_str (by omega) (q _)
 |lst h z=>exact wpAny_truthy_list h (by omega) (q _)
 |tup h z=>exact truthy_tuple h (by omega) (q _)
theorem wR{pins:List (Addr×Obj)}{w:L2.St}{H:Hp}{s:Shared}{Z:Addr->Prop}{d:D}{v:V}{u:Value}{t:Bool}(I:Inv X pins w H s)(n:Now Z H d v)(r:RelV v u)(h:jM d=some t):eS s.heap u t:=by
 cases d with
 |non=>cases fN n;cases r;cases h;exact .non
 |bl b=>cases ie n;cases r;cases h;exact .bl _
 |int b=>cases aX n;obtain⟨k,rfl⟩:=r;cases h;exact .int _ _
 |str b=>
  cases cR n;obtain⟨k,rfl⟩:=r;simp only[jM]at h;split at h
  .rename_i x
   cases h
   have e:((b.length:Int) != 0)=(b.length != 0):=by
    rw[Bool.eq_iff_iff];simp only[bne_iff_ne,ne_eq];omega
   rw[←e];exact .str b k (bz x)
  .cases h
 |lst f=>
  obtain⟨a,i,rfl,j,l⟩:=dg n;cases r;cases h;obtain⟨c,g,p,m⟩:=I.list (nG (K:=X.K) j)
  have e:(!f.isEmpty)=!c.toArray.isEmpty:=by
   have o:=l.length;have q:=g.length;cases f<;>cases i<;>cases c<;>simp at o q ⊢
  rw[e];exact .lst p.isList (by rw[List.size_toArray,←g.length];exact m)
 |tup f=>
  obtain⟨a,i,rfl,_,j,l⟩:=fO n;cases r;cases h;obtain⟨c,g,p,m⟩:=I.tuple (sM (K:=X.K) j)
  have e:(!f.isEmpty)=!c.toArray.isEmpty:=by
   have o:=l.length;have q:=g.length;cases f<;>cases i<;>cases c<;>simp at o q ⊢
  rw[e];exact .tup p (by rw[List.size_toArray,←g.length];exact m)
 |dct y f=>cases h
 |ref k=>cases h
section
variable{prog:Program}{w:World}{A:Around}{R:Result->Shared->Prop}{J:Addr}{fp wr:List Addr}{n:Nat}{P:Nat->Value->Prop}{T:Nat->Heap->Prop}
theorem wU(W:Walks prog w A.in1 J fp wr n P T)(d:Nat->Bool)(G:Heap->Prop)(y:∀h h':Heap,G h->(∀b o,b∉wr->h.get? b=some o->h'.get? b=some o)->G h')
  (B:∀i v (h:Heap),P i v->G h->eS h v (d i)):∀(m i:Nat) (s:Shared),n - i=m->i<=n->T i s.heap->G s.heap ->
  (∀h' tk,(∀b o,b∉wr->s.heap.get? b=some o->h'.get? b=some o)->R (.ok (.ret (.bool (((List.range n).drop i).all d)))) {s with heap:=h',toks:=tk}) ->
  codeAny (model prog w) A (.builtin "all.loop" ⟨[.ref J],[]⟩) R s:=by
 intro m
 induction m with
 |zero=>
  intro i s C D f g a;obtain rfl:i=n:=by omega
  refine codeAny_builtin PySem.F.entry_all_loop ?_;rw[Around.under_plainId PySem.F.plain_all_loop _];refine wpAny_bind (m:=pyNext (.ref J)) (W.done s _ _ f λh' tk c=>wpAny_bind (wpAny_rule (wpAny_pure ?_)))
  have q:=a h' tk c;rw[List.drop_of_length_le (by simp)]at q
  exact q
 |succ m E=>
  intro i s C D f g a;have j:i<n:=by omega
  have t:(List.range n).drop i=i::(List.range n).drop (i+1):=by
   rw[List.drop_eq_getElem_cons (by simpa using j)];simp
  refine codeAny_builtin PySem.F.entry_all_loop ?_;rw[Around.under_plainId PySem.F.plain_all_loop _];refine wpAny_bind (m:=pyNext (.ref J)) (W.item i s _ _ j f λv h' tk H k c=>?_)
  have u:G h':=y _ _ g c;refine wpAny_bind (wpAny_holding ((B i v h' H u).run (s:={s with heap:=h',toks:=tk}) λl=>?_))
  refine wpAny_bind (wpAny_letGo ?_);cases e:d i with
  |true=>
   simp only[if_true];refine wpAny_pure ⟨plainId_quiet PySem.F.plain_all_loop _,E (i+1) _ (by omega) j k u λI p r=>?_⟩
   have q:=a I p λb o x z=>r b o x (c b o x z)
   rw[t,List.all_cons,e,Bool.true_and]at q;exact q
  |false=>
   simp only[Bool.false_eq_true,if_false];refine wpAny_bind (wpAny_rule (wpAny_pure ?_));have q:=a h' l c;rw[t,List.all_cons,e,Bool.false_and]at q;exact q
end
theorem sQ:∀{ds:List D}{bs:List Bool},ic ds=some bs->bs.length=ds.length
 |[],_,h=>by cases h;rfl
 |d::ds,bs,h=>by
  simp only[ic]at h;split at h
  .rename_i b a h1 h2
   cases h;rw[List.length_cons,List.length_cons,sQ h2]
  .cases h
theorem sR:∀{ds:List D}{bs:List Bool}{i:Nat}{d:D},ic ds=some bs->ds[i]?=some d->∃b,bs[i]?=some b/\jM d=some b
 |[],_,_,_,_,h=>by simp at h
 |d::ds,bs,i,j,h,a=>by
  simp only[ic]at h;split at h
  .rename_i b e h1 h2
   cases h;cases i with
   |zero=>simp at a;subst a;exact⟨b,rfl,h1⟩
   |succ i=>
    obtain⟨c,f,g⟩:=sR (i:=i) h2 (by simpa using a)
    exact⟨c,by simpa using f,g⟩
  .cases h
theorem all_range:∀(bs:List Bool),((List.range bs.length).all λi=>(bs[i]?).getD true)=bs.all id
 |[]=>rfl
 |b::bs=>by
  rw[List.length_cons,List.range_succ_eq_map,List.all_cons,List.all_map,List.all_cons,←all_range bs];rfl
def LJ(K:PySem.W.Frag):List V->Hp->VK->Prop:=λb H Q=>∃Z a bs x,b=[x]/\Now Z H (.lst a) x/\ic a=some bs/\Q (.bl (bs.all id)) H
theorem Ea{pins:List (Addr×Obj)}{j:L2.St}{H:Hp}{s:Shared}{Z:Addr->Prop}{ds:List D}{vs:List V}{a:List Value}{bs:List Bool}(I:Inv X pins j H s)(d:aO Z H ds vs)(e:Vals vs a)(k:ic ds=some bs)(dflt:Bool) :
  ∀(i:Nat) (v:Value),a.toArray[i]?=some v->eS s.heap v ((bs[i]?).getD dflt):=by
 intro i v c;have c:a[i]?=some v:=by simpa using c
 obtain⟨l,m⟩:=List.getElem?_eq_some_iff.mp c;obtain⟨x,n,f⟩:=nJ e l;have r:=d.length;have t:=e.length;have g:ds[i]?=some ds[i]:=by simp[show i<ds.length by omega]
 obtain⟨y,h,o⟩:=d.get g;rw[n]at h;cases h
 obtain⟨b,p,q⟩:=sR k g;rw[p];rw[m]at f;exact wR I o.now f q
theorem wV(t:X.calm=true):ed X (.builtin "all") (LJ X.K):=by
 intro pins s G H J L Q I r h;obtain⟨Z,M,bs,x,rfl,w,j,q⟩:=h;obtain⟨u,rfl,y⟩:=vals1 r;obtain⟨l,N,rfl,B,k⟩:=dg w;cases y;obtain⟨a,n,p,O⟩:=I.list (nG (K:=X.K) B);have c:l<s.heap.objs.size:=by obtain⟨_,e,_⟩:=p.isList;exact Heap.lt_size e
 have C:=Ea I k n j true;refine call_function_tree PySem.F.kind_all PySem.F.plain_all PySem.F.entry_all (PySem.F.args_all1 _) ?_;unfold Builtin.«all»;refine wpAny_bind (m:=oneArg "all" _) (wpAny_pure (wpAny_bind (wpAny_pyIter_list p.isList ?_)))
 refine wpAny_pure ⟨plainId_quiet PySem.F.plain_all_loop _,wU (Walks.list (A:=X.A.in1) (I.ok.hd t) s.heap.objs.size l (Nat.ne_of_lt c) a.toArray) (λi=>(bs[i]?).getD true)
  (λh=>∀b o,b≠s.heap.objs.size->s.heap.get? b=some o->h.get? b=some o) (λh h' g d b o f e=>d b o (by simpa using f) (g b o f e))
  (λi v h D g=>(C i v D).keep λb o e z=>g b o (Nat.ne_of_lt (Heap.lt_size z)) z) _ 0 _ rfl (Nat.zero_le _) ⟨⟨_,Heap.get?_push_size _ rfl,rfl,rfl⟩,p.isList.push _⟩ (λb o f e=>Heap.get?_push_of_some _ e) λh' E d=>?_⟩
 have e:((List.range a.toArray.size).drop 0).all (λi=>(bs[i]?).getD true)=bs.all id:=by
  rw[List.drop_zero,List.size_toArray,←n.length,k.length,←sQ j];exact all_range bs
 rw[e]
 exact⟨.bl _,H,I.kept (h':=h') (t':=E) λb o z=>d b o (by
  have:=Nat.ne_of_lt (Heap.lt_size z);simpa using this) (Heap.get?_push_of_some _ z),rfl,q⟩
end
section
variable{X:Cx}{Γ:lH}{bw:Bool}{a b e:Expr}{es:List Expr}{ca cb cc c cs:Ex}{pos p:Pos}
noncomputable def jn.nm:jn->Str
 |.len=>"len" |.all=>"all" |.any=>"any" |.sorted=>"sorted" |.list=>"list" |.tuple=>"tuple" |.int=>"int" |.min=>"min" |.max=>"max" |.bool=>"bool"
theorem jo{Z:Addr->Prop}{H:Hp}{d:D}{v:V}{Q:VK}(b:∀a,Z a->H a≠none)(k:∀v c e,ez Z H e c->dM bw false e H c d v->Q v c)(h:fk d=some v):Q v H:=
 k _ H Z (ez.refl b) (.rep (fm h))
noncomputable def Ty.nm:Ty->Str
 |.int=>"int" |.str=>"str" |.bool=>"bool" |.list=>"list" |.tuple=>"tuple" |.dict=>"dict"
noncomputable def Ty.id:Ty->String
 |.int=>"int" |.str=>"str" |.bool=>"bool" |.list=>"list" |.tuple=>"tuple" |.dict=>"dict"
theorem sS(t:Ty):bootBuiltins t.nm=some (.type t.id):=by cases t<;>decide +kernel
theorem sT(K:PySem.W.Frag)(t:Ty):PySem.W.kitOne K (.type "NoneType") (.type t.id)=some false/\PySem.W.kitOne K (.type "bool") (.type t.id)=some (t==.bool||t==.int)/\PySem.W.kitOne K (.type "int") (.type t.id)=some (t==.int) /\
  PySem.W.kitOne K (.type "str") (.type t.id)=some (t==.str)/\PySem.W.kitOne K (.type "list") (.type t.id)=some (t==.list)/\PySem.W.kitOne K (.type "tuple") (.type t.id)=some (t==.tuple)/\PySem.W.kitOne K (.type "dict") (.type t.id)=some (t==.dict):=by
 cases t<;>refine⟨?_,?_,?_,?_,?_,?_,?_⟩<;>with_unfolding_all rfl
def Eb(K:PySem.W.Frag):List V->Hp->VK->Prop:=λa H Q=>∃Z d x t b,a=[x,.ty (Ty.id t)]/\Now Z H d x/\oH d t=some b/\Q (.bl b) H
theorem jC{K:PySem.W.Frag}{H:Hp}{a:Addr}{vs:List V}{X:Cx}{pins:List (Addr×Obj)}{c:L2.St}{s:Shared}(I:Inv X pins c H s)(h:Rd H a (.tup vs)):∃o,s.heap.get? a=some o/\o.cls=.type "tuple":=by
 obtain⟨_,b,_,o,d,e,_⟩:vs.length<=sizeLine/\∃b:List Value,Vals vs b/\IsTup s.heap a b.toArray:=Rd.ok h I.hok;exact⟨o,d,e⟩
theorem pf:ed X (.builtin "isinstance") (Eb X.K):=by
 intro pins s y H M N Q I r h;obtain⟨Z,d,x,t,b,rfl,f,i,q⟩:=h;obtain⟨u,A,rfl,j,B⟩:=vals2 r;cases (show A=Value.type (Ty.id t)from B)
 obtain⟨C,D,E,F,n,G,J⟩:=sT X.K t;have e:∀l,EP X pins y Q (.bool b) {s with toks:=l}:=λl=>⟨.bl b,H,I.tok l,rfl,q⟩
 cases d with
 |non=>cases fN f;cases i;exact cJ I j .non C e
 |bl c=>cases ie f;cases i;exact cJ I j (.bl c) D e
 |int c=>cases aX f;cases i;exact cJ I j (.int c) E e
 |str c=>cases cR f;cases i;exact cJ I j (.str c) F e
 |lst m=>
  obtain⟨a,p,rfl,g,w⟩:=dg f;cases i;rcases g with g|⟨o,g⟩
  .exact cJ I j (.lst g) n e
  .exact cJ I j (.cw g) n e
 |tup m=>
  obtain⟨a,p,rfl,_,g,w⟩:=fO f;cases i;cases j;exact PySem.W.kia_one PySem.W.kitx_tuple I.eg (jC (K:=X.K) I g) G (λz=>nomatch z) e
 |dct L m=>
  have f:Rep Z H (.dct L m) x:=f;simp only[Rep]at f;obtain⟨a,p,rfl,_,g,w⟩:=f;cases i;exact cJ I j (.dK g) J e
 |ref k=>cases i
end
abbrev sU(ifs:List Expr)(env:Env):Sem Bool:=forIn ifs true λc r=>if r=true then do let ok ←isTrue c env (eval c env);pure (ForInStep.yield ok)else pure (ForInStep.yield r)
section
variable{prog:Program}{w:World}{A:Around}{R:Result->Shared->Prop}{s:Shared}
theorem uS{elt c iter:Expr}{ifs:List Expr}{scope:Scope}{pos:Pos}{it a:Value}{env:Env}(J:Nat->Shared->Prop)
  (b:∀n s,J n s->wpAny (model prog w) A (pyNext it) (λr s1=>match r with
   |none=>R (.ok .next) s1
   |some v=>wpAny (model prog w) A (letOwnedTupleGo c it v) (λ_ s2=>wpAny (model prog w) A (assign c env v) (λ_ s3=>wpAny (model prog w) A (sU ifs env) (λok s4=>
      if ok=true then wpAny (model prog w) A (eval elt env) (λx s5=>wpAny (model prog w) A (call (.builtin "list.append") [a,x]) (λ_ s6=>∃m,m<n/\J m s6) (λ_ _=>False) s5) (λ_ _=>False) s4
      else ∃m,m<n/\J m s4) (λ_ _=>False) s3) (λ_ _=>False) s2) (λ_ _=>False) s1) (λ_ _=>False) s)
  (n:Nat) (h:J n s):codeAny (model prog w) A (.compLoop (.ListComp elt [⟨c,iter,ifs,0⟩] scope pos) 0 it a env) R s:=by
 refine codeAny_loop rfl J (λn s f=>?_) n h
 refine wpAny_noted (env:=env) (m:=compTurn (.ListComp elt [⟨c,iter,ifs,0⟩] scope pos) 0 it a env) ?_;rw[compTurn_list];refine wpAny_bind (wpAny_standAt (wpAny_bind (wpAny_mono (b n s f) (λr s1 e=>?_) λ_ _ z=>z.elim)))
 cases r with
 |none=>exact wpAny_pure e
 |some v=>
  refine wpAny_bind (wpAny_mono e (λ_ s2 g=>wpAny_bind (wpAny_mono g (λ_ s3 i=>wpAny_bind (wpAny_mono i (λok s4 d=>?_) λ_ _ z=>z.elim)) λ_ _ z=>z.elim)) λ_ _ z=>z.elim)
  cases ok with
  |false=>exact wpAny_pure ⟨rfl,by simpa using d⟩
  |true=>
   rw[if_pos rfl]at d;refine wpAny_bind (wpAny_bind (wpAny_mono d (λx s5 j=>wpAny_bind (wpAny_mono j (λ_ s6 k=>?_) λ_ _ z=>z.elim)) λ_ _ z=>z.elim))
   exact wpAny_pure (wpAny_pure ⟨rfl,k⟩)
end
theorem rk{scope:Scope}{env:Env}(h:∀y∈scope.names,y.2=.free->∃c,env.cells.lookup y.1=some c) :
  ∃cl,closureFor scope env=pure cl/\(∀n c,(n,c)∈cl->env.cells.lookup n=some c)/\∀y∈scope.names,y.2=.free->∃c,(y.1,c)∈cl:=by
 have t:∀(l:List (Str×NameKind)) (b:List (Str×Addr)),(∀y∈l,y.2=.free->∃c,env.cells.lookup y.1=some c)->(∀n c,(n,c)∈b->env.cells.lookup n=some c) ->
   ∃cl,(forIn l b λx r=>match x with | (name,kind)=>if (kind==NameKind.free)=true then do let a ←cellOf env name;pure (ForInStep.yield ((name,a)::r))else pure (ForInStep.yield r):Sem (List (Str×Addr)))=pure cl /\
    (∀n c,(n,c)∈cl->env.cells.lookup n=some c)/\(∀p∈b,p∈cl)/\∀y∈l,y.2=.free->∃c,(y.1,c)∈cl:=by
  intro l
  induction l with
  |nil=>intro b _ j;exact⟨b,rfl,j,λ_ u=>u,λ_ C=>absurd C (by simp)⟩
  |cons y l B=>
   intro b w j;obtain⟨n,k⟩:=y;cases f:(k==NameKind.free)with
   |false=>
    obtain⟨cl,e,g,o,i⟩:=B b (λz hz=>w z (by simp[hz])) j
    refine⟨cl,?_,g,o,λz hz d=>?_⟩
    .rw[List.forIn_cons]
     simp only[f,Bool.false_eq_true,if_false];exact e
    .rcases List.mem_cons.mp hz with rfl|hz
     .have:k=.free:=d
      rw[this]at f;exact absurd f (by decide)
     .exact i z hz d
   |true=>
    have A:k=.free:=by simpa using f
    obtain⟨c,s⟩:=w (n,k) (by simp) A
    obtain⟨cl,e,g,o,i⟩:=B ((n,c)::b) (λz hz=>w z (by simp[hz])) (λD E F=>by
     rcases List.mem_cons.mp F with q|q
     .cases q;exact s
     .exact j D E q)
    refine⟨cl,?_,g,λp u=>o p (by simp[u]),λz hz d=>?_⟩
    .rw[List.forIn_cons]
     simp only[f,if_true]
     have:cellOf env n=pure c:=by
      have s:env.cells.lookup n=some c:=s;unfold cellOf;rw[s]
     rw[this];exact e
    .rcases List.mem_cons.mp hz with rfl|hz
     .exact⟨c,o _ (by simp)⟩
     .exact i z hz d
 obtain⟨cl,e,g,_,i⟩:=t scope.names [] h (λ_ _ z=>absurd z (by simp))
 refine⟨cl,?_,g,i⟩;unfold closureFor;have G:=congrArg (λm:Sem (List (Str×Addr))=>m >>= λr=>pure r) e
 exact G
noncomputable def blk(X:Cx)(scope:Scope)(cl:List (Str×Addr))(C:Addr)(N:List Str)(s₀:Shared)(H₀:Hp)(fp:List Addr):Cx:=
 {X with N:=N,s₀:=s₀,H₀:=H₀,env:=compEnvC scope cl C X.env,outer:=X.stack,stack:=X.stack,ex:=fp,fn:=λ_=>false,pn:=[],xe:=λ_ _=>False}
theorem lookup_mem{a b:Type}[BEq a][LawfulBEq a]:∀{l:List (a×b)}{x:a}{v:b},l.lookup x=some v->(x,v)∈l
 |[],_,_,h=>by simp at h
 | (n,k)::r,x,v,h=>by
  rw[List.lookup_cons]at h;cases e:x==n with
  |true=>rw[e]at h;cases h;rw[eq_of_beq e];simp
  |false=>rw[e]at h;exact List.mem_cons_of_mem _ (lookup_mem h)
theorem mem_lookup{a b:Type}[BEq a][LawfulBEq a]:∀{l:List (a×b)}{x:a}{v:b},(x,v)∈l->∃u,l.lookup x=some u
 |[],_,_,h=>by simp at h
 | (n,k)::r,x,v,h=>by
  rw[List.lookup_cons];cases e:x==n with
  |true=>exact⟨k,rfl⟩
  |false=>
   rcases List.mem_cons.mp h with q|q
   .cases q;simp at e
   .exact mem_lookup q
theorem eB{env:Env}:∀(names:List (Str×NameKind)) (x:Str),(names.map λ(n,k)=>if (k==NameKind.free&&env.scope.kind==.function&&env.kindOf n==some .cell)then (n,NameKind.cell)else (n,k)).lookup x =
  (names.lookup x).map λk=>if (k==NameKind.free&&env.scope.kind==.function&&env.kindOf x==some .cell)then NameKind.cell else k
 |[],_=>rfl
 | (n,k)::r,x=>by
  have c:=eB (env:=env) r x
  show List.lookup x ((if (k==NameKind.free&&env.scope.kind==.function&&env.kindOf n==some .cell)=true then (n,NameKind.cell)else (n,k))::_)=_
  cases b:x==n with
  |true=>
   obtain rfl:x=n:=eq_of_beq b
   by_cases a:(k==NameKind.free&&env.scope.kind==.function&&env.kindOf x==some .cell)=true
   .rw[if_pos a,List.lookup_cons,List.lookup_cons]
    simp only[b,Option.map_some,if_pos a]
   .rw[if_neg a,List.lookup_cons,List.lookup_cons]
    simp only[b,Option.map_some,if_neg a]
  |false=>
   by_cases a:(k==NameKind.free&&env.scope.kind==.function&&env.kindOf n==some .cell)=true
   .rw[if_pos a,List.lookup_cons,List.lookup_cons]
    simp only[b];exact c
   .rw[if_neg a,List.lookup_cons,List.lookup_cons]
    simp only[b];exact c
structure hY(X:Cx)(scope:Scope)(tn cn:List Str)(cap:List Nat):Prop where
 kind:scope.kind=.function
 cell:∀y∈scope.names,y.2≠.cell
 names:∀y∈scope.names,y.2=.local->scope.names.lookup y.1=some .local
 free:∀y∈scope.names,y.2=.free->X.env.kindOf y.1=some .cell\/X.env.kindOf y.1=some .free
 len:cn.length=cap.length
 at':∀(j i:Nat) (x:Str),cn[j]?=some x->cap[j]?=some i->X.N[i]?=some x/\scope.names.lookup x=some .free
noncomputable def ph(cap:List Nat)(a:L2.St):L2.St:=cap.map λi=>(a[i]?).join
def fZ(a:Nat)(cap:List Nat)(b:L2.St):L2.St:=List.replicate a none++ph cap b
section
variable{X:Cx}{scope:Scope}{tn cn:List Str}{cap:List Nat}
theorem uT{pins:List (Addr×Obj)}{j:L2.St}{H:Hp}{s:Shared}{fp:List Addr}{cl:List (Str×Addr)}{F:Heap}{tk:Nat}{m:Str->Option Value}(B:hY X scope tn cn cap)
  (I:Inv X pins j H s) (G:∀b∈fp,mX X pins H b) (L:∀b∈fp,∃o,s.heap.get? b=some o) (c1:∀n c,(n,c)∈cl->X.env.cells.lookup n=some c) (c2:∀y∈scope.names,y.2=.free->∃c,(y.1,c)∈cl)
  (J:∀b o,s.heap.get? b=some o->F.get? b=some o) (r:∃n,F.get? s.heap.objs.size=some {cls:=.type "list",data:=.seq ([]:List Value).toArray n}) (ns:F.Ns (s.heap.objs.size+1) m) :
  Inv (blk X scope cl (s.heap.objs.size+1) (tn++cn) s H fp) [] (fZ tn.length cap j) (upd H s.heap.objs.size (.lst [])) {s with heap:=F,toks:=tk}:=by
 have M:∀b o,s.heap.get? b=some o->b≠s.heap.objs.size+1:=λb o e=>Nat.ne_of_lt (Nat.lt_succ_of_lt (Heap.lt_size e))
 have N:∀b o,s.heap.get? b=some o->b≠s.heap.objs.size:=λb o e=>Nat.ne_of_lt (Heap.lt_size e)
 have cell:∀x c,cl.lookup x=some c->∃v,s.heap.IsCell c v:=λx c e=>I.cell x c (c1 x c (lookup_mem e))
 have O:∀x c,cl.lookup x=some c->c≠s.heap.objs.size+1/\c≠s.heap.objs.size:=λx c e=>by
  obtain⟨v,o,w,_⟩:=cell x c e;exact⟨M c o w,N c o w⟩
 have P:∀b∈fp,b<s.heap.objs.size:=λb g=>let ⟨o,e⟩:=L b g;Heap.lt_size e
 have fr:=I.hok.fresh (Nat.le_refl s.heap.objs.size);obtain⟨nd,r⟩:=r
 refine⟨⟨I.ok.mod,B.kind,I.ok.glob,I.ok.blt,Nat.le_succ _,λx y c A a=>?_,λx f=>?_,λx c e _=>absurd (show false=true from e) Bool.false_ne_true,I.ok.hd,I.ok.frames,.inl rfl,λb g=>⟨?_,λx c e z=>?_⟩,λb o e=>I.bs b o e,Nat.le_trans I.ok.qJ I.sz,λb o e g=>?_,λb g Q=>?_,I.stack,I.jS⟩,
  rfl,I.bare,?_,⟨m,ns,λi x v A a e3=>?_⟩,λx c e=>?_,?_,λx c e=>?_,λp hp=>absurd (show p∈([]:List (Addr×Obj))from hp) (by simp),?_,?_⟩
 .exact I.ok.inj x y c (c1 x c (lookup_mem A)) (c1 y c (lookup_mem a))
 .have f:(relabel scope X.env).names.lookup x=some .cell\/(relabel scope X.env).names.lookup x=some .free:=f
  unfold relabel at f;simp only[eB]at f;cases q:scope.names.lookup x with
  |none=>rw[q]at f;simp at f
  |some k=>
   rw[q]at f;have Z:=lookup_mem q
   have h:k=.free:=by
    by_cases h:k=.free
    .exact h
    .have R:(k==NameKind.free)=false:=by simpa using h
     rw[Option.map_some]at f;simp only[R,Bool.false_and,Bool.false_eq_true,if_false,Option.some.injEq]at f;rcases f with z|z
     .exact absurd z (B.cell _ Z)
     .exact z
   obtain⟨c,S⟩:=c2 _ Z h;exact mem_lookup S
 .exact Nat.ne_of_lt (Nat.lt_succ_of_lt (P b g))
 .exact(G b g).2.2.2.2.1 x c (c1 x c (lookup_mem e)) z
 .rcases(G b g).2.2.2.1 with z|z
  .exact I.ok.lD b o e z
  .exact absurd (Nat.lt_of_lt_of_le (Heap.lt_size (I.ok.bs b o e).1) z) (Nat.lt_irrefl _)
 .rcases List.mem_cons.mp (I.mT b Q)with z|z
  .exact(G b g).2.1 z
  .exact(G b g).2.2.1 z
 .exact Un.laid J (Nat.le_refl _) fr
 .have C:i<tn.length->False:=λD=>by
   have:(fZ tn.length cap j)[i]?=some none:=by
    unfold fZ;rw[List.getElem?_append_left (by simpa using D),List.getElem?_replicate,if_pos D]
   rw[this]at a;cases a
  have D:tn.length<=i:=Nat.le_of_not_lt C;have A:(tn++cn)[i]?=some x:=A;rw[List.getElem?_append_right D]at A
  have d:(ph cap j)[i - tn.length]?=some (some v):=by
   unfold fZ at a;rw[List.getElem?_append_right (by simpa using D)]at a
   simpa using a
  unfold ph at d;rw[List.getElem?_map]at d;cases q:cap[i - tn.length]? with
  |none=>rw[q]at d;cases d
  |some K=>
   rw[q]at d;have a:(j[K]?).join=some v:=by simpa using d
   have e4:j[K]?=some (some v):=by
    cases q2:j[K]? with
    |none=>rw[q2]at a;cases a
    |some z=>rw[q2]at a;cases z with
     |none=>cases a
     |some z=>cases a;rfl
   obtain⟨hN,t⟩:=B.at' _ _ _ A q;have h:=B.free _ (lookup_mem t) rfl;have h:X.env.kindOf x=some .cell\/X.env.kindOf x=some .free:=h
   have E:uB X.env.scope x:=by
    rcases h with z|z
    .exact .inr (.inl z)
    .exact .inr (.inr z)
   obtain⟨m0,a0,T⟩:=I.loc;obtain⟨u,ru,U⟩:=T K x v hN e4 E;refine⟨u,ru,.inr ⟨?_,?_⟩⟩
   .show(relabel scope X.env).names.lookup x=some .cell\/(relabel scope X.env).names.lookup x=some .free
    unfold relabel;simp only[eB,t,Option.map_some];split
    .exact .inl rfl
    .exact .inr rfl
   .have U:∃c,X.env.cells.lookup x=some c/\s.heap.IsCell c (some u):=by
     rcases U with ⟨z,_⟩|⟨_,z⟩
     .rcases h with y|y<;>rw[y]at z<;>cases z
     .exact z
    obtain⟨c,S,V⟩:=U;obtain⟨c',Y⟩:=c2 _ (lookup_mem t) rfl;obtain⟨b0,l⟩:=mem_lookup Y;have:=c1 _ _ (lookup_mem l);rw[S]at this;cases this
    obtain⟨o,w,r⟩:=V;exact⟨c,l,o,J _ _ w,r⟩
 .obtain⟨v,o,w,r⟩:=cell x c e
  exact⟨v,o,J _ _ w,r⟩
 .show upd H s.heap.objs.size (.lst []) (s.heap.objs.size+1)=none
  rw[ai (Nat.succ_ne_self _)];exact I.hok.fresh (Nat.le_succ _)
 .refine⟨?_,λhz=>absurd (show false=true from hz) Bool.false_ne_true⟩
  rw[ai (O x c e).2];exact(I.cD x c (c1 x c (lookup_mem e))).1
 .refine I.hok.laid J (Nat.le_refl _) ⟨Nat.zero_le _,[],nd,.nil,r⟩
 .show(fZ tn.length cap j).length=(tn++cn).length
  unfold fZ ph;rw[List.length_append,List.length_append,List.length_replicate,List.length_map,B.len]
def Aa(X:Cx)(ifs:List Expr)(t:TT):Prop:=∀(pins:List (Addr×Obj)) (s:Shared) (a:L2.St) (H:Hp) (Q:Bool->Hp->Prop),Inv X pins a H s->t a H Q->wpAny (model X.prog X.w) X.A (sU ifs X.env) (TP X pins a Q) X.xe s
theorem Ab:Aa X [] (λ_ H Q=>Q true H):=λpins s a H Q I h=>wpAny_pure ⟨H,I,h⟩
theorem Ac{c:Expr}{t:TT}(h:PT X c t):Aa X [c] t:=λpins s a H Q I q=>wpAny_tests_one (h pins s a H Q I q)
def mq(n:TI)(o:Nat)(cap:List Nat)(g:TG)(p:TT)(te:TE):TE:=λf H Q=>n f H λJ h=>∀D,h D=none->∃W:Nat->Nat->List V->Hp->Prop,(∃m,W 0 m [] (upd h D (.lst []))) /\
 ∀i m a c,W i m a c->c D=some (.lst a)/\((J.stop i c/\Q (.ref D) c)\/(J.go i c/\a.length<sizeLine/\∀x j,J.JF i c x j->g x (fZ o cap f) j λd q=>p d q λb k=>
  if b=true then te d k λy l=>l D=some (.lst a)/\∃e,e<m/\W (i+1) e (a++[y]) (upd l D (.lst (a++[y])))else ∃e,e<m/\W (i+1) e a k))
theorem mr{tg iter elt:Expr}{ifs:List Expr}{pos S:Pos}{wi:TI}{g:TG}{tc:TT}{te:TE}{use:Option (Value->Sem Unit)}{Q':Value->Shared->Prop}{Q:VK}{pins:List (Addr×Obj)}{d:L2.St}{H:Hp}{s:Shared}
  (hc:X.calm=true) (B:hY X scope tn cn cap) (hi:PI X tg iter wi) (hs:∀x,foldedSetIterable iter X.env x=pure x)
  (g0:∀v d H Q,g v d H Q->g v d H λK f=>Q K f/\K.length=d.length/\∀j,tn.length<=j->K[j]?=d[j]?)
  (a:∀cl C k l fp,PG (blk X scope cl C (tn++cn) k l fp) tg g/\Aa (blk X scope cl C (tn++cn) k l fp) ifs tc/\PE (blk X scope cl C (tn++cn) k l fp) elt te)
  (j0:∀(P:Shared) (f:Hp) (C D:Addr) (m:Str->Option Value),Inv X pins d f P->P.heap.Ns C m->f C=none->C≠X.env.locals->X.s₀.heap.objs.size<=C->(∀x c,X.env.cells.lookup x=some c->c≠C)->(∀p∈X.pn++pins,p.1≠C)->Q (.ref D) f ->
   compPost (model X.prog X.w) X.A X.xe use Q' (.ref D) C (.ok .next) P)
  (I:Inv X pins d H s) (h:mq wi tn.length cap g tc te d H Q) :
  wpAny (model X.prog X.w) X.A (comprehension (.ListComp elt [⟨tg,iter,ifs,0⟩] scope pos) scope X.env S (newList []) false (eval iter X.env) use) Q' X.xe s:=by
 have n0:∀y∈scope.names,y.2=.free->∃c,X.env.cells.lookup y.1=some c:=λy hy hk=>I.ok.has y.1 (B.free y hy hk)
 obtain⟨cl,o0,c1,c2⟩:=rk n0;refine wpAny_comprehension_free (use:=use) rfl hs o0 B.kind B.names ?_;refine bM (hi pins s d H _ I h) λv s1 L=>bM L λv0 s2 h2=>?_
 obtain⟨it,fp,M,J,t,e,N,T,U,f2,h⟩:=h2;subst e;have fr:=N.hok.fresh (Nat.le_refl s2.heap.objs.size);obtain⟨W,⟨m0,w0⟩,V⟩:=h s2.heap.objs.size fr;refine wpAny_newObj_type (wpAny_newFunctionEnv B.cell (λy hy=>absurd hy (by simp)) (λL ns sb=>?_) B.kind)
 have p0:(s2.heap.push {cls:=.type "list",dict:=none,data:=.seq ([]:List Value).toArray}).objs.size=s2.heap.objs.size+1:=Heap.size_push _ _;dsimp only at ns sb ⊢;rw[p0]at ns sb ⊢;have kp:∀b o,s2.heap.get? b=some o->L.get? b=some o:=λb o e=>sb.extBut b o (Nat.ne_of_lt (Nat.lt_succ_of_lt (Heap.lt_size e))) (Heap.get?_push_of_some _ (Heap.get?_push_of_some _ e))
 have hD:∃n,L.get? s2.heap.objs.size=some {cls:=.type "list",data:=.seq ([]:List Value).toArray n}:=⟨0,sb.extBut _ _ (Nat.ne_of_lt (Nat.lt_succ_self _)) (Heap.get?_push_of_some _ (Heap.get?_push_size _ rfl))⟩;have Y:∀b∈fp,∃o,s2.heap.get? b=some o:=λb a=>let ⟨o,e,_⟩:=T.obj 0 _ U b a;⟨o,e⟩
 have I4:Inv (blk X scope cl (s2.heap.objs.size+1) (tn++cn) s2 t fp) [] (fZ tn.length cap d) (upd t s2.heap.objs.size (.lst [])) {s2 with heap:=L,toks:=s2.toks+([]:List (Str×Value)).length}:=
  uT B N f2 Y c1 c2 kp hD ns
 obtain⟨hg,ht,he⟩:=a cl (s2.heap.objs.size+1) s2 t fp;have Z:M 0 L:=T.keep 0 _ _ U λb a o e=>kp b o e
 have q0:∀b∈fp,upd t s2.heap.objs.size (.lst []) b=none:=λb a=>by
  obtain⟨o,e⟩:=Y b a;rw[ai (Nat.ne_of_lt (Heap.lt_size e))];exact(f2 b a).1
 have E:∀{f:Hp}{pl:List (Addr×Obj)},(∀b∈fp,f b=none)->∀b∈fp,mX (blk X scope cl (s2.heap.objs.size+1) (tn++cn) s2 t fp) [] f b:=λhn b a=>
  ⟨hn b a,(I4.ok.zD b a).1,I4.ok.lE b a,.inl a,(I4.ok.zD b a).2,λp hp=>absurd (show p∈([]:List (Addr×Obj))from hp) (by simp)⟩
 have G:codeAny (model X.prog X.w) X.A (.compLoop (.ListComp elt [⟨tg,iter,ifs,0⟩] scope pos) 0 (.ref it) (.ref s2.heap.objs.size) (compEnvC scope cl (s2.heap.objs.size+1) X.env))
   (compPost (model X.prog X.w) X.A X.xe use Q' (.ref s2.heap.objs.size) (s2.heap.objs.size+1)) {s2 with heap:=L,toks:=s2.toks+([]:List (Str×Value)).length}:=by
  refine uS (λn P=>∃i O f,Inv (blk X scope cl (s2.heap.objs.size+1) (tn++cn) s2 t fp) [] (fZ tn.length cap d) f P/\M i P.heap/\(∀b∈fp,f b=none)/\W i n O f) ?_ m0 ⟨0,[],_,I4,Z,q0,w0⟩
  rintro n s5 ⟨i,O,H5,I5,a0,b0,w5⟩;obtain⟨x0,r0⟩:=V i n O H5 w5;rcases r0 with ⟨stop,qn⟩|⟨go,c0,step⟩
  .refine bM (T.done (blk X scope cl (s2.heap.objs.size+1) (tn++cn) s2 t fp) rfl rfl rfl hc i [] s5 _ H5 _ I5 (E (pl:=[]) b0) a0 stop) λr s6 ⟨hr,R⟩=>?_
   subst hr;obtain⟨mC,nC,_⟩:=R.loc
   have I7:Inv X pins d H5 s6:=by
    refine N.call' R.os R.base R.hok R.bare λb a=>?_
    obtain⟨f0,f1,f3,f4,f5,f6⟩:=f2 b a;exact⟨f4,f1,f5,f6⟩
   have hC:s2.heap.objs.size<=s2.heap.objs.size+1:=Nat.le_succ _;refine j0 s6 H5 (s2.heap.objs.size+1) s2.heap.objs.size mC I7 nC R.free (Nat.ne_of_gt (Nat.lt_of_lt_of_le N.lt hC)) (Nat.le_trans N.sz hC) (λx c e z=>?_) (λp hp z=>?_) qn
   .obtain⟨v,q⟩:=N.cell x c e
    exact absurd (Nat.lt_of_lt_of_le q.lt (by rw[z];exact hC)) (Nat.lt_irrefl _)
   .exact absurd (Nat.lt_of_lt_of_le (Heap.lt_size (N.pin p hp).1) (by rw[z];exact hC)) (Nat.lt_irrefl _)
  .refine bM (T.item (blk X scope cl (s2.heap.objs.size+1) (tn++cn) s2 t fp) rfl rfl rfl hc i [] s5 _ H5 _ I5 (E (pl:=[]) b0) a0 go) λr s6 ⟨u,hr,h6⟩=>?_
   subst hr;refine bM h6 λ_ s7 ⟨x,H7,I7,r7,y7,LK,QI⟩=>?_
   have s0:=I7.pinned (E (pl:=[]) QI) (T.obj _ _ LK);refine bM (hg _ s7 _ H7 x u _ s0 r7 (g0 _ _ _ _ (step x H7 y7))) λ_ s8 ⟨F,H8,I8,q8,l8,k8⟩=>?_
   refine bM (ht _ s8 F H8 _ I8 q8) λok s9 ⟨H9,I9,q9⟩=>?_
   have again:∀{sA:Shared}{HA:Hp},Inv (blk X scope cl (s2.heap.objs.size+1) (tn++cn) s2 t fp) ([]++kg fp s7.heap) F HA sA->Inv (blk X scope cl (s2.heap.objs.size+1) (tn++cn) s2 t fp) [] (fZ tn.length cap d) HA sA/\M (i+1) sA.heap/\∀b∈fp,HA b=none:=λ{sA HA} IA=>by
    refine⟨(IA.ix (pins:=[])).weak l8.symm λj v hj=>?_,T.keep _ _ _ LK λb a o e=>(IA.pin (b,o) (List.mem_append_right _ (List.mem_append_right _ (fL a e)))).1,λb a=>?_⟩
    .have u0:tn.length<=j:=by
      refine Nat.le_of_not_lt λe0=>?_
      have:(fZ tn.length cap d)[j]?=some none:=by
       unfold fZ;rw[List.getElem?_append_left (by simpa using e0),List.getElem?_replicate,if_pos e0]
      rw[this]at hj;cases hj
     rw[k8 j u0];exact hj
    .obtain⟨o,e,_⟩:=T.obj _ _ LK b a
     exact(IA.pin (b,o) (List.mem_append_right _ (List.mem_append_right _ (fL a e)))).2.1
   cases ok with
   |false=>
    rw[if_neg Bool.false_ne_true]at q9 ⊢;obtain⟨m',hm,w'⟩:=q9;obtain⟨a1,a2,a3⟩:=again I9;exact⟨m',hm,i+1,O,H9,a1,a2,a3,w'⟩
   |true=>
    rw[if_pos rfl]at q9 ⊢;refine bM (he _ s9 F H9 _ I9 q9) λy sB ⟨v,HB,IB,rB,QJ,m',hm,w'⟩=>?_
    have hx:=mf (X:=blk X scope cl (s2.heap.objs.size+1) (tn++cn) s2 t fp) _ sB F HB (.ref s2.heap.objs.size) [v] (.ref s2.heap.objs.size) [y] (λ_ f=>f=upd HB s2.heap.objs.size (.lst (O++[v]))) IB rfl (.cons rB .nil)
     ⟨s2.heap.objs.size,O,v,rfl,rfl,QJ,c0,rfl⟩
    refine bM hx λ_ sC ⟨_,HC,IC,_,eC⟩=>?_
    subst eC;obtain⟨a1,a2,a3⟩:=again IC;exact⟨m',hm,i+1,O++[v],_,a1,a2,a3,w'⟩
 exact codeAny_compStart_list G (T.self X.A 0 _ _ _ Z G)
theorem sV{i iter elt:Expr}{ifs:List Expr}{pos:Pos}{n:TI}{g:TG}{p:TT}{te:TE}(r:X.calm=true)(B:hY X scope tn cn cap)(t:PI X i iter n)(u:∀x,foldedSetIterable iter X.env x=pure x)
  (k:∀v f H Q,g v f H Q->g v f H λd l=>Q d l/\d.length=f.length/\∀j,tn.length<=j->d[j]?=f[j]?)
  (w:∀cl C a c fp,PG (blk X scope cl C (tn++cn) a c fp) i g/\Aa (blk X scope cl C (tn++cn) a c fp) ifs p/\PE (blk X scope cl C (tn++cn) a c fp) elt te) :
  PE X (.ListComp elt [⟨i,iter,ifs,0⟩] scope pos) (mq n tn.length cap g p te):=by
 intro pins s f H Q I h;rw[eval_ListComp];refine mr (use:=none) r B t u k w (λy l C D m z A E F G J K q=>⟨m,A,λN L=>?_⟩) I h
 exact⟨.ref D,l,z.turned (it:=C) (t':=y.toks) (λb o M e=>L.extBut b o M e) E F (.inr G) J K,rfl,q⟩
theorem rm{n iter elt:Expr}{ifs:List Expr}{pos c k:Pos}{K:TI}{g:TG}{L:TT}{te:TE}{i:Nat}{x:Str}(S:X.N.Nodup)(r:X.N[i]?=some x)(M:X.env.scope.names.lookup x=some .local)
  (t:swapsWith (.ListComp elt [⟨n,iter,ifs,0⟩] scope pos) (some (.Name x c)) k.line X.env=pure true) (T:X.calm=true) (B:hY X scope tn cn cap) (U:PI X n iter K) (V:∀x,foldedSetIterable iter X.env x=pure x)
  (u:∀v p H Q,g v p H Q->g v p H λl y=>Q l y/\l.length=p.length/\∀j,tn.length<=j->l[j]?=p[j]?)
  (Y:∀cl C d f fp,PG (blk X scope cl C (tn++cn) d f fp) n g/\Aa (blk X scope cl C (tn++cn) d f fp) ifs L/\PE (blk X scope cl C (tn++cn) d f fp) elt te) :
  PS X (.Assign [.Name x c] (.ListComp elt [⟨n,iter,ifs,0⟩] scope pos) k) (Dw (mq K tn.length cap g L te) (hU i)):=by
 intro pins s p H D I h;rw[exec_Assign_Name_used _ _ _ _ t];refine wpAny_bind (wpAny_standAt (wpAny_bind ?_));refine wpAny_bind (m:=comprehension (.ListComp elt [⟨n,iter,ifs,0⟩] scope pos) scope X.env _ (newList []) false (eval iter X.env) (some (assign (.Name x c) X.env))) ?_;refine mr (use:=some (assign (.Name x c) X.env)) (Q':=λ_ E=>wpAny (model X.prog X.w) X.A (pure ()) (λ_ F=>wpAny (model X.prog X.w) X.A (pure Flow.next) (SP X pins D) X.xe F) X.xe E) T B U V u Y (λE y C O m Z ns h1 P h3 R h5 q=>?_) I h
 show wpAny (model X.prog X.w) X.A (assign (.Name x c) X.env (.ref O)) _ _ E
 refine wpAny_assign_Name (lT Z S r (.inl M) (v:=.ref O) rfl (λs2 I2 ch=>?_) (.inr M))
 obtain⟨a,sb,ha⟩:=ch
 have G:C≠a:=by
  rcases ha with rfl|ha
  .exact P
  .exact λz=>R _ _ ha z.symm
 refine⟨m,ns.sameBut sb G,λh' J=>wpAny_pure (wpAny_pure ?_)⟩
 exact⟨_,y,I2.turned (it:=C) (t':=s2.toks) (λb o nb e=>J.extBut b o nb e) h1 P (.inr h3) R h5,q⟩
end
theorem PI.imp{X:Cx}{b e:Expr}{t t':TI}(h:PI X b e t)(i:∀a H R,t' a H R->t a H R):PI X b e t':=λpins s a H R I q=>h pins s a H R I (i a H R q)
section
variable{Z:Addr->Prop}{H:Hp}
theorem kE:∀(n:Nat) (a:Int),(intsFrom a n).length=n
 |0,_=>rfl
 |n+1,a=>by rw[intsFrom,List.length_cons,kE n]
theorem ints_get:∀(n:Nat) (a:Int) (i:Nat) (d:D),(intsFrom a n)[i]?=some d->d=.int (a+i)
 |0,_,_,_,h=>by simp[intsFrom]at h
 |n+1,a,0,d,h=>by simp[intsFrom]at h;subst h;simp
 |n+1,a,i+1,d,h=>by
  simp only[intsFrom,List.getElem?_cons_succ]at h;rw[ints_get n (a+1) i d h]
  congr 1
  omega
noncomputable def Pd(x:Str):It:=⟨λi _=>i<x.cps.size,λi H v a=>a=H/\∃c,x.cps[i]?=some c/\v=.str ⟨#[c]⟩,λi _=>x.cps.size<=i⟩
end
theorem wW{P:Program}{w:World}{K:PySem.W.Frag}{U:Expr}(it:Addr)(x:Str)(t:Tok)(j:String)(f:j="str_ascii_iterator"\/j="str_iterator"):Turn P w K U (Pd x) [it] it (λi h=>h.IsStrIter it j x t i) where
 mem:=by simp
 obj:=λi h a b g=>by
  obtain rfl:b=it:=by simpa using g
  obtain⟨o,e,c,d⟩:=a;exact⟨o,e,λv z=>by rw[d]at z;cases z⟩
 keep:=λi h l a k=>let ⟨o,e,r⟩:=a;⟨o,k it (by simp) o e,r⟩
 item:=by
  intro X J L M m i pins s R H E I y a N;subst J L M;obtain⟨B,C,V,D,F,G⟩:=y it (by simp)
  have W:Walks X.prog X.w X.A it [it] [it] x.cps.size (SignAt x) (λi h=>h.IsStrIter it j x t i):=by
   rcases f with rfl|rfl
   .exact Walks.strAscii (I.ok.hd m) it x t
   .exact Walks.strWide (I.ok.hd m) it x t
  refine W.item i s _ _ N a λv l S Y p Z=>?_
  obtain⟨c,u,hx,rfl⟩:=Y;have I1:Inv X pins R H {s with heap:=l,toks:=S}:=I.turned (λb o g e=>Z b o (by simpa using g) e) B C D F G
  obtain⟨o,e,q,d⟩:=id p;refine⟨_,rfl,lU (s:={s with heap:=l,toks:=S}) (n:=j) e q d (by rcases f with rfl|rfl<;>decide) ⟨.str ⟨#[c]⟩,H,I1,⟨u,rfl⟩,⟨rfl,c,hx,rfl⟩,p,λb g=>(y b g).1⟩⟩
 done:=by
  intro X J L M m i pins s R H E I y a N;subst J L M;obtain⟨B,C,V,D,F,G⟩:=y it (by simp)
  have T:x.cps.size<=i:=N;rcases f with rfl|rfl
  .exact wpAny_pyNext_ascii_end (I.ok.hd m) a (by simp[T]) λl O=>⟨rfl,I.turned (t':=s.toks) (λb o g e=>O b o g e) B C D F G⟩
  .exact wpAny_pyNext_wide_end (I.ok.hd m) a (by simp[T]) λl O=>⟨rfl,I.turned (t':=s.toks) (λb o g e=>O b o g e) B C D F G⟩
 self:=λA i s Q E a h=>by
  rcases f with rfl|rfl
  .exact wpAny_pyIter_striter_ascii a h
  .exact wpAny_pyIter_striter_wide a h
section
variable{X:Cx}{Γ:lH}{bw:Bool}{tg e:Expr}{c cs:Ex}{pos p:Pos}
end
section
variable{X:Cx}{Γ:lH}{bw:Bool}{tg iter elt:Expr}{ifs:List Expr}{scope:Scope}{tn cn:List Str}{cap:List Nat}{QK cc SW:Ex}{pos:Pos}{n:Nat}
theorem jD(n:Nat)(d:0<n):∀v b H Q,hU 0 v b H Q->hU 0 v b H λa c=>Q a c/\a.length=b.length/\∀j,n<=j->a[j]?=b[j]?:=λv b H Q h=>⟨h,by simp,λj e=>by
 rw[List.getElem?_set_ne];omega⟩
end
theorem PS.imp{X:Cx}{st:Stmt}{t t':TS}(h:PS X st t)(i:∀D a H,t' D a H->t D a H):PS X st t':=λpins s a H D I q=>h pins s a H D I (i D a H q)
theorem iv.imp{X:Cx}{st:List Stmt}{t t':TS}(h:iv X st t)(i:∀D a H,t' D a H->t D a H):iv X st t':=λpins s a H D I q=>h pins s a H D I (i D a H q)
section
variable{X:Cx}{Γ:lH}{e:Expr}{c:Ex}{st:Stmt}{rest:List Stmt}{a b:Pe}{pos pos':Pos}
end
section
variable{Z0 Z1 Z:Addr->Prop}{H0 H1 H:Hp}{ρ:zW}{σ:L2.St}
end
section
variable{X:Cx}{Γ:lH}{tg e:Expr}{c:Ex}{b:Pe}{tb:List Stmt}{pos pos':Pos}
def dz:List Nat->zt
 |[]=>Gj
 |i::a=>Cv (hU i) (dz a)
theorem jq{nms:List (Str×Pos)}(b:X.N.Nodup):∀(a:List Nat) (nms:List (Str×Pos)),a.length=nms.length->(∀(j i:Nat) (x:Str×Pos),a[j]?=some i->nms[j]?=some x->X.N[i]?=some x.1/\Loc X.env.scope x.1/\(X.fn x.1=true\/X.env.scope.names.lookup x.1=some .local)) ->
  FJ X (nms.map λx=>Expr.Name x.1 x.2) (dz a)
 |[],[],_,_=>sv
 |[],_::_,h,_=>by cases h
 |_::_,[],h,_=>by cases h
 |i::a,(x,c)::nms,d,h=>by
  obtain⟨h1,h2,e⟩:=h 0 i (x,c) rfl rfl;exact kf (gK b h1 h2 e) (jq (nms:=nms) b a nms (by simpa using d) λj i x f g=>h (j+1) i x (by simpa using f) (by simpa using g))
end
section
variable{X:Cx}{Γ:lH}{e o:Expr}{c:Ex}{i j:Nat}{x y:Str}{p0 p1 p2 p3 p4 p5 pos:Pos}
end
theorem sW:∀{ds:List D}{xs:List Str}{Z:Addr->Prop}{H:Hp}{vs:List V}{us:List Value},hV ds=some xs->aO Z H ds vs->Vals vs us->StrsAre us xs
 |[],xs,Z,H,vs,us,h,r,q=>by
  cases h;rw[r.nil_inv]at q;cases q;exact .nil
 |d::ds,xs,Z,H,vs,us,h,r,q=>by
  obtain⟨v,rs,rfl,a,b⟩:=r.cons_inv;cases d with
  |str x=>
   simp only[hV]at h;obtain⟨g,c,rfl⟩:=Option.map_eq_some_iff.mp h;simp only[Rep]at a;subst a;cases q with
   |cons e f=>
    obtain⟨t,rfl⟩:=e;exact .cons x t (sW c b f)
  |_=>cases h
def rJoin:V->List V->Hp->VK->Prop:=λx c H Q=>∃z Z b a y,x=.str z/\c=[y]/\Now Z H (.lst b) y/\hV b=some a/\z.length<=16/\(a.map (·.length)).sum+a.length<=1048576/\Q (.str (Txt.join z a)) H
theorem Ae{X:Cx}:DO X "str.join" rJoin:=by
 intro pins s r H x w v A Q I b c h;obtain⟨z,Z,B,C,y,rfl,rfl,n,d,e,f,q⟩:=h;obtain⟨t,rfl⟩:=b;obtain⟨l,D,rfl,g,i⟩:=dg n;obtain⟨u,rfl,j⟩:=c.one;cases j;obtain⟨m,a,o,E⟩:=I.list (nG (K:=X.K) g);exact join_listW o.isList (by simpa using sW d i a) e f λp k=>⟨.str _,H,I.tok _,⟨p,rfl⟩,q⟩
section
variable{X:Cx}{Γ:lH}{bw:Bool}{a b:Expr}{rest:List Expr}{ca cb:Ex}{pos:Pos}
theorem Af{i tb:TE}(j:PE X a i)(k:PE X (.BoolOp .And (b::rest) pos) tb):PE X (.BoolOp .And (a::b::rest) pos) (λe H Q=>i e H λx f=>∃c,oQ X.K x f c/\if c=true then tb e f Q else Q x f):=by
 intro pins s e H Q I h;refine BoolOp_and (bM (j pins s e H _ I h) λv l ⟨x,f,I1,r1,c,t1,q1⟩=>?_)
 refine bM (mZ pins l e f x v (λd g=>d=c/\g=f) I1 r1 ⟨c,t1,rfl,rfl⟩) λd m ⟨g,I2,e1,e2⟩=>?_
 subst e1 e2;cases d with
 |true=>exact k pins m e g Q I2 q1
 |false=>exact⟨x,g,I2,r1,q1⟩
theorem Ec{i tb:TE}(j:PE X a i)(k:PE X (.BoolOp .Or (b::rest) pos) tb):PE X (.BoolOp .Or (a::b::rest) pos) (λe H Q=>i e H λx f=>∃c,oQ X.K x f c/\if c=true then Q x f else tb e f Q):=by
 intro pins s e H Q I h;refine BoolOp_or (bM (j pins s e H _ I h) λv l ⟨x,f,I1,r1,c,t1,q1⟩=>?_)
 refine bM (mZ pins l e f x v (λd g=>d=c/\g=f) I1 r1 ⟨c,t1,rfl,rfl⟩) λd m ⟨g,I2,e1,e2⟩=>?_
 subst e1 e2;cases d with
 |false=>exact k pins m e g Q I2 q1
 |true=>exact⟨x,g,I2,r1,q1⟩
theorem Ag{g:TE}(i:PE X a g):PE X (.UnaryOp .Not a pos) (λe H Q=>g e H λx b=>∃c,oQ X.K x b c/\Q (.bl (!c)) b):=by
 intro pins s e H Q I h;refine UnaryOp_ (bM (i pins s e H _ I h) λv j ⟨x,b,I1,r1,c,t1,q1⟩=>?_)
 refine not_of (bM (mZ pins j e b x v (λd f=>d=c/\f=b) I1 r1 ⟨c,t1,rfl,rfl⟩) λd k ⟨f,I2,e1,e2⟩=>?_)
 subst e1 e2;exact⟨.bl (!d),f,I2,rfl,q1⟩
theorem dM.nw{a:Bool}{Z:Addr->Prop}{b H:Hp}{d:D}{v:V}(h:dM bw a Z b H d v):Now Z H d v:=by
 cases bw with
 |true=>exact h.now
 |false=>exact(h.weak (bw:=true)).now
end
noncomputable def GR(a:Scope)(x:Str):Bool:=match a.names.lookup x with
 |some .local|some .cell|some .free=>true
 |_=>false
noncomputable def uU(a:Scope)(x:Str):Bool:=match a.names.lookup x with
 |some .local|some .cell=>true
 |_=>false
noncomputable def Ah(a:Scope)(x:Str):Bool:=a.names.lookup x==some .globalImplicit
noncomputable def okN(x:Str):Bool := !(x==("__debug__":Str))&&!(x==("__classdict__":Str))&&!(x==("__name__":Str))
noncomputable def Ai(N:List Str)(x:Str):Option Nat:=N.findIdx? (· == x)
def mu(a:Scope)(N:List Str)(x:Str):Option Nat:=if GR a x&&okN x then Ai N x else none
def wX(x:Str):Option Ty:=[Ty.int,.str,.bool,.list,.tuple,.dict].find? (λt=>t.nm==x)
noncomputable def isStar:Expr->Bool
 |.Starred _ _=>true
 |_=>false
noncomputable def isSlice:Expr->Bool
 |.Slice _ _ _ _=>true
 |_=>false
noncomputable def isSet:Expr->Bool
 |.Set _ _ _=>true
 |_=>false
noncomputable def ig(scope a:Scope):Scope:={scope with names:=scope.names.map λ(n,k)=>if (k==.free&&a.kind==.function&&a.names.lookup n==some .cell)then (n,.cell)else (n,k)}
noncomputable def bp(scope:Scope):List Str:=(scope.names.filter λy=>y.2==.free).map (·.1)
def kF(a:Scope)(N:List Str):List Str->Option (List Nat)
 |[]=>some []
 |x::xs=>do let i ←mu a N x;let b ←kF a N xs;some (i::b)
def rn(scope:Scope)(sc:Scope)(x:Str):Bool:=
 scope.kind==.function&&scope.names.all (λy=>!(y.2==.cell))&&scope.names.all (λy=>!(y.2==.local)||scope.names.lookup y.1==some .local) &&
 scope.names.all (λy=>!(y.2==.free)||(sc.names.lookup y.1==some .cell||sc.names.lookup y.1==some .free)&&scope.names.lookup y.1==some .free) &&
 scope.names.lookup x==some .local&&decide ((x::bp scope).Nodup)
noncomputable def iK:List Comprehension->Option (Str×Pos×Expr×List Expr)
 |[⟨.Name x p,iter,ifs,0⟩]=>some (x,p,iter,ifs)
 |_=>none
theorem mw{a:List Comprehension}{x:Str}{p:Pos}{iter:Expr}{ifs:List Expr}(h:iK a=some (x,p,iter,ifs)):a=[⟨.Name x p,iter,ifs,0⟩]:=by
 unfold iK at h;split at h
 .cases h;rfl
 .cases h
theorem wY{N:List Str}{x:Str}{i:Nat}(h:Ai N x=some i):N[i]?=some x:=by
 unfold Ai at h;obtain⟨a,b,_⟩:=List.findIdx?_eq_some_iff_getElem.mp h;rw[List.getElem?_eq_getElem a,eq_of_beq b]
theorem sX{c:Scope}{N:List Str}{x:Str}{i:Nat}(h:mu c N x=some i):N[i]?=some x/\uB c x/\(x==("__debug__":Str))=false/\(x==("__classdict__":Str))=false:=by
 unfold mu at h;split at h
 .rename_i a
  simp only[Bool.and_eq_true,okN,Bool.not_eq_true']at a;refine⟨wY h,?_,a.2.1.1,a.2.1.2⟩;have b:=a.1;unfold GR at b;unfold uB;split at b
  .rename_i q;exact .inl q
  .rename_i q;exact .inr (.inl q)
  .rename_i q;exact .inr (.inr q)
  .cases b
 .cases h
theorem sY{x:Str}(h:okN x=true):(x==("__debug__":Str))=false/\(x==("__classdict__":Str))=false/\x≠"__name__":=by
 simp only[okN,Bool.and_eq_true,Bool.not_eq_true']at h;refine⟨h.1.1,h.1.2,λe=>?_⟩
 rw[e]at h;simp at h
noncomputable def dN:List Str:=["len","all","any","list","tuple","int","min","max","bool","isinstance","str","dict","range","sorted","enumerate","reversed","set"]
theorem bj{e:Expr}{es:List Expr}{env:Env}(h:isStar e=false):starEach (e::es) env=(false,eval e env)::starEach es env:=by
 cases e<;>first|rfl | (cases h)
theorem bR{env:Env}{pos:Pos}:∀{es:List Expr},(∀e∈es,isStar e=false)->(backTo pos (starEach es env)).any (·.1)=false
 |[],_=>rfl
 |e::es,h=>by
  rw[bj (h e (by simp))]
  show(false||(backTo pos (starEach es env)).any (·.1))=false
  rw[bR λz hz=>h z (by simp[hz])]
  rfl
section
variable{X:Cx}{Γ:lH}{T:Tab}{k:Nat}{sc:Scope}{N:List Str}
theorem GS{x:Str}{t:Ty}(h:wX x=some t):x=t.nm/\t.nm∈dN:=by
 unfold wX at h;have a:=List.find?_some h;exact⟨(eq_of_beq a).symm,by cases t<;>decide⟩
end
section
variable{X:Cx}{Γ:lH}{T:Tab}{k:Nat}{sc:Scope}{N:List Str}
theorem wZ{d:Scope}{N:List Str}:∀{xs:List Str}{a:List Nat},kF d N xs=some a->xs.length=a.length/\∀(j i:Nat) (x:Str),xs[j]?=some x->a[j]?=some i->N[i]?=some x
 |[],a,h=>by cases h;exact⟨rfl,λj i x e=>by simp at e⟩
 |x::xs,a,h=>by
  simp only[kF,Option.bind_eq_bind]at h;obtain⟨i,h1,h⟩:=Option.bind_eq_some_iff.mp h;obtain⟨f,g,h⟩:=Option.bind_eq_some_iff.mp h;cases h;obtain⟨k,l⟩:=wZ g;refine⟨by rw[List.length_cons,List.length_cons,k],λj m y b c=>?_⟩
  cases j with
  |zero=>simp at b c;subst b c;exact(sX h1).1
  |succ j=>exact l j m y (by simpa using b) (by simpa using c)
theorem iL{iter:Expr}{env:Env}(h:isSet iter=false):∀x,foldedSetIterable iter env x=pure x:=by
 intro x;cases iter<;>first|rfl | (simp[isSet]at h)
theorem pj{op:CmpOp}{b:Expr}(h:isSet b=false):behindInMarks op b=false:=by
 cases b<;>first|rfl | (simp[isSet]at h)
end
def pk(a:Scope)(N:List Str)(x:Str):Option Nat:=if uU a x&&okN x then Ai N x else none
noncomputable def ij:Expr->Bool
 |.ListComp .. |.SetComp .. |.DictComp ..=>true
 |_=>false
noncomputable def pq(a:Scope)(x:Str)(b:Pos)(e:Expr):Bool:=match e with
 |.ListComp _ _ s _=>a.names.lookup x==some .local&&b.line==e.pos.line&&!(s.names.any λ(n,k)=>n==x&&(k==.local||k==.cell))
 |_=>false
noncomputable def fu:List Expr->Option (List (Str×Pos))
 |[]=>some []
 |.Name x p::r=>(fu r).map ((x,p):: ·)
 |_=>none
def jr(a:Scope)(N:List Str):List (Str×Pos)->Option (List Nat)
 |[]=>some []
 |x::xs=>do let i ←pk a N x.1;let b ←jr a N xs;some (i::b)
noncomputable def w_:Expr->Bool
 |.Call .. |.Name .. |.Subscript ..=>true
 |_=>false
section
variable{X:Cx}{Γ:lH}{T:Tab}{k:Nat}{sc:Scope}{N:List Str}
theorem gw:∀{es:List Expr}{nms:List (Str×Pos)},fu es=some nms->es=nms.map λx=>Expr.Name x.1 x.2
 |[],_,h=>by cases h;rfl
 |e::es,nms,h=>by
  unfold fu at h;split at h
  .rename_i e;cases e
  .rename_i x p r q
   cases q;obtain⟨ns,h1,h⟩:=Option.map_eq_some_iff.mp h;subst h;rw[gw h1];rfl
  .cases h
theorem js(env:Env):∀(nms:List (Str×Pos)),(assignEach (nms.map λx=>Expr.Name x.1 x.2) env).length=nms.length/\(assignEach (nms.map λx=>Expr.Name x.1 x.2) env).findIdx? (·.1)=none
 |[]=>⟨rfl,rfl⟩
 |x::r=>by
  obtain⟨h1,h2⟩:=js env r;refine⟨?_,?_⟩
  .show(assignEach (r.map λx=>Expr.Name x.1 x.2) env).length+1=_
   rw[h1];rfl
  .show List.findIdx? (·.1) ((false,_)::assignEach (r.map λx=>Expr.Name x.1 x.2) env)=none
   rw[List.findIdx?_cons,h2];rfl
end
def bK(N ps:List Str)(a:Scope):Bool:=
 a.kind==.function&&!a.isCoroutine&&!a.isGenerator&&decide N.Nodup&&decide (N.take ps.length=ps)&&ps.all (uU a)&&a.names.all λy=>!(y.2==.free)
theorem fP{N ps:List Str}{b:Scope}(h:bK N ps b=true):eR N ps b:=by
 simp only[bK,Bool.and_eq_true,Bool.not_eq_true',decide_eq_true_eq,List.all_eq_true,beq_iff_eq]at h;obtain⟨⟨⟨⟨⟨⟨c,d⟩,f⟩,g⟩,i⟩,j⟩,k⟩:=h;refine⟨c,d,f,g,i,λx l=>?_,λy m e=>?_⟩
 .have a:=j x l
  unfold uU at a;split at a
  .rename_i q;exact .inl q
  .rename_i q;exact .inr q
  .cases a
 .have:=k y m
  rw[e]at this;exact absurd this (by decide)
section
variable{P:Program}{w:World}{K:PySem.W.Frag}{mg:Str->Option Value}{base:Heap}{Γ:lH}{T:Tab}{k:Nat}
end
noncomputable def Aj:Value->Bool
 |.type x=>x=="list"
 |_=>false
def pv(K:PySem.W.Frag):Bool:=K.all λp=>!Aj p.2.cls
theorem pw:∀{K:PySem.W.Frag}{a:Addr}{o:Obj},K.lookup a=some o->(a,o)∈K
 |[],_,_,h=>by cases h
 | (b,p)::K,a,o,h=>by
  rw[List.lookup_cons]at h;split at h
  .rename_i e
   cases h;rw[eq_of_beq e];simp
  .exact List.mem_cons_of_mem _ (pw h)
noncomputable def xa(K:PySem.W.Frag)(x:Str):Bool:=match PySem.W.nsIn K mainGlobals x with
 |some none=>true
 |_=>false
def sZ(K:PySem.W.Frag):Bool:=dN.all (xa K)
theorem xb{K:PySem.W.Frag}{h:Heap}{a:Str->Option Value}(X:K.In h)(G:h.Ns mainGlobals a)(b:sZ K=true):∀x∈dN,a x=none:=λx c=>by
 have:=List.all_eq_true.mp b x c;unfold xa at this;split at this
 .rename_i q;exact PySem.W.mg_none_of X G q
 .cases this
section
variable{prog:Program}{w:World}{A:Around}{E:Value->Shared->Prop}{s:Shared}
end
end Mir
namespace L2
open PySem PySem.Spec PyProof.Rows PySem.W
def xc(X:Cx)(f:Addr)(vs:List V)(a:St)(H:Hp)(Q:VK):Prop:=∀(pins:List (Addr×Obj)) (s:Shared) (b:List Value),Inv X pins a H s->Vals vs b->wpAny (model X.prog X.w) X.A (call (.ref f) b) (EP X pins a Q) X.xe s
def s_(H:Hp)(f:Addr):Prop:=∃oc a b c u,H f=some (.cw ⟨oc,a,.func b,c⟩ u)
theorem Inv.fnAt{X:Cx}{pins:List (Addr×Obj)}{a:St}{H:Hp}{s:Shared}{f:Addr}(I:Inv X pins a H s)(h:s_ H f):FnAt f s.heap:=by
 obtain⟨oc,b,c,d,u,e⟩:=h;exact⟨oc,b,c,d,(I.hok f _ e).1⟩
structure kG(ps cn:List Str)(sc:Scope):Prop where
 kind:sc.kind=.function
 co:sc.isCoroutine=false
 gen:sc.isGenerator=false
 nd:(ps++cn).Nodup
 par:∀x∈ps,sc.names.lookup x=some .local
 cap:∀x∈cn,sc.names.lookup x=some .free
 all:∀y∈sc.names,y.2=.free->y.1∈cn
 cell:∀y∈sc.names,y.2≠.cell
noncomputable def mx(CX:oR)(P:Program)(w:World)(K:PySem.W.Frag)(mg:Str->Option Value)(base:Heap)(N:List Str)(qual:Str)(scope:Scope)(f:Addr)(b:Value)(cl:List (Str×Addr))(A:Around)(outer:List Env)(s:Shared)(H:Hp)(E:XK):Cx where
 prog:=P
 w:=w
 K:=K
 mg:=mg
 base:=base
 A:=A.deeper (envX qual scope s.heap.objs.size f b cl)
 N:=N
 s₀:=s
 H₀:=H
 env:=envX qual scope s.heap.objs.size f b cl
 outer:=outer
 stack:=envX qual scope s.heap.objs.size f b cl::outer
 ex:=[]
 calm:=true
 fn:=λ_=>false
 pn:=[]
 xe:=λe c=>wpAny (model P w) (A.deeper (envX qual scope s.heap.objs.size f b cl)) (leaving (envX qual scope s.heap.objs.size f b cl) e) (λ_ a=>CX outer H s E e a) (λd a=>CX outer H s E d a) c
structure pz(H:Hp)(cl:List (Str×Addr))(cn:List Str)(cv:List V):Prop where
 len:cn.length=cv.length
 get:∀(j:Nat) (x:Str) (v:V),cn[j]?=some x->cv[j]?=some v->∃c o u val,cl.lookup x=some c/\H c=some (.cw o u)/\o.data=.cell (some val)/\RelV v val
 only:∀x c,cl.lookup x=some c->x∈cn
 inj:∀x y c,cl.lookup x=some c->cl.lookup y=some c->x=y
theorem pz.at'{H:Hp}{cl:List (Str×Addr)}{cn:List Str}{b:List V}(h:pz H cl cn b){x:Str}{c:Addr}(e:cl.lookup x=some c):∃o u v a,H c=some (.cw o u)/\o.data=.cell (some a)/\RelV v a:=by
 obtain⟨j,d⟩:=List.mem_iff_getElem?.mp (h.only x c e);have g:j<b.length:=by rw[←h.len];exact(List.getElem?_eq_some_iff.mp d).1
 obtain⟨m,o,u,a,f,i,k,l⟩:=h.get j x _ d (List.getElem?_eq_getElem g);rw[e]at f;cases f
 exact⟨o,u,_,a,i,k,l⟩
theorem xf{ps:List Str}{us:List Value}:∀{i:Nat}{x:Str}{u:Value},ps.Nodup->ps[i]?=some x->us[i]?=some u->((ps.zip us).reverse.lookup x)=some u:=by
 intro i x u g j m
 have o:(x,u)∈(ps.zip us).reverse:=by
  rw[List.mem_reverse];exact List.mem_iff_getElem?.mpr ⟨i,by rw[List.getElem?_zip_eq_some];exact⟨j,m⟩⟩
 have c:∀(l:List (Str×Value)),(l.map (·.1)).Nodup->(x,u)∈l->l.lookup x=some u:=by
  intro l
  induction l with
  |nil=>intro _ h;cases h
  |cons p r d=>
   intro e h;rw[List.map_cons,List.nodup_cons]at e;obtain⟨n,k⟩:=p;rcases List.mem_cons.mp h with z|z
   .cases z;simp[List.lookup]
   .have:(x==n)=false:=beq_eq_false_iff_ne.mpr λq=>e.1 (by
     rw[←q];exact List.mem_map.mpr ⟨_,z,rfl⟩)
    rw[List.lookup_cons,this];exact d e.2 z
 refine c _ ?_ o;rw[List.map_reverse]
 have:((ps.zip us).map (·.1)).Nodup:=by
  have f:∀(a:List Str) (b:List Value),((a.zip b).map (·.1)).Sublist a:=by
   intro a
   induction a with
   |nil=>intro b;simp
   |cons x a d=>
    intro b;cases b with
    |nil=>simp
    |cons y b=>simpa using d b
  exact g.sublist (f ps us)
 exact(List.reverse_perm _).nodup_iff.mpr this
theorem Ak{CX:oR}{P:Program}{w:World}{K:PySem.W.Frag}{I:Str->Option Value}{base:Heap}{ps cn:List Str}{qual:Str}{scope:Scope}{f:Addr}{M:Value}{cl:List (Str×Addr)}{A:Around}{outer:List Env}{s:Shared}{t:Heap}{tk:Nat}{H:Hp}{E:XK}{us:List Value}{vs B:List V}
  (S:kG ps cn scope) (R:A.handled=none) (l:ni P w K I base A outer s H) (N:vs.length=ps.length) (r:Vals vs us) (C:pz H cl cn B)
  (ns:t.Ns s.heap.objs.size λx=>((ps.zip us).reverse.lookup x)) (T:Heap.SameBut s.heap.objs.size (s.heap.push {cls:=.type "frame",data:=.dict #[]}) t) :
  Inv (mx CX P w K I base (ps++cn) qual scope f M cl A outer s H E) [] ((vs++B).map some) H {s with heap:=t,toks:=tk}:=by
 have O:∀b o,s.heap.get? b=some o->t.get? b=some o:=λb o e=>(T.2 b (Nat.ne_of_lt (Heap.lt_size e))).trans (Heap.get?_push_of_some _ e)
 have q:∀b:Addr,b∉(mx CX P w K I base (ps++cn) qual scope f M cl A outer s H E).ex:=λb z=>absurd (show b∈([]:List Addr)from z) (by simp)
 have k:ff P w H t:=l.hok.kept O
 have cell:∀x c,cl.lookup x=some c->∃o u d,H c=some (.cw o u)/\t.get? c=some o/\o.data=.cell (some d):=λx c e=>by
  obtain⟨o,u,v,d,n,D,G⟩:=C.at' e;exact⟨o,u,d,n,(k c _ n).1,D⟩
 have J:ps.Nodup:=S.nd.sublist (List.sublist_append_left _ _)
 refine⟨⟨l.mod,S.kind,rfl,rfl,Nat.le_refl _,C.inj,λy hy=>?_,λy c z _=>absurd (show false=true from z) Bool.false_ne_true,λ_=>R,Around.frames_deeper l.frames,.inr ⟨rfl,rfl⟩,λb z=>absurd z (q b),l.bs,l.qJ,λb _ _=>q b,λb z=>absurd z (q b),l.fi,l.so⟩,
  rfl,l.bare,Un.kept O,⟨_,ns,λi y v g F h3=>?_⟩,λy c h=>?_,l.hok.fresh (Nat.le_refl _),λy c h=>?_,λp U=>absurd (show p∈([]:List (Addr×Obj))from U) (by simp),k,?_⟩
 .have hy:scope.names.lookup y=some .cell\/scope.names.lookup y=some .free:=hy
  rcases hy with hy|hy
  .exact absurd rfl (S.cell _ (PySem.mem_of_lookup hy))
  .have X:=S.all _ (PySem.mem_of_lookup hy) rfl
   obtain⟨j,Q⟩:=List.mem_iff_getElem?.mp X;have L:j<B.length:=by rw[←C.len];exact(List.getElem?_eq_some_iff.mp Q).1
   obtain⟨c,o,u,d,n,_⟩:=C.get j y _ Q (List.getElem?_eq_getElem L);exact⟨c,n⟩
 .have g:(ps++cn)[i]?=some y:=g
  have m:(vs++B)[i]?=some v:=by
   rw[List.getElem?_map]at F;cases e:(vs++B)[i]? with
   |none=>rw[e]at F;cases F
   |some a=>rw[e]at F;cases F;rfl
  by_cases Y:i<ps.length
  .rw[List.getElem?_append_left Y]at g
   rw[List.getElem?_append_left (by omega)]at m
   obtain⟨u,Z,rv⟩:=r.get m;exact⟨u,rv,.inl ⟨S.par y (List.mem_of_getElem? g),xf J g Z⟩⟩
  .rw[List.getElem?_append_right (by omega)]at g
   rw[List.getElem?_append_right (by omega),N]at m
   obtain⟨c,o,u,d,n,D,G,q4⟩:=C.get _ _ _ g m;exact⟨d,q4,.inr ⟨.inr (S.cap y (List.mem_of_getElem? g)),c,n,o,(k c _ D).1,G⟩⟩
 .obtain⟨o,u,d,_,D,G⟩:=cell y c h
  exact⟨some d,o,D,G⟩
 .obtain⟨o,u,d,n,_⟩:=cell y c h
  exact⟨.inr ⟨o,u,n⟩,λz=>absurd (show false=true from z) Bool.false_ne_true⟩
 .rw[List.length_map,List.length_append,N,←C.len]
  show _=(ps++cn).length
  rw[List.length_append]
structure CI(H:Hp)(f c':Addr)(name qual:Str)(params:Arguments)(body:List Stmt)(scope:Scope)(cl:List (Str×Addr)):Prop where
 fn:∃doc pm ctv u,H f=some (.cw (fnMade name qual params body scope cl doc pm c' ctv) u)
 cd:∃oc u vs t,H c'=some (.cw oc u)/\oc.data=.fields vs/\vs[1]?=some (.str qual t)
theorem xh{X:Cx}{CX:oR}{k:Nat}{f c:Addr}{name qual:Str}{params:Arguments}{body:List Stmt}{scope:Scope}{cl:List (Str×Addr)}{ps cn:List Str}{vs p:List V}{M:St}{H:Hp}{Q:VK}{E:XK}
  (C:CI H f c name qual params body scope cl) (S:kG ps cn scope) (O:pz H cl cn p) (x:br (k+1) X.A) (U:Passes CX X E) (N:vs.length=ps.length)
  (Y:∀(g z h:Value) (us:List Value),us.length=ps.length->bindArgs (fnX name qual params body scope cl .none .none g z none (.ref c) h) ⟨us,[]⟩=pure (ps.zip us))
  (i:∀(outer:List Env) (s:Shared),br k (X.A.deeper (envX qual scope s.heap.objs.size f (.ref c) cl)) ->
   ∃t,iv (mx CX X.prog X.w X.K X.mg X.base (ps++cn) qual scope f (.ref c) cl X.A outer s H E) body t/\t {nx:=λ_ d=>Q .non d,rt:=Q} ((vs++p).map some) H):xc X f vs M H Q:=by
 intro pins s us I r;obtain⟨g,z,h,uf,Z⟩:=C.fn;obtain⟨oc,uc,vc,tc,hc,B,D⟩:=C.cd;have F:=I.env0;have G:=I.nolimit;have rl:us.length=ps.length:=by rw[←r.length];exact N
 refine wpAny_call (codeAny_mono (R:=CR CX X.stack X.prog X.w H s Q E) ?_ λr m j=>?_)
 .refine codeAny_call_function x.depth (F.hok f _ Z).1 rfl S.co S.gen rfl ⟨c,oc,vc,tc,rfl,(F.hok c _ hc).1,B,D⟩ ?_
  rw[Y g z h us rl];refine wpAny_pure (wpAny_newFunctionEnv S.cell (λy hy=>S.par _ (List.of_mem_zip hy).1) (λP ns T=>?_) S.kind)
  have hk:∀b o,s.heap.get? b=some o->P.get? b=some o:=λb o e=>(T.2 b (Nat.ne_of_lt (Heap.lt_size e))).trans (Heap.get?_push_of_some _ e)
  refine⟨G.keeps hk,codeAny_func ?_⟩;obtain⟨t,ht,j⟩:=i X.stack s (x.deeper _);have I1:Inv (mx CX X.prog X.w X.K X.mg X.base (ps++cn) qual scope f (.ref c) cl X.A X.stack s H E) [] ((vs++p).map some) H {s with heap:=P,toks:=s.toks+(ps.zip us).length}:=Ak S x.hd F N r O ns T;refine wpAny_mono (ht [] _ _ H _ I1 j) (λfl m l=>?_) λe m l=>l
  have n:∀{a:St}{d:Hp}{v:V}{u:Value},Inv (mx CX X.prog X.w X.K X.mg X.base (ps++cn) qual scope f (.ref c) cl X.A X.stack s H E) [] a d m->RelV v u->Q v d->CE X.stack X.prog X.w H s Q u m:=
   λ{a d v u} J L q=>⟨v,d,J.os,J.bare,J.base,J.hok,L,q⟩
  cases fl with
  |ret u=>
   obtain⟨v,a,d,J,L,q⟩:=l;exact n J L q
  |next=>
   obtain⟨a,d,J,q⟩:=l;exact n (v:=V.non) (u:=Value.none) J rfl q
  |brk=>
   obtain⟨_,_,_,q⟩:=l;exact False.elim q
  |cont=>
   obtain⟨_,_,_,q⟩:=l;exact False.elim q
 .cases r with
  |error e=>exact U pins M H s e m I j
  |ok fl=>
   cases fl with
   |ret u=>exact I.after j
   |next=>exact False.elim j
   |brk=>exact False.elim j
   |cont=>exact False.elim j
noncomputable def kH(a:Addr)(o:Obj):HO:=.cw o (.ext λh=>h.get? a=some o)
theorem nK{P:Program}{w:World}{H:Hp}{h:Heap}{a:Addr}{o:Obj}(e:h.get? a=some o):bQ P w H h a (kH a o):=⟨e,e,⟨o,e⟩,λb c q k=>k o q⟩
noncomputable def Cx.fz(X:Cx)(xs:List Str):Cx:={X with fn:=λy=>X.fn y&&!(xs.contains y)}
section
variable{X:Cx}{pins:List (Addr×Obj)}{σ:St}{H:Hp}{s:Shared}
theorem Inv.nL(I:Inv X pins σ H s):Inv (X.fz []) pins σ H s:=by
 have ok:=I.ok;refine⟨⟨ok.mod,ok.kind,ok.glob,ok.blt,ok.above,ok.inj,ok.has,λx c z e=>ok.cab x c ?_ e,ok.hd,ok.frames,ok.zr,ok.zD,ok.bs,ok.qJ,ok.lD,ok.lE,ok.fi,ok.so⟩,I.os,I.bare,I.base,I.loc,I.cell,I.free,λx c e=>⟨(I.cD x c e).1,λz=>(I.cD x c e).2 ?_⟩,I.pin,I.hok,I.len⟩
 .have z:(X.fn x&&!(([]:List Str).contains x))=true:=z
  simpa using z
 .have z:(X.fn x&&!(([]:List Str).contains x))=true:=z
  simpa using z
theorem Inv.freeze{xs:List Str}{x:Str}{c:Addr}{o:Obj}{l:Value}(I:Inv (X.fz xs) pins σ H s)(k:X.env.cells.lookup x=some c)(w:(X.fz xs).fn x=true)(A:s.heap.get? c=some o)(E:o.data=.cell (some l)) :
  Inv (X.fz (x::xs)) pins σ (upd H c (kH c o)) s:=by
 have ok:=I.ok;have F:H c=none:=(I.cD x c k).2 w
 have f:∀y,(X.fz (x::xs)).fn y=true->(X.fz xs).fn y=true/\y≠x:=λy z=>by
  have z:(X.fn y&&!((x::xs).contains y))=true:=z;have:(X.fz xs).fn y=(X.fn y&&!(xs.contains y)):=rfl;rw[this];simp at z ⊢;exact⟨⟨z.1,z.2.2⟩,z.2.1⟩
 have h:∀b u,H b=some u->b≠c:=λb u e z=>by rw[z,F]at e;cases e
 have r:∀b g,X.s₀.heap.get? b=some g->b≠c:=λb g e z=>by
  have:=ok.cab x c w k;have B:=Heap.lt_size e;rw[z]at B;exact absurd (Nat.lt_of_lt_of_le B this) (Nat.lt_irrefl _)
 refine⟨⟨ok.mod,ok.kind,ok.glob,ok.blt,ok.above,ok.inj,ok.has,λy a z e=>ok.cab y a (f y z).1 e,ok.hd,ok.frames,ok.zr,ok.zD,ok.bs,ok.qJ,ok.lD,ok.lE,ok.fi,ok.so⟩,I.os,I.bare,
  ⟨I.base.keep,I.base.slot,λb g e n G=>?_,I.base.there,λb C e=>?_,λb g u e=>?_,λb J e=>?_⟩,I.loc,I.cell,?_,λy a e=>?_,λp K=>?_,λb u e=>?_,I.len⟩
 .rw[ai (r b g e)];exact I.base.free b g e n G
 .have:=I.base.tups b C e
  rw[ai (h b _ this)];exact this
 .have:=I.base.eX b g u e
  rw[ai (h b _ this)];exact this
 .obtain⟨m,D⟩:=I.base.fK b J e
  exact⟨m,by rw[ai (h b _ D)];exact D⟩
 .exact(ai (show X.env.locals≠c from Ne.symm (I.Gf x c k))).trans I.free
 .by_cases i:a=c
  .subst i
   have:y=x:=ok.inj y x a e k;refine⟨.inr ⟨o,_,aF⟩,λz=>absurd this (f y z).2⟩
  .rw[ai i]
   exact⟨(I.cD y a e).1,λz=>(I.cD y a e).2 (f y z).1⟩
 .obtain⟨e,n,L,M,d⟩:=I.pin p K
  have t:p.1≠c:=λz=>by
   rw[z,A]at e;cases e;exact d _ E
  exact⟨e,by rw[ai t];exact n,L,M,d⟩
 .by_cases j:b=c
  .subst j
   rw[aF]at e;cases e;exact nK A
  .rw[ai j]at e
   exact(I.hok b u e).stay (λa v _ q=>q) (λa q=>by rw[ai (h a _ q)];exact q) λa C q=>by rw[ai (h a _ q)];exact q
def eD(H:Hp)(P:Addr)(ps:Array Value)(a:Addr)(oc:Obj)(f:Addr)(b:Obj):Hp:=upd (upd (upd H P (.lS ps)) a (kH a oc)) f (kH f b)
theorem Inv.GU{P c f:Addr}{ps more:Array Value}{oc p:Obj}{h':Heap}{tk:Nat}(I:Inv X pins σ H s)(d:H P=some (.lS ps))(ext:Heap.ExtBut P s.heap h')(j:h'.get? P=some (tabObj (ps++more)))(r:s.heap.objs.size<=c)(t:s.heap.objs.size<=f)(E:c≠f)
  (w:h'.get? c=some oc) (x:h'.get? f=some p):Inv X pins σ (eD H P (ps++more) c oc f p) {s with heap:=h',toks:=tk}:=by
 have F:H c=none:=I.hok.fresh r;have G:H f=none:=I.hok.fresh t;have k:P<s.heap.objs.size:=Heap.lt_size (show s.heap.get? P=some _ from I.hok P _ d)
 have A:P≠c:=Nat.ne_of_lt (Nat.lt_of_lt_of_le k r);have B:P≠f:=Nat.ne_of_lt (Nat.lt_of_lt_of_le k t)
 have a:∀b u,H b=some u->b≠P->eD H P (ps++more) c oc f p b=some u:=λb u e h=>by
  have i:b≠c:=λz=>by rw[z,F]at e;cases e
  have g:b≠f:=λz=>by rw[z,G]at e;cases e
  unfold eD;rw[ai g,ai i,ai h];exact e
 have D:∀b o,s.heap.get? b=some o->H b=none->h'.get? b=some o:=λb o e n=>ext b o (λz=>by rw[z,d]at n;cases n) e
 have J:∀b o,s.heap.get? b=some o->H b=none->eD H P (ps++more) c oc f p b=none:=λb o e n=>by
  have l:b≠P:=λz=>by rw[z,d]at n;cases n
  have i:b≠c:=Nat.ne_of_lt (Nat.lt_of_lt_of_le (Heap.lt_size e) r);have g:b≠f:=Nat.ne_of_lt (Nat.lt_of_lt_of_le (Heap.lt_size e) t);unfold eD;rw[ai g,ai i,ai l];exact n
 refine I.un (t':=tk) ⟨λb o e n _ _=>D b o e n,λb o e n _ _=>⟨o.slots,D b o e n⟩,λb o e n _=>J b o e n,λb o e _=>?_,λb K e=>a b _ e (λz=>by rw[z,d]at e;cases e),λb o u e=>a b _ e (λz=>by rw[z,d]at e;cases e),λb L e=>?_⟩ λb u e=>?_
 .by_cases h:b=P
  .exact⟨_,by rw[h];exact j⟩
  .exact⟨o,ext b o h e⟩
 .by_cases h:b=P
  .subst h
   rw[d]at e;cases e
   refine⟨more,?_⟩;unfold eD;rw[ai B,ai A,aF]
  .exact⟨#[],by rw[a b _ e h];simp⟩
 .by_cases g:b=f
  .subst g
   unfold eD at e;rw[aF]at e;cases e
   exact nK x
  .by_cases i:b=c
   .subst i
    unfold eD at e;rw[ai g,aF]at e;cases e
    exact nK w
   .by_cases l:b=P
    .subst l
     unfold eD at e;rw[ai g,ai i,aF]at e;cases e
     exact j
    .unfold eD at e
     rw[ai g,ai i,ai l]at e;refine(I.hok b u e).stay (λm v C q=>ext m v ?_ q) (λm q=>a m _ q λz=>by rw[z,d]at q;cases q) λm K q=>a m _ q λz=>by rw[z,d]at q;cases q
     rcases C with z|z
     .rw[z];exact l
     .intro y;rw[y,d]at z;cases z
theorem Al{H:Hp}{P b f:Addr}{ps:Array Value}{oc a:Obj}:eD H P ps b oc f a f=some (kH f a):=aF
theorem Am{H:Hp}{P a f:Addr}{ps:Array Value}{oc b:Obj}(h:a≠f):eD H P ps a oc f b a=some (kH a oc):=by unfold eD;rw[ai h,aF]
theorem An{name qual:Str}{params:Arguments}{body:List Stmt}{scope:Scope}{pos:Pos}{i:Nat}{P c:Addr}{ps:Array Value}{cl:List (Str×Addr)}{Q:Flow->Shared->Prop}
  (I:Inv X pins σ H s) (r:H P=some (.lS ps)) (R:TriplesOk ps.toList) (y:codeAmong pos ps.toList=none) (S:X.env.code=.ref c) (T:CodeHd X.base c P) (U:∃L,X.base.BuiltinsAt X.mg L)
  (V:qualnameIn X.env name name=qual) (B:params.defaults=[]) (C:params.kw_defaults=[]) (Y:annTrees params none X.env=[]) (D:closureFor scope X.env=pure cl)
  (Z:X.N.Nodup) (hi:X.N[i]?=some name) (M:X.env.scope.names.lookup name=some .local)
  (k:∀(f a:Addr) (oc:Obj) (d pm g:Value) (vs:Array Value) (t:Tok) (u:Shared),H a=none->H f=none->a≠f->a≠P->f≠P->s.heap.objs.size<=a->s.heap.objs.size<=f->oc.data=.fields vs->vs[1]?=some (.str qual t) ->
   Inv X pins (σ.set i (some (.ref f))) (eD H P (ps ++ #[rawInt pos.line,rawInt pos.col,.ref a]) a oc f (fnMade name qual params body scope cl d pm a g)) u->Q .next u) :
  wpAny (model X.prog X.w) X.A (exec (.FunctionDef name params body [] none [] scope none name pos) X.env) Q X.xe s:=by
 have hg:s.heap.Ns mainGlobals X.mg:=I.mod.glob.keeps I.bk
 have E:mainGlobals≠P:=λz=>by
  obtain⟨o,es,ep,e,_⟩:=I.mod.glob;have:=(I.bs _ _ e).2;rw[z,r]at this;cases this
 have F:s.heap.BuiltinsAt X.mg P:=by
  obtain⟨L,bm,o,b1,b2,b3,_,O,b6⟩:=U;refine⟨bm,o,b1,b2,b3,λz=>?_,I.bk _ _ O,b6⟩
  have:=(I.bs _ _ O).2;rw[z,r]at this;cases this
 have j:s.heap.get? P=some (tabObj ps):=I.hok P _ r;have l:=Heap.lt_size j;refine nestDef_K B C Y ?_;rw[V];refine makeFunction_K D I.ok.glob hg S (T.keeps I.bk) j R y E F λa g d x tk m n G p J=>?_
 obtain⟨c2,oc,vs,t,e2,K,hd,hv⟩:=p;cases e2;have h:s.heap.objs.size<=x.objs.size:=Nat.le_trans n (Nat.le_of_lt G);have q:Heap.ExtBut P s.heap (x.push (fnMade name qual params body scope cl d ((X.mg "__name__").getD .none) a g)):=λb o hb e=>Heap.get?_push_of_some _ (m b o hb e)
 have I1:=I.GU (tk:=tk) r q (Heap.get?_push_of_some _ J) n h (Nat.ne_of_lt G) (Heap.get?_push_of_some _ K) (Heap.get?_push_size _ rfl);refine iw I1 Z hi (.inl M) (v:=.ref x.objs.size) rfl (λu I2=>?_) (.inr M)
 exact k x.objs.size a oc d _ g vs t u (I.hok.fresh n) (I.hok.fresh h) (Nat.ne_of_lt G) (Nat.ne_of_gt (Nat.lt_of_lt_of_le l n)) (Nat.ne_of_gt (Nat.lt_of_lt_of_le l h)) n h hd hv I2
end
end L2
namespace L2
open PySem PySem.Spec PyProof.Rows
theorem ro{prog:Program}{w:World}{es:Array DictEntry}(d:Addr)(b:(d==sysModules)=false) :
  MeetsIn prog w (Builtin.«dict.__len__» ⟨[.ref d],[]⟩) (λ_ R s=>∃o a,s.heap.get? d=some o/\o.data=.dict es a/\R (.ok (.ret (.int es.size s.toks))) {s with toks:=s.toks+1}):=
 .of_wp λA R s ⟨o,a,ho,hdat,h⟩=>by
  show wpAny _ _ (dictSize d >>= _) _ _ s
  unfold dictSize;refine wpAny_bind (wpAny_bind (wpAny_dictEntries ho hdat (wpAny_pure ?_)))
  show wpAny _ _ (Builtin.Dict.pendingCount d >>= _) _ _ s
  refine wpAny_bind (wpAny_pendingCount_other b ?_);refine wpAny_ret_mkInt ?_;rw[Nat.add_zero];exact h
theorem KT.length{H:Hp}{l:List (List Key×V)}{m:List (List Key×Addr×Value)}(q:KT H l m):m.length=l.length:=by
 induction q with
 |nil=>rfl
 |cons _ _ a=>rw[List.length_cons,List.length_cons,a]
theorem uV{X:Cx}:ed X (.builtin "len") (λxs H Q=>∃a b,xs=[V.ref a]/\H a=some (.dT b)/\Q (.int b.length) H):=by
 intro pins s t H xs w Q I r h;obtain⟨a,b,rfl,f,q⟩:=h;obtain⟨u,rfl,g⟩:=vals1 r;cases g;obtain⟨z,i,xs,c,d⟩:=wF I.hok f;have e:=d.typeIs;obtain⟨o,es,j,k,x,l,n,y,A⟩:=d;have p:es.size=b.length:=by rw[size_of_entries n,c.length]
 refine Calls.call_function_entry kind_len plain_len entry_len (args_len1 _) ?_;unfold Builtin.«len»;refine wpAny_bind (m:=oneArg "len" _) (wpAny_pure ?_)
 refine wpAny_bind (m:=callSpecial? (.ref a) (Str.ofString "__len__")) (wpAny_callSpecial?_slot (name:=Str.ofString "__len__") e F.slot_dict_len
  (call_meetsIn F.slot_dict_len e F.entry_dict_len (F.args_dict_len_1 _) (ro (es:=es) a i) ⟨o,j,k,l,?_⟩))
 show wpAny _ _ _ _ _ {s with toks:=s.toks+1}
 refine wpAny_bind (wpAny_holding (wpAny_pure ?_));refine wpAny_bind (wpAny_letGo ?_);rw[sizeLine_eq]at z
 show wpAny _ _ (if ((es.size:Nat):Int)<0 then _ else _) _ _ _
 rw[if_neg (by omega)]
 show wpAny _ _ (if ((es.size:Nat):Int)≥2 ^ 63 then _ else _) _ _ _
 rw[if_neg (by omega)]
 refine wpAny_bind (wpAny_mkInt (wpAny_pure ⟨_,rfl,.int b.length,H,(I.tok _).tok _,⟨_,by rw[p]⟩,q⟩))
end L2
namespace HT
open PySem PyProof.Rows
section
variable{prog:Program}{w:World}{A:Around}{E:Value->Shared->Prop}{s:Shared}
end
end HT
namespace L2
open PySem PySem.Spec PyProof.Rows
section
variable{X:Cx}
end
end L2
namespace Mir
open PySem PySem.Spec PyProof.Rows L2
theorem dA{a b:Str}:ba a b=true↔a.cps.toList<=b.cps.toList:=by
 unfold ba;rw[Bool.not_eq_true',decide_eq_false_iff_not];exact List.not_lt
theorem eT(a b c:Str)(d:ba a b=true)(e:ba b c=true):ba a c=true:=dA.mpr (List.le_trans (dA.mp d) (dA.mp e))
theorem gx(a b:Str):(ba a b||ba b a)=true:=by
 rw[Bool.or_eq_true,dA,dA];exact List.le_total _ _
theorem kI{a b:Str}(c:ba a b=true)(d:ba b a=true):a=b:=by
 have e:=List.le_antisymm (dA.mp c) (dA.mp d);cases a;cases b
 simp only[Str.mk.injEq];exact Array.toList_inj.mp e
theorem my:∀{d:List Str}{p:Str},risingS p d=true->(p::d).Pairwise λa b=>ba a b=true
 |[],p,_=>by simp
 |x::r,p,h=>by
  simp only[risingS,Bool.and_eq_true,Bool.not_eq_true',ltCps_eq]at h;have c:ba p x=true:=by unfold ba;rw[h.1];rfl
  have e:=my h.2;refine List.pairwise_cons.mpr ⟨λy hy=>?_,e⟩
  rcases List.mem_cons.mp hy with rfl|hy
  .exact c
  .exact eT _ _ _ c ((List.pairwise_cons.mp e).1 y hy)
theorem xi{d c:List Str}(e:c.Perm d)(f:sortedS c=true):c=d.mergeSort ba:=by
 refine List.Perm.eq_of_pairwise (le:=λa b=>ba a b=true) (λa b _ _ g h=>kI g h) ?_ (List.pairwise_mergeSort eT gx d) (e.trans (List.mergeSort_perm d ba).symm)
 cases c with
 |nil=>exact List.Pairwise.nil
 |cons x r=>exact my f
theorem xj{ns d:List Int}(g:d.Perm ns)(i:d.Pairwise (· <= ·)):d=ns.mergeSort λa b=>decide (a<=b):=by
 refine List.Perm.eq_of_pairwise (le:=λa b=>decide (a<=b)=true) (λa b _ _ e f=>?_) (i.imp λh=>by simpa using h) (List.pairwise_mergeSort (λa b c e f=>?_) (λa b=>?_) ns) (g.trans (List.mergeSort_perm ns _).symm)
 .simp at e f;omega
 .simp at e f ⊢;omega
 .simp;omega
theorem kJ:∀{a:List Str}{us:List Value},Vals (a.map V.str) us->StrsAre us a
 |[],_,r=>by cases r;exact .nil
 |x::a,_,r=>by
  cases r with
  |cons h t=>
   obtain⟨tk,rfl⟩:=h;exact .cons _ _ (kJ t)
theorem mz:∀{us:List Value}{a:List Str},StrsAre us a->Vals (a.map V.str) us
 |_,_,.nil=>.nil
 |_,_,.cons x t h=>.cons ⟨t,rfl⟩ (mz h)
theorem uW{X:Cx}:ed X (.builtin "sorted") (λxs H Q=>∃a,xs=[.ref a]/\((∃f:List Str,mU X.K H a (f.map V.str)/\f.length<64/\∀l,H l=none->Q (.ref l) (upd H l (.lst ((f.mergeSort ba).map V.str)))) \/
  ∃ns:List Int,mU X.K H a (ns.map V.int)/\ns.length<64/\∀l,H l=none->Q (.ref l) (upd H l (.lst ((ns.mergeSort λa b=>decide (a<=b)).map V.int))))):=by
 intro pins s E H xs F Q I r h;obtain⟨a,rfl,h⟩:=h;obtain⟨u,rfl,z⟩:=vals1 r;cases z;have fresh:H (s.heap.objs.size+1)=none:=I.hok.fresh (Nat.le_succ _);rcases h with ⟨f,i,j,q⟩|⟨ns,i,j,q⟩
 .obtain⟨c,g,k,A⟩:=I.list i
  have m:=g.length;rw[List.length_map]at m;refine sorted_strs (vs:=c) k.isList (kJ g) (by omega) λd B n p t=>?_
  obtain⟨e,w⟩:=sortedAll_at s.heap c d;have x:=xi p t;subst x;refine⟨.ref (s.heap.objs.size+1),_,I.laid (t':=s.toks) (o:=.lst ((f.mergeSort ba).map V.str)) (λb C y=>sortedAll_old y) (Nat.le_succ _) ?_,rfl,q _ fresh⟩
  exact⟨by rw[List.length_map,List.length_mergeSort,sizeLine_eq];omega,d.toList,e,mz n,w⟩
 .obtain⟨c,g,k,A⟩:=I.list i
  have m:=g.length;rw[List.length_map]at m;refine sorted_ints (vs:=c) k.isList (intsAre_of g) (by omega) λd D n p t=>?_
  obtain⟨e,w⟩:=sortedAll_at s.heap c d;have x:=xj p t;subst x;refine⟨.ref (s.heap.objs.size+1),_,I.laid (t':=s.toks) (o:=.lst ((ns.mergeSort λa b=>decide (a<=b)).map V.int)) (λb C y=>sortedAll_old y) (Nat.le_succ _) ?_,rfl,q _ fresh⟩
  exact⟨by rw[List.length_map,List.length_mergeSort,sizeLine_eq];omega,d.toList,e,jm n,w⟩
end Mir
namespace Mir
open PySem L2
structure pA where
 name:Str
 qual:Str
 params:Arguments
 body:List Stmt
 scope:Scope
 ps:List Str
 cn:List Str
class aw where
 tab:Nat->pA
 ta:Nat->Addr
inductive Cell where
 |lst (ds:List D)
 |dK (kvs:List (Key×D))
 |dT (kvs:List (List Key×D))
 |dF (kvs:List (Key×D))
 |dG (kvs:List (List Key×D))
 |ins (C:Str) (fs:List (Str×D))
 |fn (j:Nat) (dh:List D)
 |tb (j:Nat) (p:Pos) (b:Bool)
abbrev aI:=List Cell
inductive av (α:Type) where
 |ok (a:α) (Ω:aI)
 |exc (x:D) (Ω:aI)
 |bad
noncomputable def av.bind{b c:Type}:av b->(b->aI->av c)->av c
 |.ok a Ω,f=>f a Ω
 |.exc x Ω,_=>.exc x Ω
 |.bad,_=>.bad
abbrev aS:=List (Option D)
inductive aG {α β:Type} (R:α->β->Prop):List α->List β->Prop where
 |nil:aG R [] []
 |cons {a b as bs}:R a b->aG R as bs->aG R (a::as) (b::bs)
namespace aG
variable{α β:Type}{R S:α->β->Prop}
theorem length:∀{as:List α}{bs:List β},aG R as bs->bs.length=as.length
 |_,_,.nil=>rfl
 |_,_,.cons _ t=>by rw[List.length_cons,List.length_cons,length t]
theorem imp(h:∀a b,R a b->S a b):∀{as:List α}{bs:List β},aG R as bs->aG S as bs
 |_,_,.nil=>.nil
 |_,_,.cons r t=>.cons (h _ _ r) (imp h t)
theorem get:∀{as:List α}{bs:List β}{i:Nat}{a:α},aG R as bs->as[i]?=some a->∃b,bs[i]?=some b/\R a b
 |_,_,_,_,.nil,e=>by simp at e
 |_,_,0,_,.cons r _,e=>by simp at e;subst e;exact⟨_,rfl,r⟩
 |_,_,i+1,a,.cons _ t,e=>by
  obtain⟨u,h1,h2⟩:=get (i:=i) (a:=a) t (by simpa using e)
  exact⟨u,by simpa using h1,h2⟩
theorem Ed:∀{as:List α}{bs:List β}{i:Nat}{b:β},aG R as bs->bs[i]?=some b->∃a,as[i]?=some a/\R a b
 |_,_,_,_,.nil,e=>by simp at e
 |_,_,0,_,.cons r _,e=>by simp at e;subst e;exact⟨_,rfl,r⟩
 |_,_,i+1,a,.cons _ t,e=>by
  obtain⟨u,h1,h2⟩:=Ed (i:=i) (b:=a) t (by simpa using e)
  exact⟨u,by simpa using h1,h2⟩
theorem append:∀{as a:List α}{bs ds:List β},aG R as bs->aG R a ds->aG R (as++a) (bs++ds)
 |_,_,_,_,.nil,h=>h
 |_,_,_,_,.cons r t,h=>.cons r (append t h)
theorem one{a:α}{b:β}(h:R a b):aG R [a] [b]:=.cons h .nil
theorem take:∀{as:List α}{bs:List β} (n:Nat),aG R as bs->aG R (as.take n) (bs.take n)
 |_,_,0,_=>by simp;exact .nil
 |_,_,n+1,.nil=>by simp;exact .nil
 |_,_,n+1,.cons r t=>.cons r (take n t)
theorem drop:∀{as:List α}{bs:List β} (n:Nat),aG R as bs->aG R (as.drop n) (bs.drop n)
 |_,_,0,h=>h
 |_,_,n+1,.nil=>by simp;exact .nil
 |_,_,n+1,.cons r t=>drop n t
theorem reverse:∀{as:List α}{bs:List β},aG R as bs->aG R as.reverse bs.reverse
 |_,_,.nil=>.nil
 |_,_,.cons r t=>by rw[List.reverse_cons,List.reverse_cons];exact(reverse t).append (one r)
theorem set{a:α}{b:β}(r:R a b):∀{as:List α}{bs:List β} (n:Nat),aG R as bs->aG R (as.set n a) (bs.set n b)
 |_,_,_,.nil=>.nil
 |_,_,0,.cons _ t=>.cons r t
 |_,_,n+1,.cons q t=>.cons q (set r n t)
theorem nil_inv{bs:List β}(h:aG R [] bs):bs=[]:=by cases h;rfl
theorem cons_inv{a:α}{as:List α}{bs:List β}(h:aG R (a::as) bs):∃b r,bs=b::r/\R a b/\aG R as r:=by
 cases h with
 |cons r t=>exact⟨_,_,rfl,r,t⟩
end aG
mutual
noncomputable def ah(c:List Addr)(Z:Addr->Prop)(H:Hp):D->V->Prop
 |.non,v=>v=.non
 |.bl b,v=>v=.bl b
 |.int i,v=>v=.int i
 |.str x,v=>v=.str x
 |.lst ds,v=>∃a vs,v=.ref a/\Z a/\Rd H a (.lst vs)/\dO c Z H ds vs
 |.tup ds,v=>∃a vs,v=.ref a/\Z a/\H a=some (.tup vs)/\dO c Z H ds vs
 |.dct _ _,_=>False
 |.ref n,v=>∃a,c[n]?=some a/\v=.ref a
noncomputable def dO(b:List Addr)(Z:Addr->Prop)(H:Hp):List D->List V->Prop
 |[],a=>a=[]
 |d::ds,a=>∃v r,a=v::r/\ah b Z H d v/\dO b Z H ds r
end
theorem cq{a:List Addr}{Z:Addr->Prop}{H:Hp}:∀{ds:List D}{vs:List V},dO a Z H ds vs↔aG (ah a Z H) ds vs
 |[],vs=>by
  simp only[dO];exact⟨λh=>by subst h;exact .nil,λh=>h.nil_inv⟩
 |d::ds,vs=>by
  simp only[dO];constructor
  .rintro⟨v,r,rfl,h1,h2⟩
   exact .cons h1 (cq.mp h2)
  .intro h
   obtain⟨v,r,rfl,h1,h2⟩:=h.cons_inv;exact⟨v,r,rfl,h1,cq.mpr h2⟩
section
variable{α α':List Addr}{Z Z':Addr->Prop}{H H':Hp}
mutual
theorem ah.mono(p:∀(n:Nat) (a:Addr),α[n]?=some a->α'[n]?=some a)(k:∀a o,Z a->H a=some o->H' a=some o)(z:∀a,Z a->Z' a):∀{d:D}{v:V},ah α Z H d v->ah α' Z' H' d v
 |.non,_,h=>by simpa only [ah]using h
 |.bl _,_,h=>by simpa only [ah]using h
 |.int _,_,h=>by simpa only [ah]using h
 |.str _,_,h=>by simpa only [ah]using h
 |.lst ds,v,h=>by
  simp only[ah]at h ⊢;obtain⟨a,c,e,b,f,g⟩:=h;exact⟨a,c,e,z a b,nF (λo=>k a o b) f,dO.mono p k z g⟩
 |.tup ds,v,h=>by
  simp only[ah]at h ⊢;obtain⟨a,c,e,b,f,g⟩:=h;exact⟨a,c,e,z a b,k a _ b f,dO.mono p k z g⟩
 |.dct i ds,v,h=>by simp only[ah]at h
 |.ref n,v,h=>by
  simp only[ah]at h ⊢;obtain⟨a,e,h⟩:=h;exact⟨a,p n a e,h⟩
theorem dO.mono(p:∀(n:Nat) (a:Addr),α[n]?=some a->α'[n]?=some a)(k:∀a o,Z a->H a=some o->H' a=some o)(z:∀a,Z a->Z' a):∀{ds:List D}{vs:List V},dO α Z H ds vs->dO α' Z' H' ds vs
 |[],_,h=>by simpa only [dO]using h
 |d::ds,vs,h=>by
  simp only[dO]at h ⊢;obtain⟨v,r,e,h1,h2⟩:=h;exact⟨v,r,e,ah.mono p k z h1,dO.mono p k z h2⟩
end
end
def gP{K:Type}(R:D->V->Prop)(b:List (K×D))(a:List (K×V)):Prop:=aG (λp q=>p.1=q.1/\R p.2 q.2) b a
variable [aw]
def FL(H:Hp)(a:Addr)(j:Nat)(p:Pos):Bool->Prop
 |false=>H a=some (.lS #[])
 |true=>∃b oc u vs t,H a=some (.lS #[rawInt p.line,rawInt p.col,.ref b])/\H b=some (.cw oc u)/\oc.data=.fields vs/\vs[1]?=some (.str (aw.tab j).qual t)
theorem FL.imp{H c:Hp}{a:Addr}{j:Nat}{p:Pos}{b:Bool}(e:∀o,H a=some o->c a=some o)(z:∀b o u,H b=some (.cw o u)->c b=some (.cw o u))(k:FL H a j p b):FL c a j p b:=by
 cases b with
 |false=>exact e _ k
 |true=>obtain⟨d,oc,u,f,t,g,h,i⟩:=k;exact⟨d,oc,u,f,t,e _ g,z _ _ _ h,i⟩
theorem FL.is{H:Hp}{a:Addr}{j:Nat}{p:Pos}{b:Bool}(k:FL H a j p b):∃ps,H a=some (.lS ps):=by
 cases b with
 |false=>exact⟨_,k⟩
 |true=>obtain⟨d,oc,u,e,t,c,f,g⟩:=k;exact⟨_,c⟩
def e_(κ:Str->Addr->Prop)(R:D->V->Prop)(H:Hp)(a:Addr):Cell->Prop
 |.lst ds=>∃vs,H a=some (.lst vs)/\aG R ds vs
 |.dK kvs=>∃c,H a=some (.dK c)/\gP R kvs c
 |.dT kvs=>∃c,H a=some (.dT c)/\gP R kvs c
 |.dF kvs=>∃o c,H a=some (.cw o (.dK c))/\gP R kvs c
 |.dG kvs=>∃o c,H a=some (.cw o (.dT c))/\gP R kvs c
 |.ins C fs=>∃e g d,κ C e/\H a=some (.ins e g d)/\gP R fs d
 |.fn j dh=>∃h cl f,CI H a h (aw.tab j).name (aw.tab j).qual (aw.tab j).params (aw.tab j).body (aw.tab j).scope cl/\pz H cl (aw.tab j).cn f/\aG R dh f
 |.tb j p b=>a=aw.ta j/\FL H a j p b
theorem gP.imp{K:Type}{R S:D->V->Prop}(h:∀d v,R d v->S d v){e:List (K×D)}{c:List (K×V)}(k:gP R e c):gP S e c:=aG.imp (λa b q=>⟨q.1,h _ _ q.2⟩) k
theorem e_.imp{κ:Str->Addr->Prop}{R S:D->V->Prop}{H m:Hp}{a:Addr}{c:Cell}(h:∀d v,R d v->S d v)(e:∀o,H a=some o->m a=some o)(z:∀b o u,H b=some (.cw o u)->m b=some (.cw o u))(k:e_ κ R H a c):e_ κ S m a c:=by
 cases c with
 |lst X=>obtain⟨f,g,i⟩:=k;exact⟨f,e _ g,i.imp h⟩
 |dK l=>obtain⟨f,g,i⟩:=k;exact⟨f,e _ g,i.imp h⟩
 |dT l=>obtain⟨f,g,i⟩:=k;exact⟨f,e _ g,i.imp h⟩
 |dF l=>obtain⟨o,f,g,i⟩:=k;exact⟨o,f,e _ g,i.imp h⟩
 |dG l=>obtain⟨o,f,g,i⟩:=k;exact⟨o,f,e _ g,i.imp h⟩
 |ins C Y=>obtain⟨s,w,f,y,g,i⟩:=k;exact⟨s,w,f,y,e _ g,i.imp h⟩
 |fn j dh=>
  obtain⟨A,B,E,⟨⟨n,F,q,u,g⟩,oc,G,f,t,i,I,J⟩,O,K⟩:=k;refine⟨A,B,E,⟨⟨n,F,q,u,z _ _ _ g⟩,oc,G,f,t,z _ _ _ i,I,J⟩,⟨O.len,λj x v L M=>?_,O.only,O.inj⟩,K.imp h⟩
  obtain⟨c,o,N,r,P,Q,T,U⟩:=O.get j x v L M;exact⟨c,o,N,r,P,z _ _ _ Q,T,U⟩
 |tb j p b=>exact⟨k.1,k.2.imp e z⟩
theorem e_.some{κ:Str->Addr->Prop}{R:D->V->Prop}{H:Hp}{a:Addr}{c:Cell}(k:e_ κ R H a c):H a≠none:=by
 cases c with
 |lst l=>obtain⟨f,d,g⟩:=k;rw[d];simp
 |dK e=>obtain⟨f,d,g⟩:=k;rw[d];simp
 |dT e=>obtain⟨f,d,g⟩:=k;rw[d];simp
 |dF e=>obtain⟨o,f,d,g⟩:=k;rw[d];simp
 |dG e=>obtain⟨o,f,d,g⟩:=k;rw[d];simp
 |ins C m=>obtain⟨n,q,f,r,d,g⟩:=k;rw[d];simp
 |fn j dh=>obtain⟨s,t,w,⟨⟨h,x,i,u,d⟩,_⟩,_⟩:=k;rw[d];simp
 |tb j p b=>obtain⟨y,d⟩:=k.2.is;rw[d];simp
theorem e_.GV{κ:Str->Addr->Prop}{R:D->V->Prop}{H:Hp}{a:Addr}{c:Cell}(k:e_ κ R H a c)(vs:List V):H a≠Option.some (.tup vs):=by
 cases c with
 |lst i=>obtain⟨vs,d,f⟩:=k;rw[d];simp
 |dK e=>obtain⟨vs,d,f⟩:=k;rw[d];simp
 |dT e=>obtain⟨vs,d,f⟩:=k;rw[d];simp
 |dF e=>obtain⟨o,vs,d,f⟩:=k;rw[d];simp
 |dG e=>obtain⟨o,vs,d,f⟩:=k;rw[d];simp
 |ins C l=>obtain⟨m,n,vs,q,d,f⟩:=k;rw[d];simp
 |fn j dh=>obtain⟨r,s,t,⟨⟨g,w,h,u,d⟩,_⟩,_⟩:=k;rw[d];simp
 |tb j p b=>obtain⟨x,d⟩:=k.2.is;rw[d];simp
structure bb(κ:Str->Addr->Prop)(α:List Addr)(Z:Addr->Prop)(Ω:aI)(H:Hp):Prop where
 jT:α.Nodup
 ti:aG (λc a=>e_ κ (ah α Z H) H a c) Ω α
 sep:∀a∈α,¬ Z a
 dom:∀a,Z a->H a≠none
structure bU(α:List Addr)(Z:Addr->Prop)(H:Hp)(α':List Addr)(Z':Addr->Prop)(H':Hp):Prop where
 pre:∀(n:Nat) (a:Addr),α[n]?=some a->α'[n]?=some a
 sub:∀a,Z a->Z' a
 new:∀a,Z' a->Z a\/H a=none\/(a∉α'/\∃vs,H a=some (.tup vs))
 zu:∀a∈α',a∈α\/H a=none
 frm:∀a o,H a=some o->a∉α->H' a=some o
 has:∀a∈α,H' a≠none
 cw:∀a o u,H a=some (.cw o u)->H' a=some (.cw o u)
section
variable{κ:Str->Addr->Prop}{α α' GW:List Addr}{Z Z' Pf:Addr->Prop}{Ω aD:aI}{H H' Pg:Hp}
theorem bU.refl(h:∀a∈α,H a≠none):bU α Z H α Z H:=⟨λ_ _ e=>e,λ_ h=>h,λ_ h=>.inl h,λ_ h=>.inl h,λ_ _ e _=>e,h,λ_ _ _ e=>e⟩
theorem bb.has(S:bb κ α Z Ω H):∀a∈α,H a≠none:=λa b=>by
 obtain⟨n,d⟩:=List.mem_iff_getElem?.mp b;obtain⟨c,_,h⟩:=S.ti.Ed d;exact h.some
theorem bU.none(g:bU α Z H α' Z' H'){a:Addr}(h:H' a=none):H a=none:=by
 cases q:H a with
 |none=>rfl
 |some o=>
  by_cases b:a∈α
  .exact absurd h (g.has a b)
  .rw[g.frm a o q b]at h;cases h
theorem bU.mem(g:bU α Z H α' Z' H'){a:Addr}(h:a∈α):a∈α':=by
 obtain⟨n,b⟩:=List.mem_iff_getElem?.mp h;exact List.mem_of_getElem? (g.pre n a b)
theorem bU.trans(g:bU α Z H α' Z' H')(g':bU α' Z' H' GW Pf Pg):bU α Z H GW Pf Pg where
 pre:=λn a e=>g'.pre n a (g.pre n a e)
 sub:=λa h=>g'.sub a (g.sub a h)
 new:=λa h=>by
  rcases g'.new a h with h|h|⟨b,f,c⟩
  .rcases g.new a h with h|h|⟨b,f,c⟩
   .exact .inl h
   .exact .inr (.inl h)
   .refine .inr (.inr ⟨λq=>?_,f,c⟩)
    rcases g'.zu a q with q|q
    .exact b q
    .rw[g.frm a _ c λz=>b (g.mem z)]at q;cases q
  .exact .inr (.inl (g.none h))
  .cases q:H a with
   |none=>exact .inr (.inl rfl)
   |some o=>
    have:=g.frm a o q λz=>b (g'.mem (g.mem z))
    rw[c]at this;cases this
    exact .inr (.inr ⟨b,f,rfl⟩)
 zu:=λa h=>by
  rcases g'.zu a h with h|h
  .exact g.zu a h
  .exact .inr (g.none h)
 frm:=λa o e d=>g'.frm a o (g.frm a o e d) λh=>by
  rcases g.zu a h with h|h
  .exact d h
  .rw[e]at h;cases h
 has:=λa d=>by
  obtain⟨n,i⟩:=List.mem_iff_getElem?.mp d;exact g'.has a (List.mem_of_getElem? (g.pre n a i))
 cw:=λa o u e=>g'.cw a o u (g.cw a o u e)
theorem bb.cV(S:bb κ α Z Ω H)(g:bU α Z H α' Z' H'){d:D}{v:V}(h:ah α Z H d v):ah α' Z' H' d v:=
 h.mono g.pre (λa o z e=>g.frm a o e λb=>S.sep a b z) g.sub
theorem bb.jE(S:bb κ α Z Ω H)(g:bU α Z H α' Z' H'){ds:List D}{vs:List V}(h:aG (ah α Z H) ds vs):aG (ah α' Z' H') ds vs:=h.imp λ_ _ q=>S.cV g q
theorem bb.cell(S:bb κ α Z Ω H){n:Nat}{c:Cell}(e:Ω[n]?=some c):∃a,α[n]?=some a/\e_ κ (ah α Z H) H a c:=S.ti.get e
theorem bb.len(S:bb κ α Z Ω H):α.length=Ω.length:=S.ti.length
theorem bb.xk(S:bb κ α Z Ω H){p:Addr}{o:HO}(h:H p=none)(z:Prop)[Decidable z]:bb κ α (if z then Zp Z p else Z) Ω (upd H p o)/\bU α Z H α (if z then Zp Z p else Z) (upd H p o):=by
 have j:∀a∈α,a≠p:=λa f e=>S.has a f (e▸h)
 have k:∀a,Z a->a≠p:=λa i e=>S.dom a i (e▸h)
 have l:∀a,Z a->(if z then Zp Z p else Z) a:=λa f=>by
  split
  .exact .inl f
  .exact f
 have g:bU α Z H α (if z then Zp Z p else Z) (upd H p o):=⟨λ_ _ e=>e,l,λa f=>by
   split at f
   .rcases f with f|rfl
    .exact .inl f
    .exact .inr (.inl h)
   .exact .inl f,λ_ f=>.inl f,λa u e _=>by rw[ai (aM e h)];exact e,λa f=>by rw[ai (j a f)];exact S.has a f,λa m u e=>by rw[ai (aM e h)];exact e⟩
 refine⟨⟨S.jT,?_,λa f i=>?_,λa f=>?_⟩,g⟩
 .refine S.ti.imp λc a n=>?_
  refine n.imp (λd v r=>S.cV g r) (λu e=>?_) λb m q e=>?_
  .rw[ai (aM e h)];exact e
  .rw[ai (aM e h)];exact e
 .split at i
  .rcases i with i|rfl
   .exact S.sep a f i
   .exact j _ f rfl
  .exact S.sep a f i
 .split at f
  .rcases f with f|rfl
   .rw[ai (k a f)];exact S.dom a f
   .rw[aF];simp
  .rw[ai (k a f)];exact S.dom a f
theorem bb.GX(S:bb κ α Z Ω H){P:Addr->Prop}(h:∀a,P a->∃vs,H a=some (.tup vs)):bb κ α (λa=>Z a\/P a) Ω H/\bU α Z H α (λa=>Z a\/P a) H:=by
 have i:∀a∈α,¬ P a:=λa b f=>by
  obtain⟨n,j⟩:=List.mem_iff_getElem?.mp b;obtain⟨c,_,g⟩:=S.ti.Ed j;obtain⟨vs,e⟩:=h a f;exact g.GV vs e
 refine⟨⟨S.jT,S.ti.imp λc a g=>g.imp (λd v r=>r.mono (λ_ _ e=>e) (λ_ _ _ e=>e) λ_ z=>.inl z) (λ_ e=>e) λ_ _ _ e=>e,λa b z=>z.elim (S.sep a b) (i a b),λa z=>z.elim (S.dom a) λf=>?_⟩,⟨λ_ _ e=>e,λ_ z=>.inl z,λa z=>z.elim .inl λf=>.inr (.inr ⟨λb=>i a b f,h a f⟩),λ_ b=>.inl b,λ_ _ e _=>e,S.has,λ_ _ _ e=>e⟩⟩
 obtain⟨vs,e⟩:=h a f;rw[e];simp
theorem bb.laid(S:bb κ α Z Ω H){p:Addr}{o:HO}{c:Cell}(h:H p=none)(k:∀R:D->V->Prop,(∀d v,ah α Z H d v->R d v)->e_ κ R (upd H p o) p c):bb κ (α++[p]) Z (Ω++[c]) (upd H p o)/\bU α Z H (α++[p]) Z (upd H p o):=by
 have f:∀a∈α,a≠p:=λa ha e=>S.has a ha (e▸h)
 have i:∀a,Z a->a≠p:=λa j e=>S.dom a j (e▸h)
 have g:bU α Z H (α++[p]) Z (upd H p o):=⟨λn a e=>by rw[List.getElem?_append_left (List.getElem?_eq_some_iff.mp e).1];exact e,λ_ h=>h,λ_ h=>.inl h,λa ha=>by
   rcases List.mem_append.mp ha with ha|ha
   .exact .inl ha
   .rw[List.mem_singleton.mp ha];exact .inr h,λa u e _=>by rw[ai (aM e h)];exact e,λa ha=>by rw[ai (f a ha)];exact S.has a ha,λa l u e=>by rw[ai (aM e h)];exact e⟩
 refine⟨⟨?_,?_,λa ha j=>?_,λa ha=>by rw[ai (i a ha)];exact S.dom a ha⟩,g⟩
 .refine List.nodup_append.mpr ⟨S.jT,by simp,λa ha b m=>?_⟩
  rw[List.mem_singleton.mp m];exact f a ha
 .refine aG.append (S.ti.imp λc a k=>?_) (.one (k _ λd v r=>S.cV g r))
  refine k.imp (λd v r=>S.cV g r) (λu e=>?_) λb l q e=>?_
  .rw[ai (aM e h)];exact e
  .rw[ai (aM e h)];exact e
 .rcases List.mem_append.mp ha with ha|ha
  .exact S.sep a ha j
  .rw[List.mem_singleton.mp ha]at j;exact i _ j rfl
theorem bb.put(S:bb κ α Z Ω H){n:Nat}{p:Addr}{o:HO}{c:Cell}(E:α[n]?=some p)(s:∀o u,H p≠some (.cw o u))(I:∀R:D->V->Prop,(∀d v,ah α Z H d v->R d v)->e_ κ R (upd H p o) p c):bb κ α Z (Ω.set n c) (upd H p o)/\bU α Z H α Z (upd H p o):=by
 have w:p∈α:=List.mem_of_getElem? E
 have g:bU α Z H α Z (upd H p o):=⟨λn a e=>e,λ_ h=>h,λ_ h=>.inl h,λa k=>.inl k,λa u e k=>by rw[ai (λ(q:a=p)=>k (by rw[q];exact w))];exact e,λa k=>by
   by_cases q:a=p
   .subst q;rw[aF];simp
   .rw[ai q];exact S.has a k,λa l u e=>by rw[ai (λq=>s l u (by rw[←q];exact e))];exact e⟩
 refine⟨⟨S.jT,?_,S.sep,λa k=>?_⟩,g⟩
 .have x:∀{j:List Cell}{f:List Addr}{n:Nat},f.Nodup->aG (λc a=>e_ κ (ah α Z H) H a c) j f->f[n]?=some p->aG (λc a=>e_ κ (ah α Z (upd H p o)) (upd H p o) a c) (j.set n c) f:=by
   intro j f n y z
   induction z generalizing n with
   |nil=>intro e;simp at e
   |@cons K A j f r t B=>
    intro e;have i:=List.nodup_cons.mp y;cases n with
    |zero=>
     simp at e;subst e;refine .cons (I _ λd v r=>S.cV g r) (aG.imp (λ_ _ q=>q) ?_)
     have:∀{j:List Cell}{f:List Addr},A∉f->aG (λc a=>e_ κ (ah α Z H) H a c) j f->aG (λc a=>e_ κ (ah α Z (upd H A o)) (upd H A o) a c) j f:=by
      intro j f m z
      induction z with
      |nil=>exact .nil
      |@cons L M j f r t B=>
       refine .cons (r.imp (λd v q=>S.cV g q) (λu e=>?_) λb l C e=>?_) (B λq=>m (List.mem_cons_of_mem _ q))
       .rw[ai (λq=>m (by rw[q];simp))];exact e
       .rw[ai (λq=>s l C (by rw[←q];exact e))];exact e
     exact this i.1 t
    |succ n=>
     have F:f[n]?=some p:=by simpa using e
     refine .cons (r.imp (λd v q=>S.cV g q) (λu J=>?_) λb l C G=>?_) (B i.2 F)
     .rw[ai (λq=>i.1 (by rw[q];exact List.mem_of_getElem? F))];exact J
     .rw[ai (λq=>s l C (by rw[←q];exact G))];exact G
  exact x S.jT S.ti E
 .by_cases q:a=p
  .subst q;rw[aF];simp
  .rw[ai q];exact S.dom a k
end
end Mir
namespace Mir
open PySem PySem.Spec PyProof.Rows L2
variable [aw]
abbrev fg:=D->aI->List Addr->(Addr->Prop)->Hp->Prop
def bV(κ:Str->Addr->Prop)(Φ:fg)(f:List Addr)(Z:Addr->Prop)(H:Hp)(r:av D)(Q:VK):Prop:=match r with
 |.ok d b=>∀v c a e,bU f Z H a e c->bb κ a e b c->ah a e c d v->Q v c
 |.exc x b=>∀c a e,bU f Z H a e c->bb κ a e b c->Φ x b a e c
 |.bad=>False
structure bY(κ:Str->Addr->Prop)(ck:List Addr)(Z0:Addr->Prop)(H0:Hp)(α:List Addr)(Z:Addr->Prop)(Ω:aI)(ρ:aS)(σ:L2.St)(H:Hp):Prop where
 st:bb κ α Z Ω H
 gr:bU ck Z0 H0 α Z H
 len:σ.length=ρ.length
 val:∀(i:Nat) (d:D),ρ[i]?=some (some d)->∃v,σ[i]?=some (some v)/\ah α Z H d v
abbrev EM:=aS->aI->av D
noncomputable def tO(κ:Str->Addr->Prop)(Φ:fg)(ck:List Addr)(Z0:Addr->Prop)(H0:Hp)(m:EM)(ρ:aS)(Ω:aI):TE:=λb H Q=>
 ∃a Z,bY κ ck Z0 H0 a Z Ω ρ b H/\bV κ Φ a Z H (m ρ Ω) Q
def bc(X:Cx)(κ:Str->Addr->Prop)(Φ:fg)(e:Expr)(m:EM):Prop:=∀a b c d f,PE X e (tO κ Φ a b c m d f)
section
variable{κ:Str->Addr->Prop}{Φ:fg}{α α' ck α1:List Addr}{Z Z' Z0 Z1:Addr->Prop}{Ω aD:aI}{H H' H0 H1:Hp}{ρ:aS}{σ:L2.St}{Q Q':VK}{r:av D}
theorem bV.from(g:bU α Z H α1 Z1 H1)(h:bV κ Φ α Z H r Q):bV κ Φ α1 Z1 H1 r Q:=by
 cases r with
 |ok d b=>exact λv c a e f=>h v c a e (g.trans f)
 |exc x b=>exact λc a e f=>h c a e (g.trans f)
 |bad=>exact h
theorem bV.use{f:D->aI->av D}(h:bV κ Φ α Z H (r.bind f) Q)(k:∀d a,r=.ok d a->∀v c b e,bU α Z H b e c->bb κ b e a c->ah b e c d v->bV κ Φ b e c (f d a) Q->Q' v c):bV κ Φ α Z H r Q':=by
 cases r with
 |ok d a=>exact λv c b e g s q=>k d a rfl v c b e g s q (bV.from g h)
 |exc x a=>exact h
 |bad=>exact h
theorem bV.ret{d:D}{v:V}(S:bb κ α Z Ω H)(q:ah α Z H d v)(h:bV κ Φ α Z H (.ok d Ω) Q):Q v H:=h v H α Z (bU.refl S.has) S q
theorem bY.grow(S:bY κ ck Z0 H0 α Z Ω ρ σ H)(g:bU α Z H α' Z' H')(s:bb κ α' Z' aD H'):bY κ ck Z0 H0 α' Z' aD ρ σ H':=
 ⟨s,S.gr.trans g,S.len,λi d e=>let ⟨v,a,b⟩:=S.val i d e;⟨v,a,S.st.cV g b⟩⟩
theorem aW{d:D}{v:V}(h:fk d=some v):ah α Z H d v:=by
 cases d<;>simp only[fk]at h<;>first|cases h;simp only[ah]|cases h
theorem tj{d:D}(h:ey d=true):∃v,fk d=some v:=by
 cases d<;>first|exact⟨_,rfl⟩|cases h
theorem di{d:D}{v w:V}(h:fk d=some w)(r:Rep Z H d v):v=w:=by
 cases d<;>simp only[fk]at h<;>first | (cases h;simpa only [Rep]using r)|cases h
noncomputable def bH{a b:Type}(f:a->Option b):List a->Option (List b)
 |[]=>some []
 |x::xs=>match f x,bH f xs with
  |some y,some ys=>some (y::ys)
  |_,_=>none
def dE(Ω:aI):Nat->D->Option D
 |_,.non=>some .non
 |_,.bl b=>some (.bl b)
 |_,.int i=>some (.int i)
 |_,.str x=>some (.str x)
 |0,_=>none
 |n+1,.lst ds=>(bH (dE Ω n) ds).map .lst
 |n+1,.tup ds=>(bH (dE Ω n) ds).map .tup
 |n+1,.ref k=>match Ω[k]? with
  |some (.lst ds)=>(bH (dE Ω n) ds).map .lst
  |_=>none
 |_+1,.dct _ _=>none
def tm(b:List Addr)(Z:Addr->Prop):Addr->Prop:=λa=>Z a\/a∈b
theorem eE{f:D->Option D}{R:D->V->Prop}{S:D->V->Prop}(a:∀d d' v,f d=some d'->R d v->S d' v):∀{ds es:List D}{vs:List V},bH f ds=some es->aG R ds vs->aG S es vs
 |[],es,vs,h,r=>by cases h;rw[r.nil_inv];exact .nil
 |d::ds,es,vs,h,r=>by
  simp only[bH]at h;split at h
  .rename_i y ys h1 h2
   cases h;obtain⟨v,b,rfl,c,e⟩:=r.cons_inv;exact .cons (a d y v h1 c) (eE a h2 e)
  .cases h
theorem gy:∀{ds:List D}{vs:List V},aG (Rep Z H) ds vs->aO Z H ds vs
 |_,_,.nil=>.nil
 |_,_,.cons r t=>.cons r (gy t)
theorem gQ(S:bb κ α Z Ω H):∀(n:Nat) {d d':D}{v:V},dE Ω n d=some d'->ah α Z H d v->Rep (tm α Z) H d' v:=by
 intro n
 induction n with
 |zero=>
  intro d d' v h r;cases d<;>simp only[dE]at h<;>first | (cases h;simpa only [Rep,ah]using r)|cases h
 |succ n g=>
  intro d d' v h r;cases d with
  |lst l=>
   simp only[dE]at h;obtain⟨m,b,rfl⟩:=Option.map_eq_some_iff.mp h;simp only[ah]at r;obtain⟨a,c,rfl,i,j,e⟩:=r;simp only[Rep];exact⟨a,c,rfl,.inl i,j,gy (eE (S:=Rep (tm α Z) H) (λd d' v q r=>g q r) b (cq.mp e))⟩
  |tup l=>
   simp only[dE]at h;obtain⟨m,b,rfl⟩:=Option.map_eq_some_iff.mp h;simp only[ah]at r;obtain⟨a,c,rfl,i,j,e⟩:=r;simp only[Rep];exact⟨a,c,rfl,.inl i,.inl j,gy (eE (S:=Rep (tm α Z) H) (λd d' v q r=>g q r) b (cq.mp e))⟩
  |ref k=>
   simp only[dE]at h;split at h
   .rename_i l p
    obtain⟨m,b,rfl⟩:=Option.map_eq_some_iff.mp h;obtain⟨a,o,c,s,e⟩:=S.cell p;simp only[ah]at r;obtain⟨t,f,rfl⟩:=r;rw[o]at f;cases f;simp only[Rep];exact⟨a,c,rfl,.inr (List.mem_of_getElem? o),.inl s,gy (eE (S:=Rep (tm α Z) H) (λd d' v q r=>g q r) b e)⟩
   .cases h
  |dct _ _=>cases h
  |_=>simp only[dE]at h;cases h;simpa only [Rep,ah]using r
theorem dj(S:bb κ α Z Ω H):∀a,tm α Z a->H a≠none:=λa h=>h.elim (S.dom a) (S.has a)
theorem bb.same(S:bb κ α Z Ω H)(h:iH H H'):bb κ α Z Ω H'/\bU α Z H α Z H':=by
 have g:bU α Z H α Z H':=⟨λ_ _ e=>e,λ_ z=>z,λ_ z=>.inl z,λ_ z=>.inl z,λa o e _=>h a o e,λa f=>by
  cases q:H a with
  |none=>exact absurd q (S.has a f)
  |some o=>rw[h a o q];simp,λa o u e=>h a _ e⟩
 refine⟨⟨S.jT,S.ti.imp λc a i=>i.imp (λd v r=>S.cV g r) (λo e=>h a o e) λb o u e=>h b _ e,S.sep,λa z=>?_⟩,g⟩
 cases q:H a with
 |none=>exact absurd q (S.dom a z)
 |some o=>rw[h a o q];simp
theorem bb.adopt(S:bb κ α Z Ω H)(h:iH H H'){p:Addr}(i:H p=none){c:Cell}(j:∀R:D->V->Prop,(∀d v,ah α Z H' d v->R d v)->e_ κ R H' p c):bb κ (α++[p]) Z (Ω++[c]) H'/\bU α Z H (α++[p]) Z H':=by
 obtain⟨o,k⟩:=S.same h;have l:∀a∈α,a≠p:=λa ha e=>S.has a ha (e▸i)
 have m:∀a,Z a->a≠p:=λa f e=>S.dom a f (e▸i)
 have g:∀(n:Nat) (a:Addr),α[n]?=some a->(α++[p])[n]?=some a:=λn a e=>by rw[List.getElem?_append_left (List.getElem?_eq_some_iff.mp e).1];exact e
 have mono:∀d v,ah α Z H' d v->ah (α++[p]) Z H' d v:=λd v r=>r.mono g (λ_ _ _ e=>e) λ_ z=>z
 refine⟨⟨?_,?_,λa ha f=>?_,o.dom⟩,⟨g,λ_ z=>z,λ_ z=>.inl z,λa ha=>?_,k.frm,k.has,k.cw⟩⟩
 .refine List.nodup_append.mpr ⟨S.jT,by simp,λa ha b q=>?_⟩
  rw[List.mem_singleton.mp q];exact l a ha
 .exact aG.append (o.ti.imp λc a j=>j.imp mono (λ_ e=>e) λ_ _ _ e=>e) (.one (j _ mono))
 .rcases List.mem_append.mp ha with ha|ha
  .exact S.sep a ha f
  .rw[List.mem_singleton.mp ha]at f;exact m _ f rfl
 .rcases List.mem_append.mp ha with ha|ha
  .exact .inl ha
  .rw[List.mem_singleton.mp ha];exact .inr i
noncomputable def iM(Ω:aI)(c:Cell):av D:=.ok (.ref Ω.length) (Ω++[c])
def fv(Ω:aI):Out Rs->av D
 |.ok (own,d)=>if ey d then .ok d Ω else match own,d with
  |true,.lst ds=>if ds.all ey then iM Ω (.lst ds)else .bad
  |_,_=>.bad
 |_=>.bad
theorem gz(S:bb κ α Z Ω H)(p:Addr):ah (α++[p]) Z H' (.ref Ω.length) (.ref p):=by
 simp only[ah];exact⟨p,by rw[←S.len];simp,rfl⟩
theorem mB:∀{ds:List D}{vs:List V},ds.all ey=true->aO Z1 H1 ds vs->aG (ah α Z H) ds vs
 |[],vs,_,r=>by rw[r.nil_inv];exact .nil
 |d::ds,vs,h,r=>by
  obtain⟨v,b,rfl,c,e⟩:=r.cons_inv;simp only[List.all_cons,Bool.and_eq_true]at h;obtain⟨w,a⟩:=tj h.1;obtain rfl:=di a c;exact .cons (aW a) (mB h.2 e)
theorem iN{bw:Bool}{r:Out Rs}(S:bb κ α Z Ω H)(h:bV κ Φ α Z H (fv Ω r) Q):∃e d,r=.ok (e,d)/\∀v b m f,ez m H f b->dM bw e f H b d v->Q v b:=by
 cases r with
 |ok q=>
  obtain⟨e,d⟩:=q;refine⟨e,d,rfl,λv b m f g q=>?_⟩
  simp only[fv]at h;split at h
  .rename_i o
   obtain⟨w,i⟩:=tj o
   have p:v=w:=by
    have n:=q.nw;cases d with
    |non=>exact di (Z:=f) (H:=b) i n
    |bl _=>exact di (Z:=f) (H:=b) i n
    |int _=>exact di (Z:=f) (H:=b) i n
    |str _=>exact di (Z:=f) (H:=b) i n
    |_=>cases o
   subst p;obtain⟨j,k⟩:=S.same g.same;exact h v b α Z k j (aW i)
  .split at h
   .rename_i s t
    split at h
    .rename_i l
     unfold dM at q;rw[if_pos rfl]at q;obtain⟨a,u,x,y,rfl,z,D,A,B⟩:=q;cases y;obtain⟨j,k⟩:=S.adopt (c:=.lst s) g.same z (λR C=>⟨u,A,(mB l B).imp C⟩)
     exact h _ b _ Z k j (gz S a)
    .exact h.elim
   .exact h.elim
 |exc c E=>exact h.elim
 |bad=>exact h.elim
end
def m1(f:D->aI->av D)(a:EM):EM:=λb c=>(a b c).bind f
def m2(f:D->D->aI->av D)(d e:EM):EM:=λc g=>(d c g).bind λx a=>(e c a).bind λy b=>f x y b
noncomputable def nM(a b:av D):av D:=match a with
 |.bad=>b
 |r=>r
def Ee(f g:D->aI->av D):D->aI->av D:=λx a=>nM (f x a) (g x a)
def uX(f g:D->D->aI->av D):D->D->aI->av D:=λx y a=>nM (f x y a) (g x y a)
def lJ(f g:EM):EM:=λa b=>nM (f a b) (g a b)
def uY(f:D->Out Rs):D->aI->av D:=λx a=>match dE a 8 x with
 |some b=>fv a (f b)
 |none=>.bad
def gb(f:D->D->Out Rs):D->D->aI->av D:=λx y a=>match dE a 8 x,dE a 8 y with
 |some b,some c=>fv a (f b c)
 |_,_=>.bad
def iO(Ω:aI):D->Option Bool
 |.ref k=>match Ω[k]? with
  |some (.lst ds)=>some (!ds.isEmpty)
  |some (.dK kvs)=>some (!kvs.isEmpty)
  |_=>none
 |d=>jM d
def eF:av D->av Bool
 |.ok d Ω=>match iO Ω d with
  |some b=>.ok b Ω
  |none=>.bad
 |.exc x Ω=>.exc x Ω
 |.bad=>.bad
def rz(κ:Str->Addr->Prop)(Φ:fg)(f:List Addr)(Z:Addr->Prop)(H:Hp)(r:av Bool)(Q:Bool->Hp->Prop):Prop:=match r with
 |.ok b c=>∀d a e,bU f Z H a e d->bb κ a e c d->Q b d
 |.exc x c=>∀d a e,bU f Z H a e d->bb κ a e c d->Φ x c a e d
 |.bad=>False
def Ph(κ:Str->Addr->Prop)(Φ:fg)(ck:List Addr)(Z0:Addr->Prop)(H0:Hp)(m:EM)(ρ:aS)(Ω:aI):TT:=λb H Q=>∃a Z,bY κ ck Z0 H0 a Z Ω ρ b H/\rz κ Φ a Z H (eF (m ρ Ω)) Q
def nN(X:Cx)(κ:Str->Addr->Prop)(Φ:fg)(e:Expr)(m:EM):Prop:=∀a b c d f,PT X e (Ph κ Φ a b c m d f)
abbrev AM:=aS->aI->av (List D)
def nO(κ:Str->Addr->Prop)(Φ:fg)(e:List Addr)(Z:Addr->Prop)(H:Hp)(r:av (List D))(Q:List V->Hp->Prop):Prop:=match r with
 |.ok g b=>∀f c a d,bU e Z H a d c->bb κ a d b c->aG (ah a d c) g f->Q f c
 |.exc x b=>∀c a d,bU e Z H a d c->bb κ a d b c->Φ x b a d c
 |.bad=>False
noncomputable def QL(κ:Str->Addr->Prop)(Φ:fg)(ck:List Addr)(Z0:Addr->Prop)(H0:Hp)(m:AM)(ρ:aS)(Ω:aI):TA:=λb H Q=>∃a Z,bY κ ck Z0 H0 a Z Ω ρ b H/\nO κ Φ a Z H (m ρ Ω) Q
def nP(X:Cx)(κ:Str->Addr->Prop)(Φ:fg)(es:List Expr)(m:AM):Prop:=∀a b c d e,PA X es (QL κ Φ a b c m d e)
noncomputable def aq:AM:=λ_ a=>.ok [] a
def aa(a:EM)(as:AM):AM:=λd e=>(a d e).bind λx b=>(as d b).bind λf c=>.ok (x::f) c
def mN(f:List D->aI->av D)(as:AM):EM:=λa b=>(as a b).bind f
section
variable{X:Cx}{κ:Str->Addr->Prop}{Φ:fg}{α α' ck α1:List Addr}{Z Z' Z0 Z1:Addr->Prop}{Ω aD:aI}{H H' H0 H1:Hp}{ρ:aS}{σ:L2.St}{Q Q':VK}{r:av D}{a b e:Expr}{es:List Expr}{ma mb mc m:EM}{as:AM}{pos:Pos}
theorem nO.from{r:av (List D)}{Q:List V->Hp->Prop}(g:bU α Z H α1 Z1 H1)(h:nO κ Φ α Z H r Q):nO κ Φ α1 Z1 H1 r Q:=by
 cases r with
 |ok d b=>exact λv c a e f=>h v c a e (g.trans f)
 |exc x b=>exact λc a e f=>h c a e (g.trans f)
 |bad=>exact h
theorem rz.from{r:av Bool}{Q:Bool->Hp->Prop}(g:bU α Z H α1 Z1 H1)(h:rz κ Φ α Z H r Q):rz κ Φ α1 Z1 H1 r Q:=by
 cases r with
 |ok d b=>exact λc a e f=>h c a e (g.trans f)
 |exc x b=>exact λc a e f=>h c a e (g.trans f)
 |bad=>exact h
theorem nO.use{r:av (List D)}{f:List D->aI->av D}{Q':List V->Hp->Prop}(h:bV κ Φ α Z H (r.bind f) Q)(k:∀ds a,r=.ok ds a->∀vs c b e,bU α Z H b e c->bb κ b e a c->aG (ah b e c) ds vs->bV κ Φ b e c (f ds a) Q->Q' vs c):nO κ Φ α Z H r Q':=by
 cases r with
 |ok d a=>exact λv c b e g s q=>k d a rfl v c b e g s q (bV.from g h)
 |exc x a=>exact h
 |bad=>exact h
theorem PE.or{t u:TE}(h:PE X e t)(h':PE X e u):PE X e (λa H Q=>t a H Q\/u a H Q):=λpins s a H Q I q=>q.elim (h pins s a H Q I) (h' pins s a H Q I)
theorem uZ{a b:av D}:nM a b=a\/(a=.bad/\nM a b=b):=by cases a<;>simp[nM]
theorem bc.alt(h:bc X κ Φ e ma)(h':bc X κ Φ e mb):bc X κ Φ e (lJ ma mb):=by
 intro c i j d f;refine PE.imp (PE.or (h c i j d f) (h' c i j d f)) ?_;rintro l H Q ⟨k,Z,S,g⟩;rcases uZ (a:=ma d f) (b:=mb d f)with q|⟨_,q⟩
 .exact .inl ⟨k,Z,S,by rw[←q];exact g⟩
 .exact .inr ⟨k,Z,S,by rw[←q];exact g⟩
theorem rA{f g:D->D->aI->av D}:m2 (uX f g) ma mb=lJ (m2 f ma mb) (m2 g ma mb):=by
 funext c a
 simp only[m2,lJ];cases ma c a with
 |ok x b=>
  simp only[av.bind];cases mb c b with
  |ok y d=>rfl
  |exc x a=>rfl
  |bad=>rfl
 |exc x a=>rfl
 |bad=>rfl
theorem Ef{f g:D->aI->av D}:m1 (Ee f g) ma=lJ (m1 f ma) (m1 g ma):=by
 funext b a
 simp only[m1,lJ];cases ma b a with
 |ok x c=>rfl
 |exc x a=>rfl
 |bad=>rfl
theorem jU{f:D->aI->av D}{r:V->Hp->VK->Prop}(h:∀l,PE X a l->PE X e λm H Q=>l m H λx c=>r x c Q)(o:bc X κ Φ a ma)
  (p:∀n x b Z Ω H Q,bb κ b Z Ω H->ah b Z H n x->bV κ Φ b Z H (f n Ω) Q->r x H Q):bc X κ Φ e (m1 f ma):=by
 intro i q s t Ω;refine PE.imp (h _ (o i q s t Ω)) ?_;rintro m H Q ⟨b,Z,S,g⟩;refine⟨b,Z,S,g.use λd j _ v c k u A w y z=>?_⟩
 exact p d v k u j c Q w y z
theorem gR{f:D->D->aI->av D}{r:R2}(h:∀u tb,PE X a u->PE X b tb->PE X e (FK r u tb))(n:bc X κ Φ a ma)(o:bc X κ Φ b mb)
  (G:∀z A x y i Z Ω H Q,bb κ i Z Ω H->ah i Z H z x->ah i Z H A y->bV κ Φ i Z H (f z A Ω) Q->r x y H Q):bc X κ Φ e (m2 f ma mb):=by
 intro c k l j Ω;rcases q:ma j Ω with ⟨d,m⟩|⟨x,m⟩|_
 .refine PE.imp (h _ _ (n c k l j Ω) (o c k l j m)) ?_
  rintro B H Q ⟨i,Z,S,g⟩;refine⟨i,Z,S,bV.use g λU C E v V p I J F K L=>?_⟩
  rw[q]at E;cases E;refine⟨p,I,S.grow J F,L.use λd2 s _ w M t N O P R T=>?_⟩
  exact G d d2 v w t N s M Q P (F.cV O K) R T
 .refine PE.imp (h _ _ (n c k l j Ω) (o c k l j Ω)) ?_
  rintro B H Q ⟨i,Z,S,g⟩;refine⟨i,Z,S,?_⟩;simp only[m2,q,av.bind]at g ⊢;exact g
 .refine PE.imp (h _ _ (n c k l j Ω) (o c k l j Ω)) ?_
  rintro B H Q ⟨i,Z,S,g⟩;simp only[m2,q,av.bind]at g;exact g.elim
theorem pB{bw:Bool}{f:D->Out Rs}{i:D}{x:V}(S:bb κ α Z Ω H)(j:ah α Z H i x)(h:bV κ Φ α Z H (uY f i Ω) Q) :
  ∃d a d',Now (tm α Z) H d x/\f d=.ok (a,d')/\∀v b c,ez (tm α Z) H c b->dM bw a c H b d' v->Q v b:=by
 unfold uY at h;split at h
 .rename_i d l
  obtain⟨a,d',e,k⟩:=iN (bw:=bw) S h;exact⟨d,a,d',(gQ S 8 l j).now,e,λv b c g q=>k v b _ c g q⟩
 .exact h.elim
theorem iP{bw:Bool}{f:D->D->Out Rs}{i j:D}{x y:V}(S:bb κ α Z Ω H)(l:ah α Z H i x)(m:ah α Z H j y)(h:bV κ Φ α Z H (gb f i j Ω) Q) :
  ∃d e a d',Now (tm α Z) H d x/\Now (tm α Z) H e y/\f d e=.ok (a,d')/\∀v b c,ez (tm α Z) H c b->dM bw a c H b d' v->Q v b:=by
 unfold gb at h;split at h
 .rename_i d e n o
  obtain⟨a,d',p,k⟩:=iN (bw:=bw) S h;exact⟨d,e,a,d',(gQ S 8 n l).now,(gQ S 8 o m).now,p,λv b c g q=>k v b _ c g q⟩
 .exact h.elim
theorem Ao{i:Nat}{x:Str}(c:X.N[i]?=some x)(e:uB X.env.scope x)(a:(x==("__debug__":Str))=false)(b:(x==("__classdict__":Str))=false):bc X κ Φ (.Name x pos) (λρ Ω=>match ρ[i]? with|some (some d)=>.ok d Ω|_=>.bad):=by
 intro f k l ρ Ω;refine PE.imp (eY c e a b) ?_;rintro m H Q ⟨n,Z,S,g⟩;dsimp only at g;split at g
 .rename_i d a
  obtain⟨v,h,j⟩:=S.val i d a;exact⟨v,h,bV.ret S.st j g⟩
 .exact g.elim
theorem iQ{d:D}{v:V}(h:PE X e (tC v))(a:fk d=some v):bc X κ Φ e (λ_ Ω=>.ok d Ω):=by
 intro b c f i Ω;refine PE.imp h ?_;rintro j H Q ⟨k,Z,S,g⟩;exact bV.ret S.st (aW a) g
noncomputable def cN(Ω:aI):D->Option (List D)
 |.ref k=>match Ω[k]? with
  |some (.lst ds)=>some ds
  |_=>none
 |.lst ds=>some ds
 |_=>none
theorem bS{x:D}{v:V}{ds:List D}(S:bb κ α Z Ω H)(r:ah α Z H x v)(h:cN Ω x=some ds):∃a vs,v=.ref a/\Rd H a (.lst vs)/\aG (ah α Z H) ds vs:=by
 cases x with
 |ref k=>
  simp only[cN]at h;split at h
  .rename_i e f
   cases h;simp only[ah]at r;obtain⟨a,g,rfl⟩:=r;obtain⟨i,b,vs,c,d⟩:=S.cell f;rw[g]at b;cases b;exact⟨a,vs,rfl,.inl c,d⟩
  .cases h
 |lst j=>
  cases h;simp only[ah]at r;obtain⟨a,vs,rfl,_,c,d⟩:=r;exact⟨a,vs,rfl,c,cq.mp d⟩
 |_=>cases h
theorem el{x:V}{ds:List D}(r:ah α Z H (.tup ds) x):∃a vs,x=.ref a/\Z a/\H a=some (.tup vs)/\aG (ah α Z H) ds vs:=by
 simp only[ah]at r;obtain⟨a,vs,e,b,c,d⟩:=r;exact⟨a,vs,e,b,c,cq.mp d⟩
theorem eG{ds:List D}{vs:List V}(S:bb κ α Z Ω H)(r:aG (ah α Z H) ds vs)(k:bV κ Φ α Z H (iM Ω (.lst ds)) Q):∀p,H p=none->Q (.ref p) (upd H p (.lst vs)):=λp a=>by
 obtain⟨b,d⟩:=S.laid (p:=p) (o:=.lst vs) (c:=.lst ds) a λR e=>⟨vs,aF,r.imp e⟩
 exact k _ _ _ Z d b (gz S p)
theorem pC{ds:List D}{vs:List V}(S:bb κ α Z Ω H)(r:aG (ah α Z H) ds vs)(k:bV κ Φ α Z H (.ok (.tup ds) Ω) Q):∀p,H p=none->Q (.ref p) (upd H p (.tup vs)):=λp c=>by
 obtain⟨b,a⟩:=S.xk (p:=p) (o:=.tup vs) c True;simp only[if_true]at b a;refine k _ _ _ _ a b ?_;simp only[ah];exact⟨p,vs,rfl,.inr rfl,aF,cq.mpr (S.jE a r)⟩
theorem tp:nP X κ Φ [] aq:=by
 intro a c d e f;refine PA.imp ng ?_;rintro h H Q ⟨b,Z,S,g⟩;exact g [] H b Z (bU.refl S.st.has) S.st .nil
theorem pD(k:bc X κ Φ e ma)(l:nP X κ Φ es as)(m:starEach (e::es) X.env=(false,eval e X.env)::starEach es X.env):nP X κ Φ (e::es) (aa ma as):=by
 intro a f h b i;rcases q:ma b i with ⟨d,c⟩|⟨x,c⟩|_
 .refine PA.imp (ei (k a f h b i) (l a f h b c) m) ?_
  rintro r H Q ⟨j,Z,S,g⟩;refine⟨j,Z,S,?_⟩;simp only[aa,q,av.bind]at g ⊢;intro v C n w s t y;refine⟨n,w,S.grow s t,?_⟩;have g:=nO.from s g
  rcases o:as b c with ⟨D,p⟩|⟨x,p⟩|_
  .rw[o]at g
   intro E F z G u A B;exact g _ _ _ _ u A (.cons (t.cV u y) B)
  .rw[o]at g;exact g
  .rw[o]at g;exact g
 .refine PA.imp (ei (k a f h b i) (l a f h b i) m) ?_
  rintro r H Q ⟨j,Z,S,g⟩;refine⟨j,Z,S,?_⟩;simp only[aa,q,av.bind]at g ⊢;exact g
 .refine PA.imp (ei (k a f h b i) (l a f h b i) m) ?_
  rintro r H Q ⟨j,Z,S,g⟩;simp only[aa,q,av.bind]at g;exact g.elim
def dm(ds:List D)(Ω:aI):av D:=if small ds.length then iM Ω (.lst ds)else .bad
def lK(ds:List D)(Ω:aI):av D:=if small ds.length then .ok (.tup ds) Ω else .bad
theorem Ap(h:nP X κ Φ es as):bc X κ Φ (.List es pos) (mN dm as):=by
 intro b d e f i;refine PE.imp (DL (h b d e f i)) ?_;rintro o H Q ⟨j,Z,S,g⟩;refine⟨j,Z,S,nO.use g λp k _ q r l s t m c a=>?_⟩
 unfold dm at a;split at a
 .rename_i n
  exact⟨by rw[c.length];exact bz n,eG m c a⟩
 .exact a.elim
theorem Aq{x1}(h:nP X κ Φ es as):bc X κ Φ (.Tuple es x1 pos) (mN lK as):=by
 intro b d e f i;refine PE.imp (DK (h b d e f i)) ?_;rintro o H Q ⟨j,Z,S,g⟩;refine⟨j,Z,S,nO.use g λp k _ q r l s t m c a=>?_⟩
 unfold lK at a;split at a
 .rename_i n
  exact⟨by rw[c.length];exact bz n,pC m c a⟩
 .exact a.elim
def rC(x y:D)(Ω:aI):av D:=match cN Ω x,cN Ω y with
 |some a,some b=>if small (a.length+b.length)then iM Ω (.lst (a++b))else .bad
 |_,_=>.bad
def aJ(op:Operator):D->D->aI->av D:=match op with
 |.Add=>uX rC (gb (dk .Add))
 |op=>gb (dk op)
theorem As{op:Operator}(j:bc X κ Φ a ma)(m:bc X κ Φ b mb):bc X κ Φ (.BinOp a op b pos) (m2 (aJ op) ma mb):=by
 have E:bc X κ Φ (.BinOp a op b pos) (m2 (gb (dk op)) ma mb):=gR (r:=zZ op) (λq tb c f=>Cw (wK op) c f) j m λs t x y u Z w H Q S h i g=>by
  obtain⟨d,e,z,N,A,B,D,k⟩:=iP (bw:=false) S h i g;exact DX (bw:=false) A B (dj S) D k
 have C:op=.Add->bc X κ Φ (.BinOp a op b pos) (m2 rC ma mb):=λe=>by
  subst e;refine gR (r:=zZ .Add) (λq tb c f=>Cw (wK .Add) c f) j m λs t x y u Z w H Q S h i g=>?_
  unfold rC at g;split at g
  .rename_i O P F G
   obtain⟨l,I,rfl,J,o⟩:=bS S h F;obtain⟨n,K,rfl,L,p⟩:=bS S i G;split at g
   .rename_i M
    exact .inr (.inr ⟨l,n,I,K,rfl,rfl,J,L,by rw[o.length,p.length];exact bz M,eG S (o.append p) g⟩)
   .exact g.elim
  .exact g.elim
 cases op with
 |Add=>show bc X κ Φ _ (m2 (uX rC (gb (dk .Add))) ma mb);rw[rA];exact(C rfl).alt E
 |_=>exact E
def Au:D->aI->av D:=uY λx=>match x with|.int i=>.ok (false,.int (-i))|_=>.bad
theorem Av(c:bc X κ Φ a ma):bc X κ Φ (.UnaryOp .USub a pos) (m1 Au ma):=
 jU (r:=rU λi=>.int (-i)) (λl e=>Gn DH e) c λm x n Z o H Q S f g=>by
  obtain⟨d,h,p,j,b,k⟩:=pB (bw:=false) S f g;split at b
  .cases aX j
   cases b;exact⟨_,rfl,k _ H _ (ez.refl (dj S)) (.rep (fm rfl))⟩
  .cases b
end
noncomputable def aT{κ b:Type}[DecidableEq κ](a:List (κ×b))(k:κ):Option b:=(a.find? λc=>decide (c.1=k)).map (·.2)
noncomputable def bE{κ c:Type}[DecidableEq κ](a:List (κ×c))(k:κ)(v:c):List (κ×c):=
 if (a.any λb=>decide (b.1=k))=true then a.map (λb=>if b.1=k then (b.1,v)else b)else a++[(k,v)]
noncomputable def dn{κ b:Type}[DecidableEq κ](a:List (κ×b))(k:κ):List (κ×b):=a.filter λc=>decide (c.1≠k)
section
variable{κ:Type}[DecidableEq κ]{R:D->V->Prop}
theorem gP.val{b:List (κ×D)}{a:List (κ×V)}(h:gP R b a)(k:κ):(∀d,aT b k=some d->∃v,fj a k=some v/\R d v)/\(aT b k=none->fj a k=none):=by
 unfold gP at h
 induction h with
 |nil=>exact⟨λd e=>(by cases e),λ_=>rfl⟩
 |@cons p q c o r t j=>
  obtain⟨i,l⟩:=r
  by_cases e:p.1=k
  .have f:q.1=k:=i▸e
   have g:aT (p::c) k=some p.2:=by simp[aT,List.find?_cons,e]
   rw[g,iD f];exact⟨λd m=>by cases m;exact⟨_,rfl,l⟩,λn=>by cases n⟩
  .have f:¬ q.1=k:=λz=>e (i.trans z)
   have g:aT (p::c) k=aT c k:=by simp[aT,List.find?_cons,e]
   rw[g,iE f];exact j
theorem gP.any{b:List (κ×D)}{a:List (κ×V)}(h:gP R b a)(k:κ):(a.any λc=>decide (c.1=k))=b.any λc=>decide (c.1=k):=by
 unfold gP at h
 induction h with
 |nil=>rfl
 |@cons p q e f r t d=>rw[List.any_cons,List.any_cons,d,r.1]
theorem gP.put{b:List (κ×D)}{a:List (κ×V)}(h:gP R b a)(k:κ){d:D}{v:V}(r:R d v):gP R (bE b k d) (putK a k v):=by
 unfold bE putK;rw[h.any];split
 .rename_i f
  clear f;unfold gP at h
  induction h with
  |nil=>exact .nil
  |@cons p q i j c t g=>
   rw[List.map_cons,List.map_cons];refine .cons ?_ g
   by_cases e:p.1=k
   .rw[if_pos e,if_pos (c.1▸e)];exact⟨c.1,r⟩
   .rw[if_neg e,if_neg (λz=>e (c.1.trans z))];exact c
 .exact aG.append h (.one ⟨rfl,r⟩)
theorem gP.drop{b:List (κ×D)}{a:List (κ×V)}(h:gP R b a)(k:κ):gP R (dn b k) (kl a k):=by
 unfold gP at h
 induction h with
 |nil=>exact .nil
 |@cons p q f g c t d=>
  unfold dn kl;rw[List.filter_cons,List.filter_cons]
  by_cases e:p.1=k
  .have:q.1=k:=c.1▸e
   simp only[e,this,ne_eq,not_true_eq_false,decide_false];exact d
  .have:¬ q.1=k:=λz=>e (c.1.trans z)
   simp only[e,this,ne_eq,not_false_eq_true,decide_true,if_true];exact .cons c d
theorem gP.length{b:List (κ×D)}{a:List (κ×V)}(h:gP R b a):a.length=b.length:=aG.length h
end
noncomputable def u_:D->Option Key
 |.int i=>some (.inl i)
 |.str x=>some (.inr x)
 |_=>none
def kK:D->Option (List Key)
 |.tup ds=>bH u_ ds
 |_=>none
section
variable{X:Cx}{κ:Str->Addr->Prop}{Φ:fg}{α α' ck α1:List Addr}{Z Z' Z0 Z1:Addr->Prop}{Ω aD:aI}{H H' H0 H1:Hp}{ρ:aS}{σ:L2.St}{Q Q':VK}{r:av D}{a b e:Expr}{es:List Expr}{ma mb mc m:EM}{as:AM}{pos:Pos}
theorem iR{d:D}{k:Key}{v:V}(h:u_ d=some k)(r:ah α Z H d v):v=kV k:=by
 cases d with
 |int i=>cases h;simp only[ah]at r;exact r
 |str i=>cases h;simp only[ah]at r;exact r
 |_=>cases h
theorem pE:∀{ds:List D}{a:List Key}{vs:List V},bH u_ ds=some a->aG (ah α Z H) ds vs->vs=a.map kV
 |[],a,vs,h,r=>by cases h;rw[r.nil_inv];rfl
 |d::ds,a,vs,h,r=>by
  simp only[bH]at h;split at h
  .rename_i y ys h1 h2
   cases h;obtain⟨v,b,rfl,c,e⟩:=r.cons_inv;rw[iR h1 c,pE h2 e];rfl
  .cases h
theorem gS{d:D}{a:List Key}{v:V}(h:kK d=some a)(r:ah α Z H d v):∃b,v=.ref b/\H b=some (.tup (a.map kV)):=by
 cases d with
 |tup f=>
  obtain⟨b,g,rfl,_,c,e⟩:=el r;rw[pE h e]at c;exact⟨b,rfl,c⟩
 |_=>cases h
def nQ(Ω:aI)(x y:D):Option (Option D):=match x with
 |.ref k=>match Ω[k]? with
  |some (.dK a)=>(u_ y).map (aT a)
  |some (.dT a)=>(kK y).map (aT a)
  |some (.dF a)=>(u_ y).map (aT a)
  |some (.dG a)=>(kK y).map (aT a)
  |_=>none
 |_=>none
theorem pF{x y:D}{v w:V}{o:Option D}(S:bb κ α Z Ω H)(C:ah α Z H x v)(q:ah α Z H y w)(h:nQ Ω x y=some o):∃a s,v=.ref a/\jl H a w s/\(∀d,o=some d->∃u,s=some u/\ah α Z H d u)/\(o=none->s=none):=by
 cases x with
 |ref k=>
  simp only[nQ]at h;simp only[ah]at C;obtain⟨a,r,rfl⟩:=C;split at h
  .rename_i g i
   obtain⟨f,j,rfl⟩:=Option.map_eq_some_iff.mp h;obtain⟨z,c,e,l,m⟩:=S.cell i;rw[r]at c;cases c
   obtain rfl:=iR j q;obtain⟨n,p⟩:=m.val f;exact⟨a,_,rfl,jl.k l,n,p⟩
  .rename_i g i
   obtain⟨f,j,rfl⟩:=Option.map_eq_some_iff.mp h;obtain⟨z,c,e,l,m⟩:=S.cell i;rw[r]at c;cases c
   obtain⟨b,rfl,A⟩:=gS j q;obtain⟨n,p⟩:=m.val f;exact⟨a,_,rfl,jl.t l A,n,p⟩
  .rename_i g i
   obtain⟨f,j,rfl⟩:=Option.map_eq_some_iff.mp h;obtain⟨z,c,B,e,l,m⟩:=S.cell i;rw[r]at c;cases c
   obtain rfl:=iR j q;obtain⟨n,p⟩:=m.val f;exact⟨a,_,rfl,.inl ⟨e,f,.inr ⟨B,l⟩,rfl,rfl⟩,n,p⟩
  .rename_i g i
   obtain⟨f,j,rfl⟩:=Option.map_eq_some_iff.mp h;obtain⟨z,c,B,e,l,m⟩:=S.cell i;rw[r]at c;cases c
   obtain⟨b,rfl,A⟩:=gS j q;obtain⟨n,p⟩:=m.val f;exact⟨a,_,rfl,.inr ⟨e,f,b,.inr ⟨B,l⟩,rfl,A,rfl⟩,n,p⟩
  .cases h
 |_=>cases h
def eH(op:CmpOp):D->D->aI->av D:=gb λx y=>do let r ←bN op x y;Out.ok (false,D.bl r)
def bg(op:CmpOp):D->D->aI->av D:=eH op
theorem Aw{f:D->D->aI->av D}{r:R2}(h:∀G tb,PE X a G->PE X b tb->PT X e (wh (FK r G tb)))(p:bc X κ Φ a ma)(s:bc X κ Φ b mb)(z:∀x y Ω d aD,f x y Ω=.ok d aD->∃t,d=.bl t)
  (P:∀I J x y i Z Ω H Q,bb κ i Z Ω H->ah i Z H I x->ah i Z H J y->bV κ Φ i Z H (f I J Ω) Q->r x y H Q):nN X κ Φ e (m2 f ma mb):=by
 intro c m n j Ω;rcases q:ma j Ω with ⟨d,k⟩|⟨x,k⟩|_
 .refine PT.imp (h _ _ (p c m n j Ω) (s c m n j k)) ?_
  rintro K H Q ⟨i,Z,S,g⟩;refine⟨i,Z,S,?_⟩;simp only[m2,q,av.bind]at g ⊢;intro v H1 A R L M T;refine⟨A,R,S.grow L M,?_⟩;have g:=rz.from L g
  rcases B:mb j k with ⟨d2,l⟩|⟨x,l⟩|_
  .rw[B]at g
   intro w U C V N Y r2;refine P d d2 v w C V l U _ Y (M.cV N T) r2 ?_;have g:=rz.from N g
   dsimp only[av.bind]at g;rcases o:f d d2 l with ⟨d3,E⟩|⟨x,E⟩|_
   .rw[o]at g
    obtain⟨t,rfl⟩:=z _ _ _ _ _ o;intro u H3 F Z3 g3 s3 O;simp only[ah]at O;exact⟨t,O,g H3 F Z3 g3 s3⟩
   .rw[o]at g;exact g
   .rw[o]at g;exact g
  .rw[B]at g;exact g
  .rw[B]at g;exact g
 .refine PT.imp (h _ _ (p c m n j Ω) (s c m n j Ω)) ?_
  rintro K H Q ⟨i,Z,S,g⟩;refine⟨i,Z,S,?_⟩;simp only[m2,q,av.bind,eF]at g ⊢;exact g
 .refine PT.imp (h _ _ (p c m n j Ω) (s c m n j Ω)) ?_
  rintro K H Q ⟨i,Z,S,g⟩;simp only[m2,q,av.bind,eF]at g;exact g.elim
theorem nR{op:CmpOp}{a b:D}{x y:V}(S:bb κ α Z Ω H)(c:ah α Z H a x)(f:ah α Z H b y)(g:bV κ Φ α Z H (eH op a b Ω) Q):wM op x y H Q:=by
 obtain⟨d,e,h,m,i,j,l,k⟩:=iP (bw:=false) S c f g;exact DY (bw:=false) i j (dj S) l k
theorem nS{op:CmpOp}:∀x y Ω d aD,eH op x y Ω=.ok d aD->∃t,d=.bl t:=λx y Ω d aD h=>by
 unfold eH gb at h;split at h
 .rename_i a b _ _
  dsimp only at h;cases q:bN op a b with
  |ok t=>
   have e:(do let r ←bN op a b;Out.ok (false,D.bl r))=Out.ok (false,D.bl t):=by rw[q];rfl
   rw[e]at h;simp only[fv,ey,if_true]at h;cases h;exact⟨_,rfl⟩
  |exc c f=>
   have e:(do let r ←bN op a b;Out.ok (false,D.bl r))=Out.exc c f:=by rw[q];rfl
   rw[e]at h;cases h
  |bad=>
   have e:(do let r ←bN op a b;Out.ok (false,D.bl r))=Out.bad:=by rw[q];rfl
   rw[e]at h;cases h
 .cases h
theorem tq{op:CmpOp}(h:X.A.units+64<cLine)(i:behindInMarks op b=false)(j:bc X κ Φ a ma)(k:bc X κ Φ b mb):bc X κ Φ (.Compare a [op] [b] pos) (m2 (bg op) ma mb)/\nN X κ Φ (.Compare a [op] [b] pos) (m2 (bg op) ma mb):=by
 have E:bc X κ Φ (.Compare a [op] [b] pos) (m2 (eH op) ma mb):=gR (λl tb c d=>sx (gq h op) c d i) j k λm n x y o Z p H Q S e f g=>nR S e f g
 have T:nN X κ Φ (.Compare a [op] [b] pos) (m2 (eH op) ma mb):=Aw (λl tb c d=>sy (gq h op) c d i) j k nS λm n x y o Z p H Q S e f g=>nR S e f g
 exact⟨E,T⟩
def fw(Ω:aI)(x:D):Option (List D):=match x with
 |.tup a=>some a
 |x=>cN Ω x
def Ax(x y:D)(Ω:aI):av D:=match fw Ω x,y with
 |some a,.int i=>match L2.gN a i with
  |some d=>.ok d Ω
  |none=>.bad
 |_,_=>.bad
def xl(x y:D)(Ω:aI):av D:=match nQ Ω x y with
 |some (some d)=>.ok d Ω
 |_=>.bad
def aZ:D->D->aI->av D:=uX Ax (uX xl (gb ko))
theorem kL{x:D}{v:V}{ds:List D}{K:PySem.W.Frag}(S:bb κ α Z Ω H)(r:ah α Z H x v)(h:fw Ω x=some ds):∃a vs,v=.ref a/\(mU K H a vs\/qM K H a vs)/\aG (ah α Z H) ds vs:=by
 unfold fw at h;split at h
 .cases h
  obtain⟨a,vs,rfl,_,b,c⟩:=el r;exact⟨a,vs,rfl,.inr (sM (.inl b)),c⟩
 .obtain⟨a,vs,rfl,b,c⟩:=bS S r h
  exact⟨a,vs,rfl,.inl (nG b),c⟩
theorem Ay{ds:List D}{vs:List V}{R:D->V->Prop}{i:Int}{d:D}(r:aG R ds vs)(h:L2.gN ds i=some d):∃v,L2.gN vs i=some v/\R d v:=by
 unfold L2.gN at h ⊢;rw[r.length];cases q:L2.wA ds.length i with
 |none=>rw[q]at h;cases h
 |some n=>rw[q]at h;exact r.get h
theorem Az(G:X.A.units+1<cLine)(l:sG b)(m:bc X κ Φ a ma)(n:bc X κ Φ b mb):bc X κ Φ (.Subscript a b pos) (m2 aZ ma mb):=by
 unfold aZ;rw[rA,rA];refine bc.alt ?_ (bc.alt ?_ ?_)
 .refine gR (r:=JH X.K) (λt tb f h=>CB wB f h l) m n λw z x y B Z C H Q S j c g=>?_
  unfold Ax at g;split at g
  .rename_i N i o
   obtain⟨p,D,rfl,h2,q⟩:=kL (K:=X.K) S j o;simp only[ah]at c;subst c;split at g
   .rename_i d s
    obtain⟨v,E,F⟩:=Ay q s;rcases h2 with h2|h2
    .exact .inl ⟨p,D,i,v,rfl,rfl,h2,E,bV.ret S F g⟩
    .exact .inr (.inl ⟨p,D,i,v,rfl,rfl,h2,E,bV.ret S F g⟩)
   .exact g.elim
  .exact g.elim
 .refine gR (r:=λx y H Q=>∃a v,x=.ref a/\jl H a y (some v)/\Q v H) (λt tb f h=>zV G f h l) m n λw z x y B Z C H Q S j c g=>?_
  unfold xl at g;split at g
  .rename_i d s
   obtain⟨a,O,rfl,o,h2,_⟩:=pF S j c s;obtain⟨u,rfl,q⟩:=h2 d rfl;exact⟨a,u,rfl,o,bV.ret S q g⟩
  .exact g.elim
 .refine gR (r:=JH X.K) (λt tb f h=>CB wB f h l) m n λw z x y B Z C H Q S j c g=>?_
  obtain⟨d,e,I,P,J,L,M,k⟩:=iP (bw:=false) S j c g;exact D_ (bw:=false) J L (dj S) M k
def f_(n:Bool)(m:EM):aS->aI->av (Option Int):=λc b=>if n=true then .ok none b else (m c b).bind λd a=>match d with
 |.int i=>.ok (some i) a
 |_=>.bad
def va(x:D)(a b:Option Int)(Ω:aI):av D:=match x,cN Ω x with
 |_,some c=>iM Ω (.lst (cE c a b))
 |.str z,none=>fv Ω (wJ (.str z) a b)
 |_,_=>.bad
def gC(e:EM)(f:Bool)(g:EM)(i:Bool)(j:EM):EM:=λa k=>(e a k).bind λx b=>(f_ f g a b).bind λl c=>(f_ i j a c).bind λh d=>va x l h d
def JK(X:Cx)(κ:Str->Addr->Prop)(Φ:fg)(o:Option Expr)(n:Bool)(m:EM):Prop:=(o=none/\n=true)\/∃e,o=some e/\n=false/\bc X κ Φ e m
theorem dP{o:Option Expr}{n:Bool}(h:JK X κ Φ o n m)(ck:List Addr)(Z0:Addr->Prop)(H0:Hp)(ρ:aS)(Ω:aI):∃t,PO X o t/\∀g H b Z Q,bY κ ck Z0 H0 b Z Ω ρ g H ->
  (match f_ n m ρ Ω with
   |.ok l vb=>∀c a f,bU b Z H a f c->bb κ a f vb c->Q l c
   |.exc x vb=>∀c a f,bU b Z H a f c->bb κ a f vb c->Φ x vb a f c
   |.bad=>False)->t g H Q:=by
 rcases h with ⟨rfl,rfl⟩|⟨e,rfl,rfl,r⟩
 .refine⟨sE,zQ,λg H b Z Q S k=>?_⟩
  exact k H b Z (bU.refl S.st.has) S.st
 .refine⟨_,zR (r ck Z0 H0 ρ Ω),λg H b Z Q S k=>⟨b,Z,S,?_⟩⟩
  simp only[f_,Bool.false_eq_true,if_false]at k;rcases q:m ρ Ω with ⟨d,vb⟩|⟨x,vb⟩|_
  .rw[q]at k
   intro v s j u w y p;cases d with
   |int i=>simp only[ah]at p;exact⟨i,p,k s j u w y⟩
   |_=>exact k.elim
  .rw[q]at k;exact k
  .rw[q]at k;exact k
theorem AA{ds:List D}{vs:List V}{R:D->V->Prop}(h:aG R ds vs)(a b:Option Int):aG R (cE ds a b) (uL vs a b):=by
 unfold cE uL;rw[h.length];exact(h.drop _).take _
theorem AB{lo hi:Option Expr}{M N:Bool}{O P:EM}{p2:Pos}(y:bc X κ Φ a ma)(R:JK X κ Φ lo M O)(z:JK X κ Φ hi N P):bc X κ Φ (.Subscript a (.Slice lo hi none p2) pos) (gC ma M O N P):=by
 intro b e f c j;rcases q:ma c j with ⟨d,i⟩|⟨x,i⟩|_
 .obtain⟨tl,n,E⟩:=dP R b e f c i
  rcases A:f_ M O c i with ⟨l,o⟩|⟨x,o⟩|_
  .obtain⟨F,m,B⟩:=dP z b e f c o
   refine PE.imp (gm (r:=GP X.K) (iC.or kC) (y b e f c j) n m) ?_;rintro s H Q ⟨t,Z,S,g⟩;refine⟨t,Z,S,?_⟩;simp only[gC,q,A,av.bind]at g ⊢;intro v T u U C G r1;have g:=bV.from C g
   have S1:=S.grow C G;refine E s T u U _ S1 ?_;rw[A];intro V w Y D I;have g:=bV.from D g
   have S2:=S1.grow D I;refine B s V w Y _ S2 ?_;rcases q3:f_ N P c o with ⟨h,a0⟩|⟨x,a0⟩|_
   .rw[q3]at g
    intro H3 b0 Z3 g3 J;have g:=bV.from g3 g
    have r3:=I.cV g3 (G.cV D r1);dsimp only[av.bind]at g;unfold va at g;split at g
    .rename_i ds hd
     obtain⟨p,vs,rfl,h1,h2⟩:=bS J r3 hd;exact .inl ⟨p,vs,rfl,nG h1,eG J (AA h2 l h) g⟩
    ·
     simp only[ah]at r3;subst r3;obtain⟨c0,d,L,k⟩:=iN (bw:=false) J g;simp only[wJ]at L;split at L
     .rename_i hs
      cases L;exact .inr ⟨_,rfl,bz hs,k _ H3 _ _ (ez.refl J.dom) (.rep (fm rfl))⟩
     .cases L
    .exact g.elim
   .rw[q3]at g;exact g
   .rw[q3]at g;exact g
  .obtain⟨F,m,B⟩:=dP z b e f c i
   refine PE.imp (gm (r:=GP X.K) (iC.or kC) (y b e f c j) n m) ?_;rintro s H Q ⟨t,Z,S,g⟩;refine⟨t,Z,S,?_⟩;simp only[gC,q,A,av.bind]at g ⊢;intro v T u U C G r1;refine E s T u U _ (S.grow C G) ?_;rw[A];intro V w Y D I;exact g V w Y (C.trans D) I
  .obtain⟨F,m,B⟩:=dP z b e f c i
   refine PE.imp (gm (r:=GP X.K) (iC.or kC) (y b e f c j) n m) ?_;rintro s H Q ⟨t,Z,S,g⟩;simp only[gC,q,A,av.bind]at g;exact g.elim
 .obtain⟨tl,n,E⟩:=dP R b e f c j
  obtain⟨F,m,B⟩:=dP z b e f c j;refine PE.imp (gm (r:=GP X.K) (iC.or kC) (y b e f c j) n m) ?_;rintro s H Q ⟨t,Z,S,g⟩;refine⟨t,Z,S,?_⟩;simp only[gC,q,av.bind]at g ⊢;exact g
 .obtain⟨tl,n,E⟩:=dP R b e f c j
  obtain⟨F,m,B⟩:=dP z b e f c j;refine PE.imp (gm (r:=GP X.K) (iC.or kC) (y b e f c j) n m) ?_;rintro s H Q ⟨t,Z,S,g⟩;simp only[gC,q,av.bind]at g;exact g.elim
end
theorem PE.ex{X:Cx}{e:Expr}{b:Type}{t:b->TE}(h:∀i,PE X e (t i)):PE X e (λa H Q=>∃i,t i a H Q):=λpins s a H Q I ⟨i,q⟩=>h i pins s a H Q I q
theorem PT.ex{X:Cx}{e:Expr}{b:Type}{t:b->TT}(h:∀i,PT X e (t i)):PT X e (λa H Q=>∃i,t i a H Q):=λpins s a H Q I ⟨i,q⟩=>h i pins s a H Q I q
theorem PW.ex{X:Cx}{e:Expr}{b:Type}{t:b->TT}(h:∀i,PW X e (t i)):PW X e (λa H Q=>∃i,t i a H Q):=λc pins s a H Q I ⟨i,q⟩=>h i c pins s a H Q I q
theorem PA.ex{X:Cx}{es:List Expr}{c:Type}{t:c->TA}(h:∀i,PA X es (t i)):PA X es (λa H Q=>∃i,t i a H Q):=λb pins s a H Q I ⟨i,q⟩=>h i b pins s a H Q I q
def fQ(c d:EM):EM:=λb e=>(c b e).bind λx a=>match iO a x with
 |some true=>d b a
 |some false=>.ok x a
 |none=>.bad
def vd(c d:EM):EM:=λb e=>(c b e).bind λx a=>match iO a x with
 |some false=>d b a
 |some true=>.ok x a
 |none=>.bad
def gf(b:EM):EM:=λc d=>(eF (b c d)).bind λt a=>.ok (.bl (!t)) a
section
variable{X:Cx}{κ:Str->Addr->Prop}{Φ:fg}{α α' ck α1:List Addr}{Z Z' Z0 Z1:Addr->Prop}{Ω aD:aI}{H H' H0 H1:Hp}{ρ:aS}{σ:L2.St}{Q Q':VK}{r:av D}{a b e ce:Expr}{rest:List Expr}{es:List Expr}{ma mb mc m:EM}{as:AM}{pos p:Pos}
theorem gD{d:D}{v:V}{t:Bool}{K:PySem.W.Frag}(S:bb κ α Z Ω H)(r:ah α Z H d v)(h:iO Ω d=some t):oQ K v H t:=by
 cases d with
 |non=>simp only[ah]at r;subst r;cases h;rfl
 |bl b=>simp only[ah]at r;subst r;cases h;rfl
 |int b=>simp only[ah]at r;subst r;cases h;rfl
 |str b=>
  simp only[ah]at r;subst r
  have n:Now Z H (.str b) (.str b):=by simp only[Now,Rep]
  exact DZ n h
 |lst ds=>
  cases h;obtain⟨a,c,rfl,f,g⟩:=bS (ds:=ds) S r rfl;refine .inl ⟨c,nG f,?_⟩;have:=g.length;cases ds<;>cases c<;>simp at this ⊢
 |tup ds=>
  cases h;obtain⟨a,c,rfl,_,f,g⟩:=el r;refine .inr (.inl ⟨c,sM (.inl f),?_⟩);have:=g.length;cases ds<;>cases c<;>simp at this ⊢
 |dct _ _=>cases h
 |ref k=>
  simp only[iO]at h;split at h
  .rename_i ds j
   cases h;obtain⟨a,c,rfl,f,g⟩:=bS (ds:=ds) S r (by simp only[cN,j])
   refine .inl ⟨c,nG f,?_⟩;have:=g.length;cases ds<;>cases c<;>simp at this ⊢
  .rename_i l j
   cases h;simp only[ah]at r;obtain⟨a,m,rfl⟩:=r;obtain⟨o,i,e,f,g⟩:=S.cell j;rw[m]at i;cases i
   refine .inr (.inr ⟨e,f,?_⟩);have:=g.length;cases l<;>cases e<;>simp at this ⊢
  .cases h
theorem rz.use{r:av Bool}{f:Bool->aI->av D}{Q':Bool->Hp->Prop}(h:bV κ Φ α Z H (r.bind f) Q)(k:∀t a,r=.ok t a->∀c b e,bU α Z H b e c->bb κ b e a c->bV κ Φ b e c (f t a) Q->Q' t c):rz κ Φ α Z H r Q':=by
 cases r with
 |ok d a=>exact λc b e g s=>k d a rfl c b e g s (bV.from g h)
 |exc x a=>exact h
 |bad=>exact h
theorem rz.Pj{Q:Bool->Hp->Prop}{K:PySem.W.Frag}(h:rz κ Φ α Z H (eF r) Q):bV κ Φ α Z H r (λv a=>∃t,oQ K v a t/\Q t a):=by
 cases r with
 |ok d b=>
  intro v a c e g s q;simp only[eF]at h;split at h
  .rename_i t f
   exact⟨t,gD s q f,h a c e g s⟩
  .exact h.elim
 |exc x b=>exact h
 |bad=>exact h.elim
theorem AD(h:bc X κ Φ e m)(c:∀a,isTrue e X.env a=(do let v ←a;standAt e.pos;holding [v] (truthy v))):nN X κ Φ e m:=by
 intro b d f i j;refine PT.imp (wm (h b d f i j) c) ?_;rintro l H Q ⟨k,Z,S,g⟩;exact⟨k,Z,S,g.Pj⟩
theorem AE(n:bc X κ Φ a ma)(o:bc X κ Φ (.BoolOp .And (b::rest) pos) mb):bc X κ Φ (.BoolOp .And (a::b::rest) pos) (fQ ma mb):=by
 intro d k l m p;refine PE.imp (Af (n d k l m p) (PE.ex λc=>o d k l m c)) ?_
 rintro t H Q ⟨q,Z,S,g⟩;refine⟨q,Z,S,bV.use g λx c _ v u h r s e i f=>?_⟩
 split at f
 .rename_i j
  exact⟨true,gD e i j,rb ⟨c,h,r,S.grow s e,f⟩⟩
 .rename_i j
  exact⟨false,gD e i j,ra (bV.ret e i f)⟩
 .exact f.elim
theorem Eg(n:bc X κ Φ a ma)(o:bc X κ Φ (.BoolOp .Or (b::rest) pos) mb):bc X κ Φ (.BoolOp .Or (a::b::rest) pos) (vd ma mb):=by
 intro d k l m p;refine PE.imp (Ec (n d k l m p) (PE.ex λc=>o d k l m c)) ?_
 rintro t H Q ⟨q,Z,S,g⟩;refine⟨q,Z,S,bV.use g λx c _ v u h r s e i f=>?_⟩
 split at f
 .rename_i j
  exact⟨false,gD e i j,ra ⟨c,h,r,S.grow s e,f⟩⟩
 .rename_i j
  exact⟨true,gD e i j,rb (bV.ret e i f)⟩
 .exact f.elim
theorem vg{op:BoolOp}(c:bc X κ Φ a ma):bc X κ Φ (.BoolOp op [a] pos) ma:=λb d e f g=>Dv (c b d e f g)
theorem AF(d:bc X κ Φ a ma):bc X κ Φ (.UnaryOp .Not a pos) (gf ma):=by
 intro b e f h i;refine PE.imp (Ag (d b e f h i)) ?_;rintro o H Q ⟨j,Z,S,g⟩;refine⟨j,Z,S,?_⟩;have:=rz.use (Q':=λt c=>Q (.bl (!t)) c) g λt k _ c l p q m n=>bV.ret m (aW rfl) n
 exact this.Pj
theorem AG(h:nN X κ Φ a ma):nN X κ Φ (.UnaryOp .Not a pos) (gf ma):=by
 intro b i j e f;refine PT.imp (v_ (h b i j e f)) ?_;rintro p H Q ⟨k,Z,S,g⟩;refine⟨k,Z,S,?_⟩;simp only[gf]at g;cases q:eF (ma e f)with
 |ok t c=>rw[q]at g;exact λl d m n o=>g l d m n o
 |exc x c=>rw[q]at g;exact g
 |bad=>rw[q]at g;exact g
def CJ(X:Cx)(κ:Str->Addr->Prop)(Φ:fg)(e:Expr)(m:EM):Prop:=∀a b c d f,PW X e (Ph κ Φ a b c m d f)
theorem CJ.pt(h:CJ X κ Φ e m):nN X κ Φ e m:=λa b c d f=>(h a b c d f).pt
theorem AH{op:BoolOp}(c:nN X κ Φ a ma):CJ X κ Φ (.BoolOp op [a] pos) ma:=λb d e f g=>by
 cases op with
 |And=>exact pw_and1 (c b d e f g)
 |Or=>exact pw_or1 (c b d e f g)
theorem AI(p:nN X κ Φ a ma)(r:CJ X κ Φ (.BoolOp .And (b::rest) pos) mb):CJ X κ Φ (.BoolOp .And (a::b::rest) pos) (fQ ma mb):=by
 intro e l m i n;refine PW.imp (pw_and (p e l m i n) (PW.ex λc=>r e l m i c)) ?_
 rintro t H Q ⟨s,Z,S,g⟩;refine⟨s,Z,S,?_⟩;simp only[fQ]at g;cases q:ma i n with
 |ok x c=>
  rw[q]at g;dsimp only[av.bind]at g;simp only[eF];split at g
  .rename_i f
   rw[f];exact λo d j h k=>rb ⟨c,d,j,S.grow h k,rz.from h g⟩
  .rename_i f
   rw[f];simp only[eF,f]at g;exact λo d j h k=>ra (g o d j h k)
  .exact g.elim
 |exc x c=>rw[q]at g;exact g
 |bad=>rw[q]at g;exact g.elim
theorem Eh(p:nN X κ Φ a ma)(r:CJ X κ Φ (.BoolOp .Or (b::rest) pos) mb):CJ X κ Φ (.BoolOp .Or (a::b::rest) pos) (vd ma mb):=by
 intro e l m i n;refine PW.imp (pw_or (p e l m i n) (PW.ex λc=>r e l m i c)) ?_
 rintro t H Q ⟨s,Z,S,g⟩;refine⟨s,Z,S,?_⟩;simp only[vd]at g;cases q:ma i n with
 |ok x c=>
  rw[q]at g;dsimp only[av.bind]at g;simp only[eF];split at g
  .rename_i f
   rw[f];exact λo d j h k=>ra ⟨c,d,j,S.grow h k,rz.from h g⟩
  .rename_i f
   rw[f];simp only[eF,f]at g;exact λo d j h k=>rb (g o d j h k)
  .exact g.elim
 |exc x c=>rw[q]at g;exact g
 |bad=>rw[q]at g;exact g.elim
def lL(op b:CmpOp)(g h mc:EM):EM:=λc i=>(g c i).bind λx d=>(h c d).bind λy e=>(eF (eH op x y e)).bind λt a=>if t=true then (mc c a).bind λz f=>eH b y z f else .ok (.bl false) a
theorem xn{op c:CmpOp}(S:bY κ ck Z0 H0 α Z Ω ρ h H)(g:bV κ Φ α Z H (lL op c ma mb mc ρ Ω) Q) :
  qR (wM op) (wM c) (tO κ Φ ck Z0 H0 ma ρ Ω) (λh H Q=>∃a,tO κ Φ ck Z0 H0 mb ρ a h H Q) (λh H Q=>∃a,tO κ Φ ck Z0 H0 mc ρ a h H Q) h H Q:=by
 refine⟨α,Z,S,bV.use g λx a _ v R j D s k E F=>?_⟩
 refine⟨a,j,D,S.grow s k,bV.use F λy l _ w G m I A n B e=>?_⟩
 have J:=(S.grow s k).grow A n;refine nR (op:=op) (κ:=κ) (Φ:=Φ) n (k.cV A E) B ?_;cases q:eH op x y l with
 |ok d b=>
  obtain⟨t,rfl⟩:=nS _ _ _ _ _ q;intro u T o K p r C;simp only[ah]at C;refine⟨t,C,?_⟩;rw[q]at e;have f:bV κ Φ m I G (if t=true then (mc ρ b).bind λz i=>eH c y z i else .ok (.bl false) b) Q:=e
  have f:=bV.from p f
  cases t with
  |true=>
   rw[if_pos rfl]at f ⊢;refine⟨b,o,K,J.grow p r,bV.use f λz i _ U V L X M N O P=>?_⟩
   exact nR N (r.cV M (n.cV p B)) O P
  |false=>
   rw[if_neg Bool.false_ne_true]at f ⊢;exact bV.ret r (aW rfl) f
 |exc x b=>rw[q]at e;exact e
 |bad=>rw[q]at e;exact e
theorem AJ{op c:CmpOp}(j:X.A.units+64<cLine)(k:lastMarks [op,c] [b,ce]=false)(l:bc X κ Φ a ma)(m:bc X κ Φ b mb)(n:bc X κ Φ ce mc):bc X κ Φ (.Compare a [op,c] [b,ce] pos) (lL op c ma mb mc):=by
 intro d f h i o;refine PE.imp (wj (gq j op) (gq j c) (l d f h i o) (PE.ex λe=>m d f h i e) (PE.ex λe=>n d f h i e) k) ?_
 rintro p H Q ⟨q,Z,S,g⟩;exact xn S g
theorem Ei{op a:CmpOp}{d:D}{aD:aI}(h:lL op a ma mb mc ρ Ω=.ok d aD):∃t,d=.bl t:=by
 simp only[lL]at h;cases b:ma ρ Ω with
 |ok x c=>
  rw[b]at h;dsimp only[av.bind]at h
  cases e:mb ρ c with
  |ok y f=>
   rw[e]at h;dsimp only[av.bind]at h
   cases g:eF (eH op x y f)with
   |ok t i=>
    rw[g]at h;dsimp only[av.bind]at h
    split at h
    .cases j:mc ρ i with
     |ok z k=>rw[j]at h;exact nS _ _ _ _ _ h
     |exc _ _=>rw[j]at h;cases h
     |bad=>rw[j]at h;cases h
    .cases h;exact⟨_,rfl⟩
   |exc _ _=>rw[g]at h;cases h
   |bad=>rw[g]at h;cases h
  |exc _ _=>rw[e]at h;cases h
  |bad=>rw[e]at h;cases h
 |exc _ _=>rw[b]at h;cases h
 |bad=>rw[b]at h;cases h
theorem AK{op c:CmpOp}(l:X.A.units+64<cLine)(o:lastMarks [op,c] [b,ce]=false)(p:bc X κ Φ a ma)(r:bc X κ Φ b mb)(s:bc X κ Φ ce mc):nN X κ Φ (.Compare a [op,c] [b,ce] pos) (lL op c ma mb mc):=by
 intro f i j h m;refine PT.imp (wk (gq l op) (gq l c) (p f i j h m) (PE.ex λe=>r f i j h e) (PE.ex λe=>s f i j h e) o) ?_
 rintro B H Q ⟨C,Z,S,g⟩;refine xn S ?_;cases q:lL op c ma mb mc h m with
 |ok d e=>
  obtain⟨t,rfl⟩:=Ei q;rw[q]at g;intro v u k w y z n;simp only[ah]at n;exact⟨t,n,g u k w y z⟩
 |exc x e=>rw[q]at g;exact g
 |bad=>rw[q]at g;exact g.elim
def bZ(f:List D->Out Rs):List D->aI->av D:=λb a=>match bH (dE a 8) b with
 |some c=>fv a (f c)
 |none=>.bad
theorem gE{bw:Bool}{f:List D->Out Rs}{xs:List D}{vs:List V}(S:bb κ α Z Ω H)(i:aG (ah α Z H) xs vs)(h:bV κ Φ α Z H (bZ f xs Ω) Q) :
  ∃ds a d',aO (tm α Z) H ds vs/\f ds=.ok (a,d')/\∀v b c,ez (tm α Z) H c b->dM bw a c H b d' v->Q v b:=by
 unfold bZ at h;split at h
 .rename_i ds j
  obtain⟨a,d',e,k⟩:=iN (bw:=bw) S h;exact⟨ds,a,d',gy (eE (S:=Rep (tm α Z) H) (λd d' v q r=>gQ S 8 q r) j i),e,λv b c g q=>k v b _ c g q⟩
 .exact h.elim
theorem vh{k:Nat}{x:Str}{F:List D->Out Rs}(F0:GQ X k x F)(j:br k X.A)(l:Gl X x)(a:(x==("__debug__":Str))=false)
  (m:starEach (e::es) X.env=(false,eval e X.env)::starEach es X.env) (b:(backTo pos (starEach es X.env)).any (·.1)=false) (n:nP X κ Φ (e::es) as) :
  bc X κ Φ (.Call (.Name x p) (e::es) [] pos) (mN (bZ F) as):=by
 obtain⟨f,O,P,o,q,r,F1⟩:=F0.ex;intro c s t u w;refine PE.imp (nq F1 j l o q r .nil iG (n c s t u w) a m b) ?_;rintro R H Q ⟨y,Z,S,g⟩;refine⟨y,Z,S,nO.use g λT z _ B C d E U i G I=>?_⟩
 show kD F (B++[]) C Q E0
 rw[List.append_nil];obtain⟨J,h,K,L,M,N⟩:=gE (bw:=false) i G I;exact⟨tm d E,J,h,K,dj i,L,M,N⟩
end
end Mir
namespace L2
open PySem PySem.Spec PyProof.Rows PySem.W
section
variable{P:Program}{w:World}{K:PySem.W.Frag}{mg:Str->Option Value}{base:Heap}
theorem vY.Pk{x qual:Str}{st:Stmt}{f:Addr}{t:FuncData}{N ps:List Str}{k:Nat}{sp:Sp}{c:Addr}(F:vY K x qual st f t)(z:t.code=.ref c)(S:eR N ps (ae st))(g:∀vs H Q E,sp vs H Q E->vs.length=ps.length)
  (a:∀(A:Around) (outer:List Env) (s s1:Shared) (H:Hp) (vs:List V) (Q:VK) (E:XK),br k (A.deeper (envOfC qual (ae st) s.heap.objs.size f (.ref c)))->sp vs H Q E ->
   Inv (cx ek P w K mg base N qual (ae st) f (.ref c) A outer s H E).hP [] (start N vs) H s1 ->
   wpAny (model P w) (A.deeper (envOfC qual (ae st) s.heap.objs.size f (.ref c))) (execs (ay st) (envOfC qual (ae st) s.heap.objs.size f (.ref c)))
    (λfl m=>∃xs v u h p,(fl=.ret u\/fl=.next/\u=Value.none)/\Inv ((cx ek P w K mg base N qual (ae st) f (.ref c) A outer s H E).hP.fz xs) [] h p m/\RelV v u/\Q v p) (λ_ _=>False) s1) :
  bF P w K mg base ek (k+1) f t ps sp:=by
 obtain⟨oc,od,kV,R,pm,an,B,ct,T,rfl,U,C⟩:=F.ex;obtain rfl:B=.ref c:=z;refine⟨g,λA outer s H args X vs Q E D i Y r j=>?_⟩
 have Z:=g _ _ _ _ j;have O:K.In s.heap:=i.mod.zC.keeps λb o e=>(i.bs b o e).1
 have G:s.heap.NoLimit:=i.mod.nolimit.keeps λb o e=>(i.bs b o e).1
 have d:∀y∈ps.zip X,(ae st).names.lookup y.1=some .local\/((ae st).names.lookup y.1=some .cell/\((cellsFrom (s.heap.objs.size+1) (ae st).names []).lookup y.1).isSome=true):=λ⟨n,v⟩ hy=>by
  rcases S.par n (List.of_mem_zip hy).1 with q|q
  .exact .inl q
  .exact .inr ⟨q,PySem.W.cellsFrom_some _ _ _ (.inl q)⟩
 refine codeAny_call_function D.depth (O _ _ U) rfl S.co S.gen rfl (PySem.W.codeRec_of O C) (Y _ _ _ _ ?_);refine wpAny_newFunctionEnv_cells S.kind d λa0 he s1 x=>?_
 subst he;refine⟨G.keeps x.toInCall.keep,codeAny_func ?_⟩;have I:Inv (cx ek P w K mg base N qual (ae st) f (.ref c) A outer s H E) [] (start N vs) H s1:=jk S D.hd i Z r x;refine wpAny_mono (a A outer s s1 H vs Q E (D.deeper _) j (I.wish _)) (λfl m L=>?_) λe m L=>L.elim
 obtain⟨xs,v,u,h,p,M,J,rv,q⟩:=L;have l:CE outer P w H s Q u m:=⟨v,p,J.os,J.bare,J.base,J.hok,rv,q⟩;rcases M with rfl|⟨rfl,rfl⟩
 .exact l
 .exact l
end
theorem vi{P:Program}{w:World}{K:PySem.W.Frag}{t X:Str->Option Value}{k:Nat}{fa a c T:Addr}{fd:FuncData}{x:Str}{sp:Sp}{f:Shared}{vs:List Value}{ns:List Int}
  (KX:K.In f.heap) (A:f.heap.Ns mainGlobals t) (Y:f.heap.Ns builtinsNs X) (Z:∀x:Str,x≠"__name__"->X x=bootBuiltins x) (I:f.heap.NoLimit) (hg:f.gens = #[])
  (a0:∃bm ob,t "__builtins__"=some (.ref bm)/\bm≠builtinsNs/\f.heap.get? bm=some ob/\ob.cls=.type "module"/\ob.dict=some builtinsNs/\ob.data=.plain)
  (hC:CodeHd f.heap c T) (E:f.heap.get? T=some (tabObj #[])) (b0:K.lookup T=none) (c0:K.lookup a=none)
  (B:f.heap.get? a=some {cls:=.type "list",data:=.seq vs.toArray}) (hi:IntsAre vs ns) (hl:ns.length<=sizeLine) (hr:br k callerA)
  (F:∀base:Heap,K.In base->base.Ns mainGlobals t->CodeHd base c T->(∃Pl,base.BuiltinsAt t Pl)->bF P w K t base ek k fa fd [x] sp) (C:∀(s:Shared) (u:Value),BindsTo s fd ⟨[u],[]⟩ [(x,u)])
  (f0:∀H:Hp,H T=some (.lS #[])->a≠T->Rd H a (.lst (ns.map V.int))->sp [.ref a] H (λv _=>v=.bl true) λ_ _ _=>False) :
  codeAny (model P w) callerA (.call (.ref fa) ⟨[.ref a],[]⟩) (λr G=>r=.ok (.ret (.bool true))/\OldK f.heap G.heap/\G.os=f.os/\AllBare G.gens) f:=by
 have rv:=jm hi;have q0:=hi.length
 have J:a≠T:=λz=>by
  rw[z,E]at B;cases B
 let H:Hp:=λb=>if b=T then some (.lS #[])else if b=a then some (.cw {cls:=.type "list",data:=.seq vs.toArray} (.lst (ns.map V.int)))else none
 have HT:H T=some (.lS #[]):=if_pos rfl;have Ha:H a=some (.cw {cls:=.type "list",data:=.seq vs.toArray} (.lst (ns.map V.int))):=(if_neg J).trans (if_pos rfl);have L:∀b,b≠T->b≠a->H b=none:=λb j l=>(if_neg j).trans (if_neg l)
 have g0:ff P w H f.heap:=λb u z=>by
  by_cases j:b=T
  .subst j
   rw[HT]at z;cases z
   exact E
  .by_cases l:b=a
   .subst l
    rw[Ha]at z;cases z
    exact⟨B,by rw[List.length_map];exact hl,vs,_,rv,B⟩
   .rw[L b j l]at z;cases z
 have g:∀{b:Addr}{o:Obj},f.heap.get? b=some o->H b=none->(ke f.heap H).get? b=some o:=λe n=>vZ e n
 have M:∀{b:Addr}{o:Obj},f.heap.get? b=some o->o.cls≠.none->o.cls≠.type "list"->H b=none:=λ{b o} e j l=>L b (λz=>j (by rw[z,E]at e;cases e;rfl)) λz=>l (by rw[z,B]at e;cases e;rfl)
 have j0:∀{b:Addr}{o:Obj}{N:Array DictEntry}{O:Nat},f.heap.get? b=some o->o.data=.dict N O->H b=none:=λ{b o N O} e d=>L b (λz=>by rw[z,E]at e;cases e;cases d) λz=>by rw[z,B]at e;cases e;cases d
 have p:∀{b:Addr}{m:Str->Option Value},f.heap.Ns b m->(ke f.heap H).Ns b m:=λ{b m} ⟨o,N,O,e,d,r⟩=>⟨o,N,O,g e (j0 e d),d,r⟩
 have Q:K.In (ke f.heap H):=λb o e=>g (KX b o e) (L b (λz=>by rw[z,b0]at e;cases e) λz=>by rw[z,c0]at e;cases e)
 have hM:Mod K t (ke f.heap H):=⟨Q,p A,⟨X,p Y,Z⟩,let ⟨mc,j,l⟩:=I;⟨mc,p j,l⟩⟩
 have e0:ni P w K t (ke f.heap H) callerA [] f H:=⟨rfl,hM,λb o e=>zA e,Nat.le_of_eq (uA _ _),trivial,λb Y=>absurd (show b∈([]:List Addr)from Y) (by simp),g0,.of_eq hg⟩
 have m0:CodeHd (ke f.heap H) c T:=by
  obtain⟨o,n0,R,tf,D,tg,o0,S,tt,e,j,r⟩:=hC;exact⟨o,n0,R,tf,D,tg,o0,S,tt,g e (M e (by rw[j];nofun) (by rw[j];decide)),j,r⟩
 have p0:∃Pl,(ke f.heap H).BuiltinsAt t Pl:=by
  obtain⟨bm,ob,j,l,h3,h4,h5,h6⟩:=a0;refine⟨bm+1,bm,ob,j,l,λz=>?_,Nat.ne_of_lt (Nat.lt_succ_self _),g h3 (M h3 (by rw[h4];nofun) (by rw[h4];decide)),h4,h5,h6⟩
  obtain⟨o,N,O,e,d,_⟩:=A;rw[←z,h3]at e;cases e
  rw[h6]at d;cases d
 refine codeAny_mono ((F _ Q (p A) m0 p0).run callerA [] f H ⟨[.ref a],[]⟩ [.ref a] [.ref a] _ _ hr e0 (C f (.ref a)) (.cons rfl .nil) (f0 H HT J (.inr ⟨_,Ha⟩))) λr G h=>?_
 cases r with
 |error e=>exact h.elim
 |ok fl=>
  cases fl with
  |next=>exact False.elim h
  |brk=>exact False.elim h
  |cont=>exact False.elim h
  |ret u=>
   obtain⟨v,H',os,bare,un,y,r',q⟩:=h;have q':v=.bl true:=q;subst q';obtain rfl:u=Value.bool true:=r';obtain⟨more,hm⟩:=un.fK T #[] HT;have U:G.heap.get? T=some (tabObj (#[]++more)):=y T _ hm
   have keep:∀b o,b≠T->f.heap.get? b=some o->G.heap.get? b=some o:=λb o i e=>by
    by_cases l:b=a
    .subst l
     obtain⟨e2,_⟩:=y b _ (un.eX b _ _ Ha);rw[B]at e;cases e
     exact e2
    .exact un.keep b o e (L b i l) (by intro z;exact absurd (show b∈([]:List Addr)from z) (by simp)) (by simp)
   refine⟨rfl,⟨λb o e=>?_,λb o e=>?_⟩,os,bare⟩
   .by_cases i:b=T
    .subst i
     rw[E]at e;cases e
     exact .inr (.inl ⟨(hC.tab E).isCodeTable,rfl,#[],more,rfl,U⟩)
    .exact .inl (keep b o i e)
   .by_cases i:b=T
    .exact⟨_,by rw[i];exact U⟩
    .exact⟨o,keep b o i e⟩
theorem xo{l:PySem.W.OpenLaw}{n k:Nat}{q:Program}{m:List Str}{Q:(Str->Option Value)->Heap->Prop}{M:World->Heap->Prop}{d:DefRec}{K:Params->PySem.W.Frag}{sp:World->Sp}{x:Str}{c T:Addr}
  (R:l.most=some n) (B:n<=sizeLine) (C:d.params.defaults=[]) (S:br k callerA)
  (U:∀(w:World) (h:Heap),M w h->(K w.params).In h/\h.get? T=some (tabObj #[])) (X:∀t,codeHdIn (K t) c T=true) (D:∀t,noTabs (K t)=true) (E:∀t a o,(K t).lookup a=some o->o.cls≠.type "list")
  (F:∀(w:World) (p:Str->Option Value) (A:Addr) (h:Heap),(K w.params).In h->h.Ns mainGlobals p->p d.name=some (.ref A) ->
   ∃I:FuncData,(∀(s:Shared) (u:Value),BindsTo s I ⟨[u],[]⟩ [(x,u)]) /\
    ∀base:Heap,(K w.params).In base->base.Ns mainGlobals p->CodeHd base c T->(∃Z,base.BuiltinsAt p Z)->bF l.prog w (K w.params) p base ek k A I [x] (sp w))
  (J:∀(w:World) (H:Hp) (a:Addr) (ns:List Int),ns.length<=n->H T=some (.lS #[])->a≠T->Rd H a (.lst (ns.map V.int))->sp w [.ref a] H (λv _=>v=.bl true) λ_ _ _=>False) :
  PySem.W.WalkO q m Q M l.row.toRowW d [] (λf vs=>PySem.call f vs):=by
 refine Pc.oZ R C λw N O p mb A o t cd a0 a vs ns G Y ho hd b0 L i r j hg=>?_
 obtain⟨y,P⟩:=U w _ Y;obtain⟨I,hb,hF⟩:=F w p A _ y G.T.g L;refine vi y G.T.g G.T.b G.T.builtins G.T.nolimit hg G.T.bmain (codeHd_of_K y (X _)) P ?_ ?_ i r (Nat.le_trans j B) S hF hb (λH h1 h2 h3=>J w H a ns j h1 h2 h3)
 .cases e:(K w.params).lookup T with
  |none=>rfl
  |some o=>
   have z:=y _ _ e;rw[P]at z;cases z
   exact absurd (List.all_eq_true.mp (D w.params) _ (mem_of_lookupK e)) (by simp)
 .cases e:(K w.params).lookup a with
  |none=>rfl
  |some o=>
   have z:=y _ _ e;rw[i]at z;cases z
   exact absurd rfl (E _ _ _ e)
end L2
namespace L2
open PySem PySem.Spec PyProof.Rows
def GY(a:Addr)(o:Obj):It:=
 ⟨λi H=>∃b,H a=some (.cw o (.dK b))/\i<b.length,λi H x d=>d=H/\∀b,H a=some (.cw o (.dK b))->∃c,b[i]?=some c/\x=kV c.1,λi H=>∃b,H a=some (.cw o (.dK b))/\b.length<=i⟩
theorem fR{a b:Type}{F:a->b->Prop}:∀{xs:List a}{us:List b}{i:Nat}{x:a},Paired F xs us->xs[i]?=some x->∃u,us[i]?=some u/\F x u
 |_,_,_,_,.nil,e=>by simp at e
 |_,_,0,_,.cons r _,e=>by simp at e;subst e;exact⟨_,rfl,r⟩
 |_,_,i+1,x,.cons _ t,e=>by
  obtain⟨u,h1,h2⟩:=fR (i:=i) (x:=x) t (by simpa using e)
  exact⟨u,by simpa using h1,h2⟩
theorem AL{k:Key}{u:Value}{P:Program}{w:World}(h:(bu P w).is k u=true):RelV (kV k) u:=by
 rcases bJ (show kc k u=true from h)with ⟨i,t,rfl,rfl⟩|⟨x,t,rfl,rfl⟩
 .exact⟨t,rfl⟩
 .exact⟨t,rfl⟩
theorem rD{P:Program}{w:World}{H:Hp}{h:Heap}{a:Addr}{o:Obj}{b:List (Key×V)}{es:Array DictEntry}{d:Nat}(ok:ff P w H h)(e:H a=some (.cw o (.dK b)))(f:o.data=.dict es d) :
  ∃vs,KV b vs/\h.DictAt (bu P w) a vs d/\es.size=vs.length/\(a==sysModules)=false:=by
 obtain⟨g,_,k,vs,r,s,l,m,c,n,i,p,j,q⟩:=ok a _ e;rw[g]at c;cases c
 rw[f]at i;cases i
 refine⟨vs,r,⟨o,es,g,n,f,p,j,q⟩,?_,k⟩;rw[←j.length];simp
theorem vj{P:Program}{w:World}{K:PySem.W.Frag}{V:Expr}(a it:Addr){o:Obj}{es:Array DictEntry}{O:Nat}(Q:o.data=.dict es O):Turn P w K V (GY a o) [it] it (λi h=>h.IsKeyIter it a i es.size O) where
 mem:=by simp
 obj:=λi h f b j=>by
  have e:b=it:=by simpa using j
  subst e;obtain⟨o,e,c,d⟩:=f;exact⟨o,e,λv z=>by rw[d]at z;cases z⟩
 keep:=λi h p f k=>by
  obtain⟨o,e,c,d⟩:=f;exact⟨o,k it (by simp) o e,c,d⟩
 item:=by
  intro X y A B R i pins s S H E I t f C;subst y A B;obtain⟨g,u,T⟩:=C;obtain⟨Y,r,D,x,_⟩:=rD I.hok u Q;have l:g[i]?=some g[i]:=List.getElem?_eq_getElem T;obtain⟨q,Z,rq⟩:=fR r l;obtain⟨F,G,f2,J,L,M⟩:=t it (by simp)
  rw[x]at f;refine wpAny_pyNext_dict_item f D (k:=q.1) (v:=q.2) Z λN p hk m sb=>?_
  have I1:Inv X pins S H {s with heap:=p}:=I.turned (t':=s.toks) (λb o j e=>(sb.2 b j).trans e) F G J L M
  obtain⟨o1,e1,c1,d1⟩:=id m;refine⟨N,rfl,lU (s:={s with heap:=p}) e1 c1 d1 (by decide) ⟨kV q.1,H,I1,AL hk,⟨rfl,λU n=>?_⟩,by rw[x];exact m,λb j=>(t b j).1⟩⟩
  rw[u]at n;cases n
  exact⟨g[i],l,by rw[rq.1]⟩
 done:=by
  intro X y A B R i pins s S H E I t f C;subst y A B;obtain⟨g,u,T⟩:=C;obtain⟨Y,r,D,x,_⟩:=rD I.hok u Q;obtain⟨F,G,f2,J,L,M⟩:=t it (by simp)
  have hl:=r.length;rw[x]at f;exact wpAny_pyNext_dict_end (I.ok.hd R) f D (List.getElem?_eq_none (by omega)) λp eb=>⟨rfl,I.turned (t':=s.toks) (λb o j e=>eb b o j e) F G J L M⟩
 self:=λ_ _ _ _ _ f h=>wpAny_pyIter_keyiter f h
section
variable{X:Cx}{pins:List (Addr×Obj)}{σ:St}{H:Hp}{s:Shared}
theorem Inv.AN{a:Addr}{b:List (Key×V)}(I:Inv X pins σ H s)(e:H a=some (.dK b)):∃o es c,s.heap.get? a=some o/\o.data=.dict es c/\Inv X pins σ (upd H a (.cw o (.dK b))) s:=by
 obtain⟨z,g,h,r,o,es,c,d,i,f,j,k,l⟩:=I.hok a _ e;refine⟨o,es,c,d,f,?_⟩;have:=iF (t':=s.toks) (h':=s.heap) (ob:=.cw o (.dK b)) I (by rw[e];exact True.intro) ⟨rfl,λ_ _=>rfl⟩ ⟨o,d⟩ ⟨d,z,g,h,r,o,es,c,d,i,f,j,k,l⟩
 exact this
def GZ(R:It->Hp->Prop)(x:V)(c:Hp):Prop:=∃a b,x=.ref a/\((c a=some (.dK b)/\∀o,R (GY a o) (upd c a (.cw o (.dK b))))\/∃o,c a=some (.cw o (.dK b))/\R (GY a o) c)
theorem AO{p:Expr}{x:V}{u:Value}{R:It->Hp->Prop}(l:Inv X pins σ H s)(B:RelV x u)(q:GZ R x H):wpAny (model X.prog X.w) X.A (pyIter u) (PIE X pins σ p R) X.xe s:=by
 obtain⟨a,m,rfl,q⟩:=q;cases (show u=Value.ref a from B)
 have c:∀(o:Obj) (e:Array DictEntry) (d:Nat) (f:Hp),Inv X pins σ f s->f a=some (.cw o (.dK m))->o.data=.dict e d->R (GY a o) f->wpAny (model X.prog X.w) X.A (pyIter (.ref a)) (PIE X pins σ p R) X.xe s:=by
  intro o e d f g C j h;obtain⟨n,r,D,E,t⟩:=rD g.hok C j;refine wpAny_pyIter_dict t D ?_;have F:Inv X pins σ f {s with heap:=s.heap.push {cls:=.type "dict_keyiterator",data:=.fields #[.ref a,.int 0 0,.int n.length 0,.int d 0]} }:=g.kept (t':=s.toks) λb o q=>Heap.get?_push_of_some _ q
  refine⟨s.heap.objs.size,[s.heap.objs.size],_,_,f,rfl,F,vj a _ j,?_,λb G=>?_,h⟩
  .rw[E]
   exact⟨{cls:=.type "dict_keyiterator",data:=.fields #[.ref a,.int 0 0,.int n.length 0,.int d 0]},Heap.get?_push_size _ rfl,rfl,rfl⟩
  .have z:b=s.heap.objs.size:=by simpa using G
   rw[z];have:=g.zG (b:=s.heap.objs.size) (Nat.le_refl _) (g.hok.fresh (Nat.le_refl _));exact this
 rcases q with ⟨k,h⟩|⟨o,k,h⟩
 .obtain⟨o,e,d,y,j,g⟩:=l.AN k
  exact c o e d _ g aF j (h o)
 .obtain⟨y,_,t,n,r,J,e,d,i,K,I,L⟩:=l.hok a _ k
  rw[y]at i;cases i
  exact c o e d _ l k I h
end
section
variable{prog:Program}{w:World}{A:Around}{E:Value->Shared->Prop}{s:Shared}
theorem vl{a:Addr}{Q:Bool->Shared->Prop}(e:s.TypeIs (.ref a) "dict")(h:Q false s):wpAny (model prog w) A (Builtin.List.listLengthHint (.ref a)) Q E s:=by
 unfold Builtin.List.listLengthHint;refine wpAny_bind (wpAny_specialOf e F.slot_dict_len.lookup ?_);generalize d:("dict.__len__":String)=f
 wp_delta
 rw[show splitId f=some ("dict","__len__")from by subst d;decide +kernel]
 subst d;refine wpAny_bind (wpAny_isInstance (T:="dict") (b:=true) e isSubtype_dict_dict ?_);refine wpAny_ite_split (λc=>absurd c (by decide)) (λ_=>?_)
 refine wpAny_ite_split (λ_=>?_) (λc=>absurd (by decide +kernel) c)
 refine wpAny_bind (wpAny_typeOf e ?_);exact wpAny_pure h
variable{K:Type}[DecidableEq K]{knd:KeyKind prog w K}
end
section
variable{X:Cx}
theorem AQ{vs:List V}{c:Array Value}{P:Nat->Value->Prop}(h:ItemsOf P c vs.length)(j:∀(i:Nat) (u:Value) (v:V),P i u->vs[i]?=some v->RelV v u):Vals vs c.toList:=by
 have d:∀(l:List Value) (vs:List V),l.length=vs.length->(∀(i:Nat) (u:Value) (v:V),l[i]?=some u->vs[i]?=some v->RelV v u)->Vals vs l:=by
  intro l
  induction l with
  |nil=>intro vs h _;cases vs with|nil=>exact .nil|cons a b=>simp at h
  |cons u l k=>
   intro vs h g;cases vs with
   |nil=>simp at h
   |cons v vs=>exact .cons (g 0 u v rfl rfl) (k vs (by simpa using h) λi m n e f=>g (i+1) m n (by simpa using e) (by simpa using f))
 exact d _ _ (by rw[Array.length_toList,h.1]) λi u v e f=>j i u v (h.2 i u (by simpa using e)) f
end
section
variable{prog:Program}{w:World}{A:Around}{E:Value->Shared->Prop}{s:Shared}{d it:Addr}{o:Obj}{es:Array DictEntry}{i ep:Nat}
theorem pG{Q:Value->Shared->Prop}(b:(d==sysModules)=false)(g:s.heap.get? d=some o)(x:o.ExactDict)(a:o.data=.dict es ep)
  (h:Q (.ref s.heap.objs.size) {s with heap:=s.heap.push {cls:=.type "dict_keyiterator",data:=.fields #[.ref d,.int 0 0,.int es.size 0,.int ep 0]} }):wpAny (model prog w) A (pyIter (.ref d)) Q E s:=by
 have T:s.TypeIs (.ref d) "dict":=⟨o,g,x.1⟩;refine wpAny_pyIter_slot T F.slot_dict_iter (wpAny_call_entry F.slot_dict_iter T F.entry_dict_iter ?_ (F.args_dict_iter_1 _));unfold Builtin.«dict.__iter__» Builtin.Dict.dictSlotNone;refine wpAny_bind (wpAny_bind (wpAny_notOrdered_dict T (wpAny_pure ?_)))
 show wpAny _ _ (Builtin.Dict.showsAll d >>= _) _ _ s
 unfold Builtin.Dict.showsAll;rw[if_neg (by rw[b];decide)]
 refine wpAny_bind (wpAny_pure (wpAny_bind (wpAny_dictEntries g a (wpAny_bind (wpAny_dictEpoch g a (wpAny_bind (wpAny_newObj_type (wpAny_pure ⟨_,rfl,"dict_keyiterator",_,⟨_,Heap.get?_push_size _ rfl,rfl⟩,F.slot_dict_keyiterator_next.lookup,?_⟩))))))));simpa[rawInt]using h
theorem iS{Q:Option Value->Shared->Prop}(c:s.heap.IsKeyIter it d i es.size ep)(g:s.heap.get? d=some o)(k:o.data=.dict es ep)
  (n:∀e,es[i]?=some e->∀h',h'.IsKeyIter it d (i+1) es.size ep->Heap.SameBut it s.heap h'->Q (some e.key) {s with heap:=h' })
  (p:es[i]?=none->A.handled=none/\∀h',Heap.ExtBut it s.heap h'->Q none {s with heap:=h' }):wpAny (model prog w) A (pyNext (.ref it)) Q E s:=by
 obtain⟨x,h,r,f⟩:=id c;unfold pyNext;refine wpAny_bind (wpAny_attempt (wpAny_callSpecial?_slot (name:=Str.ofString "__next__") c.typeIs F.slot_dict_keyiterator_next (wpAny_call_entry F.slot_dict_keyiterator_next c.typeIs F.entry_dict_keyiterator_next (wpAny_bind (wpAny_pure (wpAny_bind (wpAny_bind ?_)))) (F.args_dict_keyiterator_next_1 _))))
 first|refine wpAny_bind (wpAny_typeNameOfWhole_keyiter c.typeIs (wpAny_pure (wpAny_bind (wpAny_fieldsOf h f ?_))))|refine wpAny_bind (wpAny_typeNameOf_keyiter c.typeIs (wpAny_pure (wpAny_bind (wpAny_fieldsOf h f ?_))))
 simp only[show Builtin.Dict_items.ownsTuple "dict_keyiterator"=false from by decide,Bool.false_eq_true,if_false]
 show wpAny _ _ (if (Value.ref d==Value.none)=true then _ else _) _ _ s
 rw[if_neg (show ¬ ((Value.ref d==Value.none)=true)from Bool.false_ne_true)]
 refine wpAny_bind (wpAny_pure (wpAny_bind (wpAny_dictEntries g k ?_)));rw[if_neg (by simp)]
 refine wpAny_bind (wpAny_pure (wpAny_bind (wpAny_dictEpoch g k ?_)));rw[if_neg (by simp)]
 refine wpAny_pure ?_;cases q:es[i]? with
 |some e=>
  simp only[show ¬ ((i:Int)<0)from by omega,if_false,Int.toNat_natCast,q]
  refine wpAny_bind ?_
  first|refine wpAny_bind (wpAny_typeNameOfWhole_keyiter c.typeIs (wpAny_pure (wpAny_bind (wpAny_isOneOf_keyiter c.typeIs ?_))))|refine wpAny_bind (wpAny_typeNameOf_keyiter c.typeIs (wpAny_pure (wpAny_bind (wpAny_isOneOf_keyiter c.typeIs ?_))))
  show wpAny _ _ (setField (.ref it) 1 (rawInt ((i:Int)+1)) >>= _) _ _ s
  refine wpAny_bind (wpAny_setField h f (by simp) ?_)
  generalize l:s.heap.update it (Obj.mapFields (·.setIfInBounds 1 (rawInt ((i:Int)+1))))=h';have j:h'.IsKeyIter it d (i+1) es.size ep:=by rw[←l];exact⟨_,Heap.get?_update_self _ h (Obj.isFreed_of_fields (Obj.data_mapFields f _)),(Obj.cls_mapFields ..).trans r,by rw[Obj.data_mapFields f];simp[rawInt]⟩
  refine wpAny_bind (wpAny_holding (wpAny_bind (wpAny_isOneOf_keyiter (s:={s with heap:=h' }) j.typeIs ?_)))
  show wpAny _ _ (pure e.key) _ _ _
  exact wpAny_pure (wpAny_pure ⟨_,rfl,wpAny_pure (n e q h' j (by rw[←l];exact Heap.SameBut.update ..))⟩)
 |none=>
  obtain⟨t,u⟩:=p q;simp only[show ¬ ((i:Int)<0)from by omega,if_false,Int.toNat_natCast,q]
  refine wpAny_bind ?_
  first|refine wpAny_bind (wpAny_typeNameOfWhole_keyiter c.typeIs (wpAny_pure ?_))|refine wpAny_bind (wpAny_typeNameOf_keyiter c.typeIs (wpAny_pure ?_))
  show wpAny _ _ (setField (.ref it) 0 .none >>= _) _ _ s
  refine wpAny_bind (wpAny_setField h f (by simp) ?_)
  show wpAny _ _ (newExc (.type "StopIteration") [] >>= _) _ _ _
  refine wpAny_bind ?_;simp only[newExc,newTuple];refine wpAny_bind (wpAny_newObj_type ?_ (by size_fits))
  refine wpAny_bind (m:=firstArgMember _ _) (wpAny_of_eq (a:=Value.none) (by first|rfl | (simp only[firstArgMember];rfl)) (wpAny_newObj_type ?_ (by size_fits)))
  simp only[raiseNew];refine wpAny_bind (wpAny_handled ?_);rw[show A.in1.handled=none from t]
  refine wpAny_bind (wpAny_pure (wpAny_throw ?_));refine wpAny_bind (wpAny_isInstance (T:="StopIteration") (b:=true) ⟨_,Heap.get?_push_size _ rfl,rfl⟩ isSubtype_stop ?_);exact wpAny_pure (u _ (((Heap.SameBut.update ..).extBut.push _).push _))
end
def G_(a:Addr)(o:Obj):It:=
 ⟨λi H=>∃b,H a=some (.cw o (.dT b))/\i<b.length,λi H x d=>d=H/\∀b,H a=some (.cw o (.dT b))->∃c p,b[i]?=some c/\x=.ref p/\H p=some (.tup (c.1.map kV)),λi H=>∃b,H a=some (.cw o (.dT b))/\b.length<=i⟩
theorem kM{a b:Type}{F:a->b->Prop}{xs:List a}{us:List b}(h:Paired F xs us):xs.length=us.length:=Paired.length h
theorem nT{P:Program}{w:World}{H:Hp}{h:Heap}{a:Addr}{o:Obj}{b:List (List Key×V)}{es:Array DictEntry}{k:Nat}(ok:ff P w H h)(e:H a=some (.cw o (.dT b)))(l:o.data=.dict es k) :
  h.get? a=some o/\o.ExactDict/\es.size=b.length/\(a==sysModules)=false/\∀(i:Nat) (d:List Key×V),b[i]?=some d->∃t p,es[i]?=some t/\t.key=.ref p/\H p=some (.tup (d.1.map kV)):=by
 obtain⟨f,_,m,A,r,B,n,s,c,u,g,j,C⟩:=ok a _ e;rw[f]at c;cases c
 rw[l]at g;cases g
 refine⟨f,u,?_,m,λi d x=>?_⟩
 .rw[←Array.length_toList,j,List.length_map,←kM r]
 .obtain⟨q,y,D,z,_⟩:=fR r x
  refine⟨entryOfKey (tupleKind (bu P w)) q,q.2.1,?_,rfl,z⟩;rw[←Array.getElem?_toList,j,List.getElem?_map,y];rfl
theorem rE{P:Program}{w:World}{K:PySem.W.Frag}{tg:Expr}(a it:Addr){o:Obj}{es:Array DictEntry}{Q:Nat}(r:o.data=.dict es Q):Turn P w K tg (G_ a o) [it] it (λi h=>h.IsKeyIter it a i es.size Q) where
 mem:=by simp
 obj:=λi h f b j=>by
  have e:b=it:=by simpa using j
  subst e;obtain⟨o,e,c,d⟩:=f;exact⟨o,e,λv z=>by rw[d]at z;cases z⟩
 keep:=λi h u f k=>by
  obtain⟨o,e,c,d⟩:=f;exact⟨o,k it (by simp) o e,c,d⟩
 item:=by
  intro X A B C R i pins s S H E I x f D;subst A B C;obtain⟨g,y,T⟩:=D;obtain⟨F,x1,hz,_,U⟩:=nT I.hok y r;have l:g[i]?=some g[i]:=List.getElem?_eq_getElem T;obtain⟨t,p,V,hp,G⟩:=U i _ l;obtain⟨J,L,f2,M,N,O⟩:=x it (by simp)
  refine iS f F r (λe m u n sb=>?_) λY=>by rw[V]at Y;cases Y
  rw[V]at m;cases m
  have I1:Inv X pins S H {s with heap:=u}:=I.turned (t':=s.toks) (λb o j e=>(sb.2 b j).trans e) J L M N O
  obtain⟨o1,e1,c1,d1⟩:=id n;rw[hp];refine⟨_,rfl,lU (s:={s with heap:=u}) e1 c1 d1 (by decide) ⟨.ref p,H,I1,rfl,⟨rfl,λZ q=>?_⟩,n,λb j=>(x b j).1⟩⟩
  rw[y]at q;cases q
  exact⟨g[i],p,l,rfl,G⟩
 done:=by
  intro X A B C R i pins s S H E I x f D;subst A B C;obtain⟨g,y,T⟩:=D;obtain⟨F,x1,hz,_,U⟩:=nT I.hok y r;obtain⟨J,L,f2,M,N,O⟩:=x it (by simp)
  exact iS f F r (λe m=>by rw[Array.getElem?_eq_none (by omega)]at m;cases m) λ_=>⟨I.ok.hd R,λu eb=>⟨rfl,I.turned (t':=s.toks) (λb o j e=>eb b o j e) J L M N O⟩⟩
 self:=λ_ _ _ _ _ f h=>wpAny_pyIter_keyiter f h
section
variable{X:Cx}{pins:List (Addr×Obj)}{σ:St}{H:Hp}{s:Shared}
theorem Inv.AR{a:Addr}{c:List (List Key×V)}(I:Inv X pins σ H s)(e:H a=some (.dT c)):∃o es d,s.heap.get? a=some o/\o.data=.dict es d/\Inv X pins σ (upd H a (.cw o (.dT c))) s:=by
 obtain⟨z,i,j,r,o,es,d,f,k,h,l,m⟩:=I.hok a _ e;refine⟨o,es,d,f,h,?_⟩;have n:∀b g,H b=some (.tup g)->upd H a (.cw o (.dT c)) b=some (.tup g):=λb g q=>by rw[ai (λz=>by rw[z,e]at q;cases q)];exact q
 have:=iF (t':=s.toks) (h':=s.heap) (ob:=.cw o (.dT c)) I (by rw[e];exact True.intro) ⟨rfl,λ_ _=>rfl⟩ ⟨o,f⟩ ⟨f,z,i,j,Paired.zz r λp q z=>⟨z.1,n _ _ z.2.1,z.2.2⟩,o,es,d,f,k,h,l,m⟩
 exact this
def Hb(R:It->Hp->Prop)(x:V)(c:Hp):Prop:=∃a b,x=.ref a/\((c a=some (.dT b)/\∀o,R (G_ a o) (upd c a (.cw o (.dT b))))\/∃o,c a=some (.cw o (.dT b))/\R (G_ a o) c)
theorem xq{p:Expr}{x:V}{u:Value}{R:It->Hp->Prop}(m:Inv X pins σ H s)(B:RelV x u)(q:Hb R x H):wpAny (model X.prog X.w) X.A (pyIter u) (PIE X pins σ p R) X.xe s:=by
 obtain⟨a,n,rfl,q⟩:=q;cases (show u=Value.ref a from B)
 have c:∀(o:Obj) (d:Array DictEntry) (e:Nat) (f:Hp),Inv X pins σ f s->f a=some (.cw o (.dT n))->o.data=.dict d e->R (G_ a o) f->wpAny (model X.prog X.w) X.A (pyIter (.ref a)) (PIE X pins σ p R) X.xe s:=by
  intro o d e f g C h i;obtain⟨k,t,G,y,_⟩:=nT g.hok C h;refine pG y k t h ?_;have D:Inv X pins σ f {s with heap:=s.heap.push {cls:=.type "dict_keyiterator",data:=.fields #[.ref a,.int 0 0,.int d.size 0,.int e 0]} }:=g.kept (t':=s.toks) λb o q=>Heap.get?_push_of_some _ q
  refine⟨s.heap.objs.size,[s.heap.objs.size],_,_,f,rfl,D,rE a _ h,⟨_,Heap.get?_push_size _ rfl,rfl,rfl⟩,λb E=>?_,i⟩
  have z:b=s.heap.objs.size:=by simpa using E
  rw[z];have:=g.zG (b:=s.heap.objs.size) (Nat.le_refl _) (g.hok.fresh (Nat.le_refl _));exact this
 rcases q with ⟨l,i⟩|⟨o,l,i⟩
 .obtain⟨o,d,e,k,h,g⟩:=m.AR l
  exact c o d e _ g aF h (i o)
 .obtain⟨k,_,y,I,r,J,d,e,j,t,F,K⟩:=m.hok a _ l
  rw[k]at j;cases j
  exact c o d e _ m l F i
end
end L2
namespace Mir
open PySem PySem.Spec PyProof.Rows L2
section
variable{X:Cx}{tg e:Expr}
def Hc(K:PySem.W.Frag)(d:TE):TI:=λe H R=>d e H λx b=>(∃a c,x=.ref a/\Rd b a (.lst c)/\R (Lw K a) b)\/(∃a c,x=.ref a/\Rd b a (.tup c)/\R (Lx K a) b)\/(∃y,x=.str y/\R (Pd y) b)\/GZ R x b\/Hb R x b
theorem AS{m:TE}(n:PE X e m):PI X tg e (Hc X.K m):=by
 intro pins s p H R I h;refine bM (n pins s p H _ I h) λv c ⟨x,i,d,f,r⟩=>?_
 have j:∀b∈[c.heap.objs.size],mX X pins i b:=λb u=>by
  obtain rfl:b=c.heap.objs.size:=by simpa using u
  exact d.zG (Nat.le_refl _) (d.hok.fresh (Nat.le_refl _))
 rcases r with ⟨a,w,rfl,k,q⟩|⟨a,w,rfl,k,q⟩|⟨y,rfl,q⟩|q|q
 .cases f
  obtain⟨g,z,l,A⟩:=d.list (nG (K:=X.K) k);refine wpAny_pyIter_list l.isList ?_;exact⟨c.heap.objs.size,[c.heap.objs.size],_,_,i,rfl,d.kept (t':=c.toks) λb o e=>Heap.get?_push_of_some _ e,uD a _,⟨_,Heap.get?_push_size _ rfl,rfl,rfl⟩,j,q⟩
 .cases f
  obtain⟨g,z,l,A⟩:=d.tuple (sM (K:=X.K) k);refine wpAny_pyIter_tuple (show c.heap.IsTuple a g.toArray from l) ?_
  exact⟨c.heap.objs.size,[c.heap.objs.size],_,_,i,rfl,d.kept (t':=c.toks) λb o e=>Heap.get?_push_of_some _ e,qP a _,⟨_,Heap.get?_push_size _ rfl,rfl,rfl⟩,j,q⟩
 .obtain⟨t,rfl⟩:=f
  refine wpAny_pyIter_strU ?_;exact⟨c.heap.objs.size,[c.heap.objs.size],_,_,i,rfl,d.kept (t':=c.toks) λb o e=>Heap.get?_push_of_some _ e,wW _ y t (strIterType y) (by unfold strIterType;split<;>simp),⟨_,Heap.get?_push_size _ rfl,rfl,rfl⟩,j,q⟩
 .exact AO d f q
 .exact xq d f q
end
end Mir
namespace L2
open PySem PySem.Spec PyProof.Rows
section
variable{prog:Program}{w:World}{A:Around}{E:Value->Shared->Prop}{s:Shared}
theorem vm{o:Obj}(t:A.handled=none)(I d:Addr)(g:d≠I)(es:Array DictEntry)(m:Nat)(n:o.data=.dict es m) :
  Walks prog w A I [I,d] [I] es.size (λi v=>∃e,es[i]?=some e/\v=e.key) (λi h=>h.IsKeyIter I d i es.size m/\h.get? d=some o) where
 sub:=λb c=>by simp at c;simp[c]
 frame:=λ_ _ _ a k=>⟨a.1.at λo e=>k I (by simp) o e,k d (by simp) _ a.2⟩
 item:=λi s Q E u a q=>iS a.1 a.2 n (λe f j l p=>q _ j s.toks ⟨e,f,rfl⟩ ⟨l,p.extBut d o g a.2⟩ λb o c e=>p.extBut b o (λh=>c (by simp[h])) e) λr=>by rw[Array.getElem?_eq_getElem u]at r;cases r
 done:=λs Q E a q=>iS a.1 a.2 n (λe f=>by rw[Array.getElem?_eq_none (Nat.le_refl _)]at f;cases f) λ_=>⟨t,λj x=>q j s.toks λb o c e=>x b o (λh=>c (by simp[h])) e⟩
 self:=λ_ _ _ _ a q=>wpAny_pyIter_keyiter a.1 q
theorem lM{a:Addr}{od:Obj}{es:Array DictEntry}{D:Nat}{Q:Value->Shared->Prop}(hh:A.handled=none)(lo:(a==sysModules)=false)(go:s.heap.get? a=some od)(J:od.ExactDict)(gd:od.data=.dict es D)(hn:es.size<=sizeLine)
  (hQ:∀h' tk f K,(∀b o,s.heap.get? b=some o->h'.get? b=some o)->h'.get? s.heap.objs.size=some {cls:=.type "list",dict:=none,data:=.seq f K,slots := #[]}->ItemsOf (λi v=>∃e,es[i]?=some e/\v=e.key) f es.size->Q (.ref s.heap.objs.size) {s with heap:=h',toks:=tk}) :
  wpAny (model prog w) A (call (.type "list") [.ref a]) Q E s:=by
 refine callType_codes (Q₁:=λr l=>r=.ref s.heap.objs.size/\l={s with heap:=s.heap.push {cls:=.type "list",data:=.seq #[]} }) F.called_list (F.typeCall_list_1 _) F.entry_list_init
  (code_list_new _ ⟨rfl,rfl⟩) λr l t=>?_
 obtain⟨rfl,rfl⟩:=t;generalize d:s.heap.objs.size=S;have G:(s.heap.push {cls:=.type "list",data:=.seq #[]}).get? S=some {cls:=.type "list",data:=.seq #[]}:=by rw[←d];exact Heap.get?_push_size _ rfl
 refine⟨⟨_,G,rfl⟩,F.args_list_init_2 _ _,?_⟩
 show wpAny _ A.in1.in1 (do let L ←Builtin.List.listItems (.ref S);Builtin.List.listUpdate (.ref S) (λ_=>#[]);letGo L.toList.reverse;Builtin.List.listExtendWith (.ref S) (.ref a) .none) _ _ _
 refine wpAny_bind ?_;unfold Builtin.List.listItems;refine wpAny_bind (wpAny_seqItems G rfl (wpAny_pure ?_))
 show wpAny _ _ (updateSeq S (λ_=>#[]) >>= λ_=>letGo (#[]:Array Value).toList.reverse >>= λ_=>Builtin.List.listExtendWith (.ref S) (.ref a) .none) _ _ _
 refine wpAny_bind (wpAny_updateSeq G rfl ?_);have c:=Heap.get?_update_self (Obj.mapSeq (λ_=>(#[]:Array Value))) G rfl
 have m:S≠a:=λe=>by
  exact Nat.lt_irrefl _ ((e▸d)▸Heap.lt_size go)
 refine wpAny_bind (wpAny_letGo ?_);generalize M:(s.heap.push {cls:=.type "list",data:=.seq #[]}).update S (Obj.mapSeq (λ_=>(#[]:Array Value)))=g at c
 have k1:∀b o,s.heap.get? b=some o->g.get? b=some o:=λb o e=>by
  rw[←M];exact(Heap.get?_update_other _ _ (λz=>Nat.lt_irrefl _ ((z▸d)▸Heap.lt_size e))).trans (Heap.get?_push_of_some _ e)
 have k:g.get? a=some od:=k1 a _ go;have N:({s with heap:=g}:Shared).TypeIs (.ref a) "dict":=⟨od,k,J.1⟩
 show wpAny _ _ (Builtin.List.listExtendWith (.ref S) (.ref a) .none) _ _ {s with heap:=g}
 unfold Builtin.List.listExtendWith;refine wpAny_bind (wpAny_typeOf N ?_);have O:Builtin.List.listSameRef (.ref S) (.ref a)=false:=by simp[Builtin.List.listSameRef,m]
 have P:(Value.type "dict"==Value.type "list")=false:=by decide
 have R:(Value.type "dict"==Value.type "tuple")=false:=by decide
 simp only[O,P,R,Bool.or_false,Bool.false_eq_true,if_false];refine wpAny_bind (pG (s:={s with heap:=g}) lo k J gd ?_);generalize u:g.push {cls:=.type "dict_keyiterator",data:=.fields #[.ref a,.int 0 0,.int es.size 0,.int D 0]}=n;have H:∀b o,g.get? b=some o->n.get? b=some o:=λb o e=>by rw[←u];exact Heap.get?_push_of_some _ e
 have T:n.IsKeyIter g.objs.size a 0 es.size D:=by rw[←u];exact⟨_,Heap.get?_push_size _ rfl,rfl,rfl⟩
 have x:n.get? a=some od:=H a _ k;have U:({s with heap:=n}:Shared).TypeIs (.ref a) "dict":=⟨od,x,J.1⟩;refine wpAny_bind (wpAny_holding (vl (s:={s with heap:=n}) U ?_));refine wpAny_ite_split (λ_=>?_) (λV=>absurd (by decide) V)
 refine wpAny_bind (wpAny_rule ?_);refine wpAny_bind ?_
 show wpAny _ _ (updateSeq S (·.push .none) >>= λ_=>updateSeq S (·.pop)) _ _ _
 refine wpAny_bind (wpAny_updateSeq (H _ _ c) rfl ?_);have h:=Heap.get?_update_self (Obj.mapSeq (·.push Value.none)) (H _ _ c) rfl;refine wpAny_updateSeq (hz:=by seq_fits) h rfl ?_
 have j:=Heap.get?_update_self (Obj.mapSeq (·.pop)) h rfl;refine wpAny_pure ⟨plainId_quiet F.plain_extend_loop _,?_⟩;generalize X:(n.update S (Obj.mapSeq (·.push Value.none))).update S (Obj.mapSeq (·.pop))=h3 at j
 have Y:∀b o,b≠S->n.get? b=some o->h3.get? b=some o:=λb o p e=>by
  rw[←X];exact(Heap.get?_update_other _ _ (Ne.symm p)).trans ((Heap.get?_update_other _ _ (Ne.symm p)).trans e)
 have Z:a<g.objs.size:=Heap.lt_size k;have q:S<g.objs.size:=Heap.lt_size c;have W:=(vm (prog:=prog) (w:=w) (A:=A.in1.in1) (o:=od) hh g.objs.size a (Nat.ne_of_lt Z) es D gd).toS;refine codeAny_extend_loopS W hn S (λI=>?_) .none es.size 0 _ #[] _ rfl (Nat.zero_le _) ⟨T.at λo e=>Y _ o (Ne.symm (Nat.ne_of_lt q)) e,Y _ _ (Ne.symm m) x⟩ j (ItemsOf.nil _) λs' f K I y B=>?_
 .rcases List.mem_cons.mp I with e|e
  .exact Nat.ne_of_lt q e
  .exact m (by simpa using e)
 .rw[Moved.eq_with I]at y ⊢
  refine⟨rfl,?_⟩;have:=hQ s'.heap s'.toks f K (λb o e=>I.heap b o (λC=>?_) (Y _ _ (λz=>Nat.lt_irrefl _ ((z▸d)▸Heap.lt_size e)) (H _ _ (k1 _ _ e)))) (by rw[d];exact y) B
  .rw[d]at this;exact this
  .have p:=Heap.lt_size e
   rcases List.mem_cons.mp C with e' |e'
   .rw[e',←d]at p;exact Nat.lt_irrefl _ p
   .have e':b=g.objs.size:=by simpa using e'
    rw[e',d]at p;exact Nat.lt_irrefl _ (Nat.lt_trans p q)
end
section
variable{X:Cx}{pins:List (Addr×Obj)}{σ:St}{H:Hp}{s:Shared}{a:Addr}
theorem Ej{P:Program}{w:World}{h:Heap}{b:List (List Key×V)}(ok:ff P w H h)(e:Rd H a (.dT b)) :
  ∃o es c,h.get? a=some o/\o.ExactDict/\o.data=.dict es c/\es.size=b.length/\b.length<=sizeLine/\(a==sysModules)=false/\∀(i:Nat) (d:List Key×V),b[i]?=some d->∃t p,es[i]?=some t/\t.key=.ref p/\H p=some (.tup (d.1.map kV)):=by
 obtain⟨z,g,u,r,o,es,c,j,k,l,f,x⟩:=(show bQ P w H h a (.dT b)from wD ok e)
 refine⟨o,es,c,j,k,l,?_,z,g,λi d m=>?_⟩
 .rw[←Array.length_toList,f,List.length_map,←kM r]
 .obtain⟨q,n,y,s,_⟩:=fR r m
  refine⟨entryOfKey (tupleKind (bu P w)) q,q.2.1,?_,rfl,s⟩;rw[←Array.getElem?_toList,f,List.getElem?_map,n];rfl
def CK(H:Hp)(a:List (List Key×V))(ps:List Addr):Prop:=ps.length=a.length/\∀(i:Nat) (b:List Key×V) (p:Addr),a[i]?=some b->ps[i]?=some p->H p=some (.tup (b.1.map kV))
theorem rF(C:X.calm=true):ed X (.type "list") (λxs H Q=>∃a b,xs=[V.ref a]/\Rd H a (.dT b)/\∀l ps,H l=none->CK H b ps->Q (.ref l) (upd H l (.lst (ps.map V.ref)))):=by
 intro pins s σ H xs us Q I r h;obtain⟨a,b,rfl,D,q⟩:=h;obtain⟨u,rfl,E⟩:=vals1 r;cases E;obtain⟨o,x,ep,F,G,J,z,K,L,M⟩:=Ej I.hok D;refine lM (I.ok.hd C) L F G J (by omega) λN tk c O R e S=>?_
 obtain⟨ps,d,k⟩:∃ps:List Addr,ps.length=b.length/\∀(i:Nat) (g:List Key×V),b[i]?=some g->∃t p,x[i]?=some t/\ps[i]?=some p/\t.key=.ref p/\H p=some (.tup (g.1.map kV)):=by
  refine⟨x.toList.map λt=>match t.key with|.ref p=>p|_=>0,by simp[z],λi g y=>?_⟩
  obtain⟨t,p,j,f,m⟩:=M i g y;refine⟨t,p,j,?_,f,m⟩;rw[List.getElem?_map,Array.getElem?_toList,j];simp[f]
 have T:Vals (ps.map V.ref) c.toList:=AQ (P:=λi v=>∃t,x[i]?=some t/\v=t.key) (by rw[List.length_map,d,←z];exact S) λi u v U A=>by
  obtain⟨t,j,rfl⟩:=U;rw[List.getElem?_map]at A;obtain⟨p,f,rfl⟩:=Option.map_eq_some_iff.mp A;have y:i<b.length:=by have:=(List.getElem?_eq_some_iff.mp f).1;omega
  obtain⟨Y,Z,m,n,B,_⟩:=k i _ (List.getElem?_eq_getElem y);rw[j]at m;cases m
  rw[f]at n;cases n
  exact B
 exact⟨.ref s.heap.objs.size,_,I.laid R (Nat.le_refl _) (show bQ X.prog X.w _ N _ (.lst _)from⟨by simpa[d]using K,c.toList,O,T,by simpa using e⟩),rfl,q _ ps (I.hok.fresh (Nat.le_refl _)) ⟨d,λi g p j f=>by
  obtain⟨Y,Z,m,n,B,h6⟩:=k i g j;rw[f]at n;cases n
  exact h6⟩⟩
end
theorem mD{a b:Type}(f:a->b):∀(xs:List a) (j:Nat),(xs.map f).eraseIdx j=(xs.eraseIdx j).map f
 |[],_=>rfl
 |_::_,0=>rfl
 |x::xs,j+1=>by rw[List.map_cons,List.eraseIdx_cons_succ,mD f xs j];rfl
theorem mE{κ c:Type}[DecidableEq κ]{k:κ}:∀{xs:List (κ×c)}{j:Nat}{p:c},(xs.map (·.1)).Nodup->xs[j]?=some (k,p)->xs.eraseIdx j=xs.filter λx=>decide (x.1≠k)
 |[],j,p,_,h=>by simp at h
 |x::xs,0,p,b,h=>by
  simp at h;subst h
  have hk:k∉xs.map (·.1):=(List.nodup_cons.mp b).1;rw[List.filter_cons,if_neg (by simp),List.eraseIdx_cons_zero]
  refine(List.filter_eq_self.mpr λy f=>?_).symm
  simp only[decide_eq_true_eq];exact λe=>hk (by rw[←e];exact List.mem_map_of_mem f)
 |x::xs,j+1,p,b,h=>by
  have a:=List.nodup_cons.mp b;have d:xs[j]?=some (k,p):=by simpa using h
  have g:x.1≠k:=λe=>a.1 (by show x.1∈_;rw[e];exact List.mem_map.mpr ⟨_,List.mem_of_getElem? d,rfl⟩)
  rw[List.filter_cons,if_pos (by simpa using g),List.eraseIdx_cons_succ,mE a.2 d]
section
variable{prog:Program}{w:World}{K:Type}[DecidableEq K]{knd:HeapKind prog w K}{A:Around}{E:Value->Shared->Prop}{s:Shared}{d a:Addr}{k:K}{xs:List (K×Addr×Value)}
theorem vo{Q:Option DictEntry->Shared->Prop}(q:knd.room A)(r:knd.is s.heap k a)(u:s.heap.DictOfH knd d xs)(hz:xs.length<=sizeLine)(z:atKey xs k=none->Q none {s with toks:=s.toks+knd.draws k})
  (B:∀e p,atKey xs k=some p->e.val=p.2->∀h',h'.DictOfH knd d (xs.filter λx=>decide (x.1≠k))->Heap.SameBut d s.heap h'->Q (some e) {s with heap:=h',toks:=s.toks+knd.draws k}):wpAny (model prog w) A (Builtin.Dict.takeOut d (.ref a)) Q E s:=by
 obtain⟨o,t,C,g,x,b,c,f,h⟩:=u;unfold Builtin.Dict.takeOut;refine wpAny_holding (wpAny_bind (knd.pyHash q r (wpAny_bind (wpAny_dictFind_heap (s:={s with toks:=s.toks+knd.draws k}) q r g b c f h (λi=>wpAny_pure (z (atKey_none_of_get i))) λj p m=>?_))))
 refine wpAny_bind (wpAny_dictEntries (s:={s with toks:=s.toks+knd.draws k}) g b ?_);rw[entry_at c j,m];have n:t.size<=sizeLine:=by rw[size_of_entries c];exact hz
 refine wpAny_bind (wpAny_updateDictKeys (hz:=n) (s:={s with toks:=s.toks+knd.draws k}) g b (wpAny_pure (B _ p (atKey_of_get h m) rfl _ ⟨_,_,C+1,Heap.get?_update_self _ g (Obj.isFreed_of_dict (Obj.data_mapDictKeys b _)),x.mapDictKeys _,Obj.data_mapDictKeys b _,?_,λy D=>knd.keeps (f y (List.mem_filter.mp D).1) g b (Heap.SameBut.update ..),?_⟩ (Heap.SameBut.update ..))))
 .rw[←mE h m]
  obtain⟨l⟩:=t;have c:l=xs.map (entryOfKey knd):=c;subst c;simp[mD]
 .exact List.Nodup.sublist (List.filter_sublist.map _) h
theorem Hd{dflt:Value}{Q:Value->Shared->Prop}(l:knd.room A.in1)(i:(d==sysModules)=false)(m:knd.is s.heap k a)(b:s.heap.DictOfH knd d xs)(hz:xs.length<=sizeLine)(j:atKey xs k=none->∀t,Q dflt {s with toks:=t})
  (n:∀p,atKey xs k=some p->∀h' t,h'.DictOfH knd d (xs.filter λx=>decide (x.1≠k))->Heap.SameBut d s.heap h'->Q p.2 {s with heap:=h',toks:=t}):wpAny (model prog w) A (call (.builtin "dict.pop") [.ref d,.ref a,dflt]) Q E s:=by
 refine wpAny_call_entry F.slot_dict_pop b.typeIs F.entry_dict_pop ?_ (F.args_dict_pop_3 _ _ _);obtain⟨o,c,G,g,x,q,r,u,H⟩:=id b;unfold Builtin.«dict.pop» Builtin.Dict.keyAndDefault;refine wpAny_bind (wpAny_bind (wpAny_notOrdered_dict b.typeIs (wpAny_pure ?_)))
 show wpAny _ _ (dictEntries d >>= λc=>pure c.isEmpty >>= _) _ _ s
 refine wpAny_bind (wpAny_dictEntries g q (wpAny_bind (wpAny_pure ?_)));cases y:c.isEmpty with
 |true=>
  have f:atKey xs k=none:=by
   have I:c.size=0:=by simpa using y
   have z:=size_of_entries r;have:xs=[]:=by cases xs with|nil=>rfl|cons _ _=>simp at z;omega
   rw[this];rfl
  show wpAny _ _ (rule "dict.pop.empty" >>= λ_=>pure none >>= _) _ _ s
  refine wpAny_bind (wpAny_rule (wpAny_bind (wpAny_pure ?_)))
  show wpAny _ _ (Builtin.Dict.missedRemoval d (.ref a) >>= _) _ _ s
  exact wpAny_bind (wpAny_missedRemoval_other i (wpAny_bind (wpAny_rule (wpAny_pure ⟨dflt,rfl,j f _⟩))))
 |false=>
  show wpAny _ _ (Builtin.Dict.takeOut d (.ref a) >>= _) _ _ s
  refine wpAny_bind (vo l m b hz (λf=>?_) λe p B C h' h D=>?_)
  .show wpAny _ _ (Builtin.Dict.missedRemoval d (.ref a) >>= _) _ _ _
   exact wpAny_bind (wpAny_missedRemoval_other i (wpAny_bind (wpAny_rule (wpAny_pure ⟨dflt,rfl,j f _⟩))))
  .simp only[Option.isNone_some,Bool.false_eq_true,if_false]
   exact wpAny_bind (wpAny_letGo (wpAny_pure ⟨e.val,rfl,by rw[C];exact n p B h' _ h D⟩))
end
theorem KT.drop{H:Hp}{a:List (List Key×V)}{xs:List (List Key×Addr×Value)}(r:KT H a xs)(k:List Key):KT H (kl a k) (xs.filter λx=>decide (x.1≠k)):=by
 unfold kl
 induction r with
 |nil=>exact .nil
 |@cons p q c d h t b=>
  rw[List.filter_cons,List.filter_cons]
  by_cases e:q.1=k
  .rw[if_neg (by simp[h.1,e]),if_neg (by simp[e])];exact b
  .rw[if_pos (by simp[h.1,e]),if_pos (by simp[e])];exact .cons h b
section
variable{X:Cx}{pins:List (Addr×Obj)}{σ:St}{H:Hp}{s:Shared}{a b:Addr}{kvs:List (List Key×V)}{k:List Key}{A:Around}{E:Value->Shared->Prop}
theorem Ek{dflt:Value}{Q:Value->Shared->Prop}(n:A.units+1<cLine)(I:Inv X pins σ H s)(e:H a=some (.dT kvs))(o:H b=some (.tup (k.map kV)))(r:fj kvs k=none->∀g,Inv X pins σ H g->Q dflt g)
  (x:∀v,fj kvs k=some v->∀u g,RelV v u->Inv X pins σ (upd H a (.dT (kl kvs k))) g->Q u g):wpAny (model X.prog X.w) A (call (.builtin "dict.pop") [.ref a,.ref b,dflt]) Q E s:=by
 obtain⟨z,i,N,f,y⟩:=wF I.hok e;have d:=f.val k;refine Hd (tupleKind_room_in1 n) i (km I.hok o) y (by rw[←Paired.length f];exact z) (λB t=>?_) λp C O t h D=>?_
 .rw[B]at d
  exact r (by cases q:fj kvs k with|none=>rfl|some v=>rw[q]at d;exact d.elim) _ (I.tok _)
 .rw[C]at d
  cases q:fj kvs k with
  |none=>rw[q]at d;exact d.elim
  |some v=>
   rw[q]at d;refine x v q _ _ d ?_;obtain⟨j,F,G,l,J,K,L,_,M⟩:=h;refine iF I (by rw[e];exact True.intro) D ⟨j,l⟩ ⟨Nat.le_trans (List.length_filter_le _ _) z,i,_,(f.drop k).keeps λc P m=>?_,j,F,G,l,J,K,L,M⟩
   rw[ai (Ct m e (λz=>nomatch z))]
   exact m
end
end L2
namespace Mir
open PySem PySem.Spec PyProof.Rows L2
variable [aw]
def pH(f g:List D->aI->av D):List D->aI->av D:=λa b=>nM (f a b) (g a b)
def vq(xs:List D)(Ω:aI):av D:=match xs with
 |[x]=>match fw Ω x with
  |some a=>.ok (.int a.length) Ω
  |none=>.bad
 |_=>.bad
noncomputable def AU(xs:List D)(Ω:aI):av D:=match xs with
 |[.ref k]=>match Ω[k]? with
  |some (.dT a)=>.ok (.int a.length) Ω
  |_=>.bad
 |_=>.bad
def jF(xs:List D)(Ω:aI):av D:=match xs with
 |[x]=>match fw Ω x with
  |some a=>iM Ω (.lst a)
  |none=>.bad
 |_=>.bad
noncomputable def xr:Key->D
 |.inl i=>.int i
 |.inr x=>.str x
noncomputable def AV(Ω:aI)(x:D):Option (List (List Key×D)):=match x with
 |.ref k=>(match Ω[k]? with
  |some (.dT a)=>some a
  |some (.dG a)=>some a
  |_=>none)
 |_=>none
def pI(a:List Key):D:=.tup (a.map xr)
def kN(xs:List D)(Ω:aI):av D:=match xs with
 |[x]=>match AV Ω x with
  |some a=>iM Ω (.lst (a.map λb=>pI b.1))
  |none=>.bad
 |_=>.bad
def rG(xs:List D)(Ω:aI):av D:=match xs with
 |[.tup a]=>.ok (.tup a) Ω
 |[x]=>match cN Ω x with
  |some a=>.ok (.tup a) Ω
  |none=>.bad
 |_=>.bad
def El:List D->Out Rs
 |[.str z]=>if small z.length then .ok (false,.int z.length)else .bad
 |_=>.bad
def Em:List D->Out Rs
 |[.lst xs]=>match ic xs with|some bs=>.ok (false,.bl (bs.all id))|none=>.bad
 |_=>.bad
noncomputable def En:List D->Out Rs
 |[.int i,.int j]=>.ok (false,.int (if j<i then j else i))
 |_=>.bad
noncomputable def Eo:List D->Out Rs
 |[.int i,.int j]=>.ok (false,.int (if j>i then j else i))
 |_=>.bad
def xu:jn->List D->Out Rs
 |.len=>El
 |.all=>Em
 |.min=>En
 |.max=>Eo
 |_=>λ_=>.bad
def lN(f:jn):List D->aI->av D:=bZ (xu f)
def dc(f:jn):List D->aI->av D:=match f with
 |.len=>pH vq (pH AU (lN .len))
 |.list=>pH jF kN
 |.tuple=>rG
 |f=>lN f
section
variable{X:Cx}{κ:Str->Addr->Prop}{Φ:fg}{α α' ck α1:List Addr}{Z Z' Z0 Z1:Addr->Prop}{Ω aD:aI}{H H' H0 H1:Hp}{ρ:aS}{σ:L2.St}{Q Q':VK}{r:av D}{a b e ce o:Expr}{rest:List Expr}{es:List Expr}{ma mb mc m mo:EM}{as:AM}{pos p apos cpos:Pos}
theorem rH{f g:List D->aI->av D}:mN (pH f g) as=lJ (mN f as) (mN g as):=by
 funext b a
 simp only[mN,lJ];cases as b a with
 |ok x c=>rfl
 |exc x a=>rfl
 |bad=>rfl
theorem eI{f:List D->aI->av D}{id:String}{x:Str}{r:List V->Hp->VK->Prop}(j:ed X (.builtin id) r)(k:Gl X x)(l:X.mg x=none)(m:bootBuiltins x=some (.builtin id))(n:x≠"__name__")(b:(x==("__debug__":Str))=false)
  (o:starEach (e::es) X.env=(false,eval e X.env)::starEach es X.env) (c:(backTo pos (starEach es X.env)).any (·.1)=false) (q:nP X κ Φ (e::es) as)
  (s:∀xs vs a Z Ω H Q,bb κ a Z Ω H->aG (ah a Z H) xs vs->bV κ Φ a Z H (f xs Ω) Q->r vs H Q):bc X κ Φ (.Call (.Name x p) (e::es) [] pos) (mN f as):=by
 intro d t u w Ω;refine PE.imp (iA j k l m (q d t u w Ω) n b o c) ?_;rintro E H Q ⟨a,Z,S,g⟩;exact⟨a,Z,S,nO.use g λxs h _ vs y i z F A B C=>s xs vs i z h y Q A B C⟩
theorem kP{f:List D->aI->av D}{id:String}{x:Str}{r:List V->Hp->VK->Prop}(j:ed X (.type id) r)(k:Gl X x)(l:X.mg x=none)(m:bootBuiltins x=some (.type id))(n:x≠"__name__")(b:(x==("__debug__":Str))=false)
  (o:starEach (e::es) X.env=(false,eval e X.env)::starEach es X.env) (c:(backTo pos (starEach es X.env)).any (·.1)=false) (q:nP X κ Φ (e::es) as)
  (s:∀xs vs a Z Ω H Q,bb κ a Z Ω H->aG (ah a Z H) xs vs->bV κ Φ a Z H (f xs Ω) Q->r vs H Q):bc X κ Φ (.Call (.Name x p) (e::es) [] pos) (mN f as):=by
 intro d t u w Ω;refine PE.imp (uK j k l m (q d t u w Ω) n b o c) ?_;rintro E H Q ⟨a,Z,S,g⟩;exact⟨a,Z,S,nO.use g λxs h _ vs y i z F A B C=>s xs vs i z h y Q A B C⟩
theorem fx:∀{ds:List D}{vs:List V},aO Z H ds vs->rj Z H ds vs
 |[],vs,h=>h.nil_inv
 |d::ds,vs,h=>by
  obtain⟨v,r,rfl,h1,h2⟩:=h.cons_inv;exact⟨v,r,rfl,h1.now,fx h2⟩
theorem mF{b:List Addr}{Z:Addr->Prop}{H:Hp}:∀a:List Key,aG (ah b Z H) (a.map xr) (a.map kV)
 |[]=>.nil
 |k::a=>.cons (by cases k<;>simp only[xr,kV,ah]) (mF a)
theorem pJ{a:List Key}{p:Addr}(z:Z p)(h:H p=some (.tup (a.map kV))):ah α Z H (pI a) (.ref p):=by
 unfold pI;simp only[ah];exact⟨p,_,rfl,z,h,cq.mpr (mF a)⟩
theorem xv{x:D}{v:V}{d:List (List Key×D)}(S:bb κ α Z Ω H)(r:ah α Z H x v)(h:AV Ω x=some d):∃a b,v=.ref a/\Rd H a (.dT b)/\gP (ah α Z H) d b:=by
 unfold AV at h;split at h
 .rename_i k
  simp only[ah]at r;obtain⟨a,j,rfl⟩:=r;split at h
  .rename_i e f
   cases h;obtain⟨l,c,b,g,i⟩:=S.cell f;rw[j]at c;cases c
   exact⟨a,b,rfl,.inl g,i⟩
  .rename_i e f
   cases h;obtain⟨l,c,m,b,g,i⟩:=S.cell f;rw[j]at c;cases c
   exact⟨a,b,rfl,.inr ⟨m,g⟩,i⟩
  .cases h
 .cases h
theorem AW{xs:List D}{vs:List V}(S:bb κ α Z Ω H)(x:aG (ah α Z H) xs vs)(g:bV κ Φ α Z H (kN xs Ω) Q):∃a d,vs=[V.ref a]/\Rd H a (.dT d)/\∀l ps,H l=none->CK H d ps->Q (.ref l) (upd H l (.lst (ps.map V.ref))):=by
 unfold kN at g;split at g
 .split at g
  .rename_i d y
   obtain⟨v,r,rfl,z,A⟩:=x.cons_inv;rw[A.nil_inv];obtain⟨a,c,rfl,B,s⟩:=xv S z y;refine⟨a,c,rfl,B,λl ps h j=>?_⟩
   have t:=s.length
   have C:∀p,p∈ps->∃vs,H p=some (.tup vs):=λp E=>by
    obtain⟨n,u⟩:=List.mem_iff_getElem?.mp E;have F:n<c.length:=by rw[←j.1];exact(List.getElem?_eq_some_iff.mp u).1
    exact⟨_,j.2 n _ p (List.getElem?_eq_getElem F) u⟩
   obtain⟨G,I⟩:=S.GX (P:=λp=>p∈ps) C
   refine eG G ?_ (bV.from I g) l h
   have m:∀{d:List (List Key×D)}{c:List (List Key×V)}{e:List Addr},gP (ah α Z H) d c->e.length=c.length->(∀(i:Nat) (f:List Key×V) (p:Addr),c[i]?=some f->e[i]?=some p->p∈ps/\H p=some (.tup (f.1.map kV)))->aG (ah α (λa=>Z a\/a∈ps) H) (d.map λf=>pI f.1) (e.map V.ref):=λ{d c e} q=>by
    unfold gP at q
    induction q generalizing e with
    |nil=>intro h _;cases e with|nil=>exact .nil|cons _ _=>cases h
    |@cons p q _ _ J _ K=>
     intro h w;cases e with
     |nil=>cases h
     |cons b e=>
      obtain⟨m1,m2⟩:=w 0 q b rfl rfl;refine .cons ?_ (K (by simpa using h) λi f p o k=>w (i+1) f p (by simpa using o) (by simpa using k))
      show ah α _ H (pI p.1) (.ref b)
      rw[J.1];exact pJ (.inr m1) m2
   exact m s j.1 λi f p o k=>⟨List.mem_of_getElem? k,j.2 i f p o k⟩
  .exact g.elim
 .exact g.elim
theorem AX{f:jn}(c:X.calm=true)(O:f∈[jn.len,jn.all,jn.list,jn.tuple,jn.min,jn.max])(w:Gl X f.nm)(z:X.mg f.nm=none)
  (A:starEach (e::es) X.env=(false,eval e X.env)::starEach es X.env) (h:(backTo pos (starEach es X.env)).any (·.1)=false) (o:nP X κ Φ (e::es) as) :
  bc X κ Φ (.Call (.Name f.nm p) (e::es) [] pos) (mN (dc f) as):=by
 cases f with
 |len=>
  show bc X κ Φ _ (mN (pH vq (pH AU (lN .len))) as)
  rw[rH,rH];refine bc.alt ?_ (bc.alt ?_ ?_)
  .refine eI ny w z boot_len (by decide) (by decide) A h o ?_
   intro I P s Z t H Q S i g;unfold vq at g;split at g
   .split at g
    .rename_i u L
     obtain⟨v,r,rfl,q,B⟩:=i.cons_inv;rw[B.nil_inv];obtain⟨l,C,rfl,D,J⟩:=kL (K:=X.K) S q L;exact⟨l,C,rfl,D,by rw[J.length];exact bV.ret S (aW rfl) g⟩
    .exact g.elim
   .exact g.elim
  .refine eI uV w z boot_len (by decide) (by decide) A h o ?_
   intro I P s Z t H Q S i g;unfold AU at g;split at g
   .split at g
    .rename_i U V
     obtain⟨v,r,rfl,q,B⟩:=i.cons_inv;rw[B.nil_inv];simp only[ah]at q;obtain⟨a,o,rfl⟩:=q;obtain⟨a',M,N,Y,h2⟩:=S.cell V;rw[o]at M;cases M
     exact⟨a,N,rfl,Y,by rw[h2.length];exact bV.ret S (aW rfl) g⟩
    .exact g.elim
   .exact g.elim
  .refine eI nz w z boot_len (by decide) (by decide) A h o ?_
   intro E F s Z t H Q S i g;obtain⟨u,G,d,j,b,k⟩:=gE (bw:=false) S i g;have j:=fx j;have m:=dj S;replace b:El u=_:=b;unfold El at b;split at b
   .obtain⟨x,rfl,n⟩:=j.one
    cases cR n;split at b
    .rename_i hs
     cases b;exact⟨_,rfl,bz hs,jo m k rfl⟩
    .cases b
   .cases b
 |all=>
  refine eI (wV c) w z boot_all (by decide) (by decide) A h o ?_
  intro E F s Z t H Q S i g;obtain⟨u,G,d,j,b,k⟩:=gE (bw:=false) S i g;have j:=fx j;have m:=dj S;replace b:Em u=_:=b;unfold Em at b;split at b
  .obtain⟨x,rfl,n⟩:=j.one
   split at b
   .rename_i bs hb
    cases b;exact⟨_,_,bs,x,rfl,n,hb,jo m k rfl⟩
   .cases b
  .cases b
 |any=>simp at O
 |int=>simp at O
 |min=>
  refine eI (uJ c) w z boot_min (by decide) (by decide) A h o ?_
  intro E F s Z t H Q S i g;obtain⟨u,G,d,j,b,k⟩:=gE (bw:=false) S i g;have j:=fx j;have m:=dj S;replace b:En u=_:=b;unfold En at b;split at b
  .obtain⟨x,y,rfl,n,R⟩:=j.two
   cases aX n;cases aX R;cases b;exact⟨_,_,rfl,jo m k rfl⟩
  .cases b
 |max=>
  refine eI (uI c) w z boot_max (by decide) (by decide) A h o ?_
  intro E F s Z t H Q S i g;obtain⟨u,G,d,j,b,k⟩:=gE (bw:=false) S i g;have j:=fx j;have m:=dj S;replace b:Eo u=_:=b;unfold Eo at b;split at b
  .obtain⟨x,y,rfl,n,R⟩:=j.two
   cases aX n;cases aX R;cases b;exact⟨_,_,rfl,jo m k rfl⟩
  .cases b
 |list=>
  show bc X κ Φ _ (mN (pH jF kN) as)
  rw[rH];refine bc.alt ?_ (kP (rF c) w z boot_list (by decide) (by decide) A h o λI P s Z t H Q S i g=>AW S i g)
  refine kP nE w z boot_list (by decide) (by decide) A h o ?_
  intro I P s Z t H Q S i g;have g:bV κ Φ s Z H (jF I t) Q:=g;unfold jF at g;split at g
  .split at g
   .rename_i u L
    obtain⟨v,r,rfl,q,B⟩:=i.cons_inv;rw[B.nil_inv];obtain⟨l,C,rfl,D,J⟩:=kL (K:=X.K) S q L;exact⟨l,C,rfl,D,eG S J g⟩
   .exact g.elim
  .exact g.elim
 |tuple=>
  refine kP lG w z boot_tuple (by decide) (by decide) A h o ?_
  intro I P s Z t H Q S i g;have g:bV κ Φ s Z H (rG I t) Q:=g;unfold rG at g;split at g
  .obtain⟨v,r,rfl,q,B⟩:=i.cons_inv
   rw[B.nil_inv];have T:=q;obtain⟨l,C,rfl,_,D,J⟩:=el q;exact⟨l,C,rfl,.inr ⟨sM (.inl D),bV.ret S T g⟩⟩
  .split at g
   .rename_i u L
    obtain⟨v,r,rfl,q,B⟩:=i.cons_inv;rw[B.nil_inv];obtain⟨l,C,rfl,D,J⟩:=bS S q L;exact⟨l,C,rfl,.inl ⟨nG D,pC S J g⟩⟩
   .exact g.elim
  .exact g.elim
 |sorted=>simp at O
 |bool=>simp at O
def kQ(xs:List D)(Ω:aI):av D:=match xs with
 |[x]=>match cN Ω x with
  |some a=>match iI a with
   |.ok b=>iM Ω (.lst b)
   |_=>.bad
  |none=>.bad
 |_=>.bad
theorem pK:∀{ds:List D}{a:List Int}{vs:List V},mn ds=some a->aG (ah α Z H) ds vs->vs=a.map V.int
 |[],a,vs,h,r=>by cases h;exact r.nil_inv
 |d::ds,a,vs,h,r=>by
  obtain⟨v,f,rfl,b,c⟩:=r.cons_inv;cases d with
  |int i=>
   obtain⟨g,e,rfl⟩:=Option.map_eq_some_iff.mp (show(mn ds).map (i :: ·)=some a from h)
   simp only[ah]at b;rw[b,pK e c];rfl
  |_=>cases h
theorem pL:∀{ds:List D}{a:List Str}{vs:List V},hV ds=some a->aG (ah α Z H) ds vs->vs=a.map V.str
 |[],a,vs,h,r=>by cases h;exact r.nil_inv
 |d::ds,a,vs,h,r=>by
  obtain⟨v,f,rfl,b,c⟩:=r.cons_inv;cases d with
  |str i=>
   obtain⟨g,e,rfl⟩:=Option.map_eq_some_iff.mp (show(hV ds).map (i :: ·)=some a from h)
   simp only[ah]at b;rw[b,pL e c];rfl
  |_=>cases h
theorem kR{a:Type}{f:a->D}{g:a->V}(h:∀x,ah α Z H (f x) (g x)):∀xs:List a,aG (ah α Z H) (xs.map f) (xs.map g)
 |[]=>.nil
 |x::xs=>.cons (h x) (kR h xs)
theorem xy(m:Gl X "sorted")(n:X.mg "sorted"=none)(o:starEach (e::es) X.env=(false,eval e X.env)::starEach es X.env)(h:(backTo pos (starEach es X.env)).any (·.1)=false)(q:nP X κ Φ (e::es) as) :
  bc X κ Φ (.Call (.Name "sorted" p) (e::es) [] pos) (mN kQ as):=by
 refine eI uW m n (by decide +kernel) (by decide) (by decide) o h q ?_
 intro z A B Z C H Q S s g;unfold kQ at g;split at g
 .split at g
  .rename_i E t
   obtain⟨v,r,rfl,u,w⟩:=s.cons_inv;rw[w.nil_inv];obtain⟨a,F,rfl,l,d⟩:=bS S u t;split at g
   .rename_i G b
    unfold iI at b;split at b
    .cases b
    .rename_i y
     split at b
     .rename_i c i
      cases b;have j:=pK i d;subst j;have k:c.length<64:=by have:=d.length;rw[List.length_map]at this;omega
      exact⟨a,rfl,.inr ⟨c,nG l,k,eG S (kR (f:=D.int) (g:=V.int) (λx=>by simp only[ah]) _) g⟩⟩
     .split at b
      .rename_i c i
       cases b;have j:=pL i d;subst j;have k:c.length<64:=by have:=d.length;rw[List.length_map]at this;omega
       exact⟨a,rfl,.inl ⟨c,nG l,k,eG S (kR (f:=D.str) (g:=V.str) (λx=>by simp only[ah]) _) g⟩⟩
      .cases b
   .exact g.elim
  .exact g.elim
 .exact g.elim
def LL(t:Ty):D->aI->av D:=uY λd=>match oH d t with|some b=>.ok (false,.bl b)|none=>.bad
noncomputable def Ep(t:Ty)(x:D)(Ω:aI):av D:=match x with
 |.ref k=>match Ω[k]? with
  |some (.lst _)=>.ok (.bl (t==.list)) Ω
  |some (.dK _)=>.ok (.bl (t==.dict)) Ω
  |_=>.bad
 |.lst _=>.ok (.bl (t==.list)) Ω
 |.tup _=>.ok (.bl (t==.tuple)) Ω
 |_=>.bad
def eo(t:Ty):D->aI->av D:=Ee (Ep t) (LL t)
def CM(K:PySem.W.Frag):List V->Hp->VK->Prop:=λd H Q=>∃a c t,d=[.ref a,.ty (Ty.id t)]/\((Rd H a (.lst c)/\Q (.bl (t==.list)) H)\/(Rd H a (.tup c)/\Q (.bl (t==.tuple)) H)\/(∃b,H a=some (.dK b)/\Q (.bl (t==.dict)) H))
theorem vu:ed X (.builtin "isinstance") (CM X.K):=by
 intro pins s f H n p Q I r h;obtain⟨a,w,t,rfl,h⟩:=h;obtain⟨u,i,rfl,e,j⟩:=vals2 r;cases (show i=Value.type (Ty.id t)from j)
 obtain⟨x,y,A,B,g,k,l⟩:=sT X.K t;rcases h with ⟨d,q⟩|⟨d,q⟩|⟨m,d,q⟩
 .have b:∀c,EP X pins f Q (.bool (t==.list)) {s with toks:=c}:=λc=>⟨.bl _,H,I.tok c,rfl,q⟩
  rcases d with d|⟨o,d⟩
  .exact cJ I e (.lst d) g b
  .exact cJ I e (.cw d) g b
 .have b:∀c,EP X pins f Q (.bool (t==.tuple)) {s with toks:=c}:=λc=>⟨.bl _,H,I.tok c,rfl,q⟩
  cases e;exact PySem.W.kia_one PySem.W.kitx_tuple I.eg (jC (K:=X.K) I d) k (λz=>nomatch z) b
 .have b:∀c,EP X pins f Q (.bool (t==.dict)) {s with toks:=c}:=λc=>⟨.bl _,H,I.tok c,rfl,q⟩
  exact cJ I e (.dK d) l b
theorem AY{t:Ty}{f:Pos}(A:Gl X "isinstance")(B:X.mg "isinstance"=none)(u:Gl X t.nm)(w:X.mg t.nm=none)
  (n:starEach [a,Expr.Name t.nm f] X.env=(false,eval a X.env)::starEach [Expr.Name t.nm f] X.env) (h:(backTo pos (starEach [Expr.Name t.nm f] X.env)).any (·.1)=false) (o:bc X κ Φ a ma) :
  bc X κ Φ (.Call (.Name "isinstance" p) [a,.Name t.nm f] [] pos) (m1 (eo t) ma):=by
 have i:PE X (.Name t.nm f) (tC (.ty t.id)):=su u w (sS t) rfl (by cases t<;>decide) (by cases t<;>decide)
 unfold eo;rw[Ef];refine bc.alt ?_ ?_
 .refine jU (r:=λx H Q=>CM X.K [x,.ty t.id] H Q) (λD y=>iA vu A B boot_isinstance (ei y (ei i ng rfl) n) (by decide) (by decide) n h) o ?_
  intro E x F Z G H Q S c g;unfold Ep at g;split at g
  .split at g
   .rename_i k ds z
    obtain⟨a,j,rfl,e,C⟩:=bS (ds:=ds) S c (by simp only[cN,z])
    exact⟨a,j,t,rfl,.inl ⟨e,bV.ret S (aW rfl) g⟩⟩
   .rename_i k I z
    simp only[ah]at c;obtain⟨a,o,rfl⟩:=c;obtain⟨M,l,m,e,_⟩:=S.cell z;rw[o]at l;cases l
    exact⟨a,[],t,rfl,.inr (.inr ⟨m,e,bV.ret S (aW rfl) g⟩)⟩
   .exact g.elim
  .rename_i ds
   obtain⟨a,j,rfl,e,C⟩:=bS (ds:=ds) S c rfl;exact⟨a,j,t,rfl,.inl ⟨e,bV.ret S (aW rfl) g⟩⟩
  .obtain⟨a,j,rfl,_,e,C⟩:=el c
   exact⟨a,j,t,rfl,.inr (.inl ⟨.inl e,bV.ret S (aW rfl) g⟩)⟩
  .exact g.elim
 .refine jU (r:=λx H Q=>Eb X.K [x,.ty t.id] H Q) (λD y=>iA pf A B boot_isinstance (ei y (ei i ng rfl) n) (by decide) (by decide) n h) o ?_
  intro E x F Z G H Q S c g;obtain⟨d,J,N,L,s,k⟩:=pB (bw:=false) S c g;cases q:oH d t with
  |none=>rw[q]at s;cases s
  |some b=>
   rw[q]at s;cases s;exact⟨_,d,x,t,b,rfl,L,q,jo (dj S) k rfl⟩
def cL(b:aI->D->Bool)(f:D->List D->aI->av D)(e:EM)(as:AM):EM:=λd g=>(e d g).bind λx a=>if b a x=true then (as d a).bind λh c=>f x h c else .bad
def pM(Ω:aI)(x:D):Bool:=(cN Ω x).isSome
noncomputable def xB(_:aI)(x:D):Bool:=match x with
 |.str _=>true
 |_=>false
theorem xC{x:D}{v:V}{K:PySem.W.Frag}(S:bb κ α Z Ω H)(r:ah α Z H x v)(h:pM Ω x=true):CC K "list" v H:=by
 unfold pM at h;cases q:cN Ω x with
 |none=>rw[q]at h;cases h
 |some d=>
  obtain⟨a,b,rfl,c,e⟩:=bS S r q;exact .inl ⟨rfl,b,nG c⟩
theorem AZ{x:D}{v:V}{K:PySem.W.Frag}(S:bb κ α Z Ω H)(r:ah α Z H x v)(h:xB Ω x=true):CC K "str" v H:=by
 cases x with
 |str z=>simp only[ah]at r;subst r;rfl
 |_=>cases h
section
variable{T id:String}{name:Str}{r:V->List V->Hp->VK->Prop}{JL:aI->D->Bool}{f:D->List D->aI->av D}
theorem A_(p:PlainAttrs T)(slot:PySem.Slot T name id)(h:typeOf (.builtin id)=pure (.type "method_descriptor"))(q:DO X id r)
  (s:∀x v a Z Ω H,bb κ a Z Ω H->ah a Z H x v->JL Ω x=true->CC X.K T v H)
  (t:∀x v xs vs a Z Ω H Q,bb κ a Z Ω H->ah a Z H x v->aG (ah a Z H) xs vs->bV κ Φ a Z H (f x xs Ω) Q->r v vs H Q)
  (b:attributeBase o name X.env (eval o X.env)=eval o X.env) (c:(apos.endLine==cpos.line)=true) (u:bc X κ Φ o mo):bc X κ Φ (.Call (.Attribute o name apos) [] [] cpos) (cL JL f mo aq):=by
 intro i w y z Ω;refine PE.imp (L2.DS p slot h q (u i w y z Ω) b c) ?_;rintro B H Q ⟨a,Z,S,g⟩;refine⟨a,Z,S,bV.use g λx d _ v k e l C m n j=>?_⟩
 split at j
 .rename_i A
  exact⟨s x v e l d k m n A,t x v [] [] e l d k Q m n .nil j⟩
 .exact j.elim
theorem rJ{env:Env}:∀{es:List Expr},(∀e∈es,isStar e=false)->((backTo cpos (starEach es env)).all (λx=>!x.1))=true
 |[],_=>rfl
 |e::es,h=>by
  rw[bj (h e (by simp))]
  show(!false&&(backTo cpos (starEach es env)).all (λx=>!x.1))=true
  rw[rJ λz hz=>h z (by simp[hz])];rfl
theorem nU(B:PlainAttrs T)(slot:PySem.Slot T name id)(l:typeOf (.builtin id)=pure (.type "method_descriptor"))(C:DO X id r)
  (D:∀x v a Z Ω H,bb κ a Z Ω H->ah a Z H x v->JL Ω x=true->CC X.K T v H)
  (E:∀x v xs vs a Z Ω H Q,bb κ a Z Ω H->ah a Z H x v->aG (ah a Z H) xs vs->bV κ Φ a Z H (f x xs Ω) Q->r v vs H Q)
  (c:attributeBase o name X.env (eval o X.env)=eval o X.env) (d:(apos.endLine==cpos.line)=true) (F:bc X κ Φ o mo) (G:nP X κ Φ (e::es) as) (h:∀z∈e::es,isStar z=false) (s:(e::es).length<20):bc X κ Φ (.Call (.Attribute o name apos) (e::es) [] cpos) (cL JL f mo as):=by
 intro i t u w Ω
 have j:((backTo cpos (starEach (e::es) X.env)).all (λx=>!x.1)&&(backToKw cpos (keywordEach [] X.env)).all (λx=>x.1.isSome)
   && decide ((e::es).length+([]:List Keyword).length+(if ([]:List Keyword).isEmpty then 0 else 1)<30))=true:=by
  rw[rJ h,decide_eq_true (by show(e::es).length+0+0<30;omega)];rfl
 refine PE.imp (L2.GF B slot l C (F i t u w Ω) (PA.ex λb=>G i t u w b) c j d (bj (h e (by simp))) (bR λz I=>h z (by simp[I]))) ?_
 rintro Y H Q ⟨a,Z,S,g⟩;refine⟨a,Z,S,bV.use g λx b _ v J k y L m A n=>?_⟩
 split at n
 .rename_i M
  exact⟨D x v k y b J m A M,b,k,y,S.grow L m,nO.use n λxs p _ vs N q O P R U V=>E x v xs vs q O p N Q R (m.cV P A) U V⟩
 .exact n.elim
end
noncomputable def vw(Ω:aI):D->Option (Nat×List D)
 |.ref k=>match Ω[k]? with
  |some (.lst ds)=>some (k,ds)
  |_=>none
 |_=>none
theorem pN{x:D}{v:V}{k:Nat}{ds:List D}(S:bb κ α Z Ω H)(r:ah α Z H x v)(h:vw Ω x=some (k,ds)):∃a vs,v=.ref a/\α[k]?=some a/\H a=some (.lst vs)/\aG (ah α Z H) ds vs:=by
 cases x with
 |ref n=>
  simp only[vw]at h;split at h
  .rename_i d e
   cases h;simp only[ah]at r;obtain⟨a,c,rfl⟩:=r;obtain⟨i,b,vs,f,g⟩:=S.cell e;rw[c]at b;cases b;exact⟨a,vs,rfl,c,f,g⟩
  .cases h
 |_=>cases h
theorem pO{k:Nat}{p:Addr}{ds:List D}{vs:List V}{d:D}{u:V}(S:bb κ α Z Ω H)(b:α[k]?=some p){e:List V}(f:H p=some (.lst e))(r:aG (ah α Z H) ds vs)(h:ah α Z H d u)(g:bV κ Φ α Z H (.ok d (Ω.set k (.lst ds))) Q):Q u (upd H p (.lst vs)):=by
 obtain⟨i,a⟩:=S.put (o:=.lst vs) (c:=.lst ds) b (λo u z=>by rw[f]at z;cases z) λR j=>⟨vs,aF,r.imp j⟩
 exact g _ _ _ _ a i (S.cV a h)
def cX(x:D)(xs:List D)(Ω:aI):av D:=match vw Ω x,xs with
 |some (k,a),[y]=>if small (a.length+1)then .ok .non (Ω.set k (.lst (a++[y])))else .bad
 |_,_=>.bad
def cW(x:D)(xs:List D)(Ω:aI):av D:=match vw Ω x,xs with
 |some (k,a),[]=>.ok .non (Ω.set k (.lst a.reverse))
 |_,_=>.bad
def kS(x:D)(xs:List D)(Ω:aI):av D:=match xs with
 |[y]=>gb (λa b=>DW .join a (.tup [b])) x y Ω
 |_=>.bad
theorem iT{R:D->V->Prop}{y:D}{vs:List V}(h:aG R [y] vs):∃v,vs=[v]/\R y v:=by
 obtain⟨v,r,rfl,a,b⟩:=h.cons_inv;rw[b.nil_inv];exact⟨v,rfl,a⟩
theorem nV{R:D->V->Prop}{y z:D}{vs:List V}(h:aG R [y,z] vs):∃v w,vs=[v,w]/\R y v/\R z w:=by
 obtain⟨v,r,rfl,a,b⟩:=h.cons_inv;obtain⟨w,rfl,c⟩:=iT b;exact⟨v,w,rfl,a,c⟩
theorem vx{x:D}{v:V}{xs:List D}{vs:List V}(S:bb κ α Z Ω H)(r:ah α Z H x v)(d:aG (ah α Z H) xs vs)(g:bV κ Φ α Z H (cX x xs Ω) Q):sH v vs H Q:=by
 unfold cX at g;split at g
 .rename_i k l y e
  obtain⟨a,f,rfl,h,b,c⟩:=pN S r e;obtain⟨u,rfl,i⟩:=iT d;split at g
  .rename_i j
   have:=bz j;exact⟨a,f,u,rfl,rfl,b,by rw[c.length];omega,pO S h b (c.append (.one i)) (aW rfl) g⟩
  .exact g.elim
 .exact g.elim
theorem rK{x:D}{v:V}{xs:List D}{vs:List V}(S:bb κ α Z Ω H)(r:ah α Z H x v)(c:aG (ah α Z H) xs vs)(g:bV κ Φ α Z H (cW x xs Ω) Q):oV v vs H Q:=by
 unfold cW at g;split at g
 .rename_i k i d
  obtain⟨a,e,rfl,f,b,h⟩:=pN S r d;rw[c.nil_inv];exact⟨a,e,rfl,rfl,b,pO S f b h.reverse (aW rfl) g⟩
 .exact g.elim
theorem Ba{x:D}{v:V}{xs:List D}{vs:List V}(S:bb κ α Z Ω H)(r:ah α Z H x v)(c:aG (ah α Z H) xs vs)(g:bV κ Φ α Z H (kS x xs Ω) Q):rJoin v vs H Q:=by
 unfold kS at g;split at g
 .obtain⟨u,rfl,f⟩:=iT c
  obtain⟨d,e,h,o,i,j,a,k⟩:=iP (bw:=false) S r f g;cases d with
  |str z=>
   cases cR i;cases e with
   |lst l=>
    (unfold DW at a;dsimp only at a)
    split at a
    .rename_i m n
     split at a
     .rename_i b
      cases a;simp only[Bool.and_eq_true,decide_eq_true_eq]at b;exact⟨z,_,l,m,u,rfl,rfl,j,n,b.1,b.2,jo (dj S) k rfl⟩
     .cases a
    .cases a
   |_=>cases a
  |_=>cases e<;>cases a
 .exact g.elim
end
inductive Src where
 |seq (x:D)|ints (lo:Int) (n:Nat)|chars (z:Str)|keys (k:Nat)
def hG:Src->aI->Option (List D)
 |.seq x,Ω=>fw Ω x
 |.ints lo n,_=>some (intsFrom lo n)
 |.chars z,_=>some (z.cps.toList.map λc=>.str (aR c))
 |.keys k,Ω=>match Ω[k]? with
  |some (.dF kvs)=>some (kvs.map λa=>xr a.1)
  |some (.dG kvs)=>some (kvs.map λa=>pI a.1)
  |_=>none
abbrev IM:=aS->aI->av Src
def vy(κ:Str->Addr->Prop)(s:Src)(J:It)(j:List Addr)(Z:Addr->Prop)(H:Hp):Prop:=∀a f b c g,bU j Z H a f c->bb κ a f b c->hG s b=some g ->
 (∀(i:Nat) (d:D),g[i]?=some d->J.go i c/\∀x e,J.JF i c x e->∃h,bU a f c a h e/\bb κ a h b e/\ah a h e d x)/\∀i,g.length<=i->J.stop i c
def rL(κ:Str->Addr->Prop)(Φ:fg)(e:List Addr)(Z:Addr->Prop)(H:Hp)(r:av Src)(R:It->Hp->Prop):Prop:=match r with
 |.ok s b=>∀J c a d,bU e Z H a d c->bb κ a d b c->vy κ s J a d c->R J c
 |.exc x b=>∀c a d,bU e Z H a d c->bb κ a d b c->Φ x b a d c
 |.bad=>False
noncomputable def QM(κ:Str->Addr->Prop)(Φ:fg)(ck:List Addr)(Z0:Addr->Prop)(H0:Hp)(m:IM)(ρ:aS)(Ω:aI):TI:=λb H R=>∃a Z,bY κ ck Z0 H0 a Z Ω ρ b H/\rL κ Φ a Z H (m ρ Ω) R
def xD(X:Cx)(κ:Str->Addr->Prop)(Φ:fg)(b e:Expr)(m:IM):Prop:=∀a c d f g,PI X b e (QM κ Φ a c d m f g)
def srcOf(Ω:aI)(x:D):av Src:=match fw Ω x,x with
 |some _,x=>.ok (.seq x) Ω
 |none,.str z=>.ok (.chars z) Ω
 |none,.ref k=>(match Ω[k]? with
  |some (.dK a)=>.ok (.keys k) (Ω.set k (.dF a))
  |some (.dF _)=>.ok (.keys k) Ω
  |some (.dT a)=>.ok (.keys k) (Ω.set k (.dG a))
  |some (.dG _)=>.ok (.keys k) Ω
  |_=>.bad)
 |none,_=>.bad
def dZ(m:EM):IM:=λb c=>(m b c).bind λx a=>srcOf a x
def tr(xs:List D)(Ω:aI):av Src:=match xs with
 |[.int j]=>if jN j then .ok (.ints 0 j.toNat) Ω else .bad
 |_=>.bad
def tu(xs:List D)(Ω:aI):av Src:=match xs with
 |[.int i,.int j]=>if jN i&&jN j then .ok (.ints i (j - i).toNat) Ω else .bad
 |_=>.bad
def eU(as:AM):IM:=λa b=>(as a b).bind tr
def tw(as:AM):IM:=λa b=>(as a b).bind tu
section
variable{X:Cx}{κ:Str->Addr->Prop}{Φ:fg}{α α' ck α1:List Addr}{Z Z' Z0 Z1:Addr->Prop}{Ω aD:aI}{H H' H0 H1:Hp}{ρ:aS}{σ:L2.St}{Q Q':VK}{r:av D}{a b e ce o tg:Expr}{rest:List Expr}{es:List Expr}{ma mb mc m mo:EM}{as:AM}{pos p apos cpos tpos:Pos}
theorem rL.from{r:av Src}{R:It->Hp->Prop}(g:bU α Z H α1 Z1 H1)(h:rL κ Φ α Z H r R):rL κ Φ α1 Z1 H1 r R:=by
 cases r with
 |ok d b=>exact λv c a e f=>h v c a e (g.trans f)
 |exc x b=>exact λc a e f=>h c a e (g.trans f)
 |bad=>exact h
theorem rL.use{r:av D}{f:D->aI->av Src}{R:It->Hp->Prop}(h:rL κ Φ α Z H (r.bind f) R)(k:∀d a,r=.ok d a->∀v c b e,bU α Z H b e c->bb κ b e a c->ah b e c d v->rL κ Φ b e c (f d a) R->Q' v c):bV κ Φ α Z H r Q':=by
 cases r with
 |ok d a=>exact λv c b e g s q=>k d a rfl v c b e g s q (rL.from g h)
 |exc x a=>exact h
 |bad=>exact h
theorem pP{K:PySem.W.Frag}{x:D}{a:Addr}(p:ah α Z H x (.ref a))(S:bb κ α Z Ω H)(q:(cN Ω x).isSome=true):vy κ (.seq x) (Lw K a) α Z H:=by
 intro r t b C u g s w;have c:=S.cV g p;have f:∀h,x≠.tup h:=λh e=>by subst e;cases q
 have j:cN b x=some u:=by
  cases x with
  |tup h=>exact absurd rfl (f _)
  |_=>exact w
 obtain⟨E,k,e,l,n⟩:=bS s c j;cases e;refine⟨λi d z=>?_,λi A=>⟨k,nG l,by rw[n.length];exact A⟩⟩
 obtain⟨v,o,B⟩:=n.get z;refine⟨⟨k,v,nG l,o⟩,λy F m=>?_⟩
 obtain⟨rfl,m⟩:=m;have:=m k (nG l);rw[o]at this;cases this;exact⟨t,bU.refl s.has,s,B⟩
theorem Bb{K:PySem.W.Frag}{es:List D}{a:Addr}(l:ah α Z H (.tup es) (.ref a))(S:bb κ α Z Ω H):vy κ (.seq (.tup es)) (Lx K a) α Z H:=by
 intro m n o u w g s p;have b:=S.cV g l;cases p;obtain⟨x,c,e,_,f,j⟩:=el b;cases e;refine⟨λi d q=>?_,λi r=>⟨c,sM (.inl f),by rw[j.length];exact r⟩⟩
 obtain⟨v,k,t⟩:=j.get q;refine⟨⟨c,v,sM (.inl f),k⟩,λy z h=>?_⟩
 obtain⟨rfl,h⟩:=h;have:=h c (sM (.inl f));rw[k]at this;cases this;exact⟨n,bU.refl s.has,s,t⟩
theorem pQ{k:Nat}{a:Addr}{o:Obj}{e:List (Key×V)}(z:α[k]?=some a)(A:H a=some (.cw o (.dK e))):vy κ (.keys k) (GY a o) α Z H:=by
 intro B C D K L g s n;have f:=g.pre k a z;have b:=g.cw a _ _ A;simp only[hG]at n;split at n
 .rename_i h r
  cases n;obtain⟨E,c,F,j,l,t⟩:=s.cell r;rw[f]at c;cases c
  rw[b]at l;cases l
  have M:=t.length;refine⟨λi d w=>?_,λi G=>⟨e,b,by rw[List.length_map]at G;omega⟩⟩
  rw[List.getElem?_map]at w;obtain⟨p,I,rfl⟩:=Option.map_eq_some_iff.mp w;obtain⟨q,y,J,_⟩:=aG.get t I;refine⟨⟨e,b,(List.getElem?_eq_some_iff.mp y).1⟩,λx N u=>?_⟩
  obtain⟨rfl,u⟩:=u;obtain⟨O,m,rfl⟩:=u e b;rw[y]at m;cases m
  refine⟨C,bU.refl s.has,s,?_⟩;rw[J];cases q.1<;>simp only[xr,kV,ah]
 .rename_i h r
  obtain⟨E,c,F,j,l,t⟩:=s.cell r;rw[f]at c;cases c
  rw[b]at l;cases l
 .cases n
theorem mG{k:Nat}{a:Addr}{o:Obj}{f:List (List Key×V)}(C:α[k]?=some a)(D:H a=some (.cw o (.dT f))):vy κ (.keys k) (G_ a o) α Z H:=by
 intro E Q F R S g s t;have h:=g.pre k a C;have b:=g.cw a _ _ D;simp only[hG]at t;split at t
 .rename_i j u
  obtain⟨G,c,I,l,m,w⟩:=s.cell u;rw[h]at c;cases c
  rw[b]at m;cases m
 .rename_i j u
  cases t;obtain⟨G,c,I,l,m,w⟩:=s.cell u;rw[h]at c;cases c
  rw[b]at m;cases m
  have T:=w.length;refine⟨λi d A=>?_,λi J=>⟨f,b,by rw[List.length_map]at J;omega⟩⟩
  rw[List.getElem?_map]at A;obtain⟨p,K,rfl⟩:=Option.map_eq_some_iff.mp A;obtain⟨q,B,L,_⟩:=aG.get w K;refine⟨⟨f,b,(List.getElem?_eq_some_iff.mp B).1⟩,λx U y=>?_⟩
  obtain⟨rfl,y⟩:=y;obtain⟨X,M,n,rfl,r⟩:=y f b;rw[B]at n;cases n
  obtain⟨N,O⟩:=s.GX (P:=λz=>z=M) λz e=>⟨_,e▸r⟩
  refine⟨_,O,N,?_⟩;rw[L];exact pJ (.inr rfl) r
 .cases t
theorem Bc(h:bc X κ Φ e m):xD X κ Φ tg e (dZ m):=by
 intro J Q T U V;refine PI.imp (AS (h J Q T U V)) ?_;rintro σ H R ⟨Y,Z,S,g⟩;refine⟨Y,Z,S,rL.use g λx K _ v D k A g1 f s p=>?_⟩
 cases x with
 |tup P=>
  have q:=s;obtain⟨a,F,rfl,_,l,B⟩:=el s;exact .inr (.inl ⟨a,F,rfl,.inl l,p _ D k A (bU.refl f.has) f (Bb q f)⟩)
 |lst P=>
  have q:=s;obtain⟨a,F,rfl,l,B⟩:=bS (ds:=P) f s rfl;exact .inl ⟨a,F,rfl,l,p _ D k A (bU.refl f.has) f (pP q f rfl)⟩
 |ref n=>
  cases w:cN K (.ref n)with
  |none=>
   simp only[srcOf,fw,w]at p;simp only[ah]at s;obtain⟨a,t,rfl⟩:=s;split at p
   .rename_i r C
    obtain⟨L,j,b,l,B⟩:=f.cell C;rw[t]at j;cases j
    refine .inr (.inr (.inr (.inl ⟨a,b,rfl,.inl ⟨l,λo=>?_⟩⟩)))
    obtain⟨E,G⟩:=f.put (o:=.cw o (.dK b)) (c:=.dF r) t (λo u z=>by rw[l]at z;cases z) λR M=>⟨o,b,aF,B.imp M⟩
    exact p _ _ k A G E (pQ t aF)
   .rename_i r C
    obtain⟨L,j,o,b,l,B⟩:=f.cell C;rw[t]at j;cases j
    exact .inr (.inr (.inr (.inl ⟨a,b,rfl,.inr ⟨o,l,p _ D k A (bU.refl f.has) f (pQ t l)⟩⟩)))
   .rename_i r C
    obtain⟨L,j,b,l,B⟩:=f.cell C;rw[t]at j;cases j
    refine .inr (.inr (.inr (.inr ⟨a,b,rfl,.inl ⟨l,λo=>?_⟩⟩)))
    obtain⟨E,G⟩:=f.put (o:=.cw o (.dT b)) (c:=.dG r) t (λo u z=>by rw[l]at z;cases z) λR M=>⟨o,b,aF,B.imp M⟩
    exact p _ _ k A G E (mG t aF)
   .rename_i r C
    obtain⟨L,j,o,b,l,B⟩:=f.cell C;rw[t]at j;cases j
    exact .inr (.inr (.inr (.inr ⟨a,b,rfl,.inr ⟨o,l,p _ D k A (bU.refl f.has) f (mG t l)⟩⟩)))
   .exact p.elim
  |some ds=>
   simp only[srcOf,fw,w]at p;have q:=s;obtain⟨a,F,rfl,l,B⟩:=bS f s w;exact .inl ⟨a,F,rfl,l,p _ D k A (bU.refl f.has) f (pP q f (by rw[w];rfl))⟩
 |str z=>
  simp only[ah]at s;subst s;refine .inr (.inr (.inl ⟨z,rfl,p _ D k A (bU.refl f.has) f ?_⟩));intro a0 Z2 b0 H2 ds G E hs;cases hs;refine⟨λi d I=>?_,λi N=>by show z.cps.size<=i;simpa using N⟩
  have N:i<z.cps.size:=by
   have:=(List.getElem?_eq_some_iff.mp I).1;simpa using this
  refine⟨N,λy H3 hy=>?_⟩
  obtain⟨rfl,c,hc,rfl⟩:=hy;rw[List.getElem?_map]at I;have O:z.cps.toList[i]?=some c:=by simpa using hc
  rw[O]at I;cases I;exact⟨Z2,bU.refl E.has,E,aW rfl⟩
 |non=>exact p.elim
 |bl _=>exact p.elim
 |int _=>exact p.elim
 |dct _ _=>exact p.elim
theorem pR{b:Int}{n:Nat}:vy κ (.ints b n) (Dz b n) α Z H:=by
 intro e f h l m g s j;cases j;refine⟨λi d c=>?_,λi a=>by rw[kE]at a;exact a⟩
 have a:=(List.getElem?_eq_some_iff.mp c).1;rw[kE]at a;refine⟨a,λy o k=>?_⟩
 obtain⟨rfl,rfl⟩:=k;rw[ints_get _ _ _ _ c];exact⟨f,bU.refl s.has,s,aW rfl⟩
theorem rL.He{r:av (List D)}{f:List D->aI->av Src}{R:It->Hp->Prop}{Q':List V->Hp->Prop}(h:rL κ Φ α Z H (r.bind f) R)(k:∀ds a,r=.ok ds a->∀vs c b e,bU α Z H b e c->bb κ b e a c->aG (ah b e c) ds vs->rL κ Φ b e c (f ds a) R->Q' vs c):nO κ Φ α Z H r Q':=by
 cases r with
 |ok d a=>exact λv c b e g s q=>k d a rfl v c b e g s q (rL.from g h)
 |exc x a=>exact h
 |bad=>exact h
theorem xE(l:Gl X "range")(m:X.mg "range"=none)(n:nP X κ Φ [a] as)(o:starEach [a] X.env=[(false,eval a X.env)]):xD X κ Φ tg (.Call (.Name "range" p) [a] [] pos) (eU as):=by
 intro d q r s t;refine PI.imp (uE l m (n d q r s t) o) ?_;rintro z H R ⟨u,Z,S,g⟩;refine⟨u,Z,S,rL.He (Q':=λh e=>∃j:Int,h=[.int j] /\ -(2 ^ 62)<=j/\j<2 ^ 62/\R (Dz 0 j.toNat) e) g λA w _ h e f x B i y b=>?_⟩
 unfold tr at b;split at b
 .obtain⟨v,rfl,k⟩:=iT y
  simp only[ah]at k;subst k;split at b
  .rename_i c
   have c:=kq c;exact⟨_,rfl,c.1,c.2,b _ e f x (bU.refl i.has) i pR⟩
  .exact b.elim
 .exact b.elim
theorem xF(s:Gl X "range")(t:X.mg "range"=none)(u:nP X κ Φ [a,b] as)(x:starEach [a,b] X.env=[(false,eval a X.env),(false,eval b X.env)])(d:starEach [b] X.env=[(false,eval b X.env)]):xD X κ Φ tg (.Call (.Name "range" p) [a,b] [] pos) (tw as):=by
 intro e y z A B;refine PI.imp (uF s t (u e y z A B) x d) ?_;rintro G H R ⟨C,Z,S,g⟩;refine⟨C,Z,S,rL.He (Q':=λl f=>∃i j:Int,l=[.int i,.int j]/\(-(2 ^ 62)<=i/\i<2 ^ 62 /\ -(2 ^ 62)<=j/\j<2 ^ 62)/\R (Dz i (j - i).toNat) f) g λI D _ l f h E J m F c=>?_⟩
 unfold tu at c;split at c
 .obtain⟨v,w,rfl,n,o⟩:=nV F
  simp only[ah]at n o;subst n o;split at c
  .rename_i k
   simp only[Bool.and_eq_true]at k;have q:=kq k.1;have r:=kq k.2;exact⟨_,_,rfl,⟨q.1,q.2,r.1,r.2⟩,c _ f h E (bU.refl m.has) m pR⟩
  .exact c.elim
 .exact c.elim
noncomputable def pS(n:Nat)(d:D):Option aS:=match n,d with
 |0,d=>some [some d]
 |n,.tup a=>if a.length=n then some (a.map some)else none
 |_,_=>none
noncomputable def gg(cap:List Nat)(ρ:aS):aS:=cap.map λi=>(ρ[i]?).join
def pU(nc:Bool)(mc:EM)(ρ:aS)(Ω:aI):av Bool:=if nc=true then .ok true Ω else eF (mc ρ Ω)
def zv(nc:Bool)(mc me:EM)(n:Nat)(b:aS)(src:Src):Nat->Nat->List D->aI->av (List D)
 |0,_,_,_=>.bad
 |f+1,i,a,Ω=>match hG src Ω with
  |none=>.bad
  |some ds=>match ds[i]? with
   |none=>.ok a Ω
   |some d=>match pS n d with
    |none=>.bad
    |some c=>if small (a.length+1)then match pU nc mc (c++b) Ω with
     |.ok true vb=>match me (c++b) vb with
      |.ok y JM=>zv nc mc me n b src f (i+1) (a++[y]) JM
      |_=>.bad
     |.ok false vb=>zv nc mc me n b src f (i+1) a vb
     |_=>.bad else .bad
def er(me:EM)(nc:Bool)(mc:EM)(mi:IM)(n:Nat)(cap:List Nat):EM:=λc d=>match mi c d with
 |.ok s a=>match zv nc mc me n (gg cap c) s fuel 0 [] a with
  |.ok e b=>iM b (.lst e)
  |_=>.bad
 |.exc x a=>.exc x a
 |.bad=>.bad
noncomputable def ji:fg:=λ_ _ _ _ _=>False
theorem pV{cap:List Nat}{ds:List D}{vs:List V}(S:bY κ ck Z0 H0 α Z Ω ρ σ H)(g:bU α Z H α1 Z1 H1)(s:bb κ α1 Z1 aD H1)(r:aG (ah α1 Z1 H1) ds vs) :
  bY κ α1 Z1 H1 α1 Z1 aD (ds.map some++gg cap ρ) (vs.map some++ph cap σ) H1:=by
 have a:=r.length;refine⟨s,bU.refl s.has,?_,λi d h=>?_⟩
 .rw[List.length_append,List.length_append,List.length_map,List.length_map,a]
  unfold ph gg;rw[List.length_map,List.length_map]
 .by_cases b:i<ds.length
  .rw[List.getElem?_append_left (by simpa using b),List.getElem?_map]at h
   rw[List.getElem?_append_left (by simpa[a]using b),List.getElem?_map]
   cases q:ds[i]? with
   |none=>rw[q]at h;cases h
   |some l=>
    rw[q]at h;cases h;obtain⟨v,c,e⟩:=r.get q;exact⟨v,by rw[c];rfl,e⟩
  .rw[List.getElem?_append_right (by simpa using b)]at h
   rw[List.getElem?_append_right (by simpa[a]using b)]
   unfold gg at h;unfold ph;rw[List.length_map,List.getElem?_map]at h;rw[List.length_map,a,List.getElem?_map];cases q:cap[i - ds.length]? with
   |none=>rw[q]at h;cases h
   |some j=>
    rw[q]at h;have h:(ρ[j]?).join=some d:=by simpa using h
    have k:ρ[j]?=some (some d):=by
     cases f:ρ[j]? with
     |none=>rw[f]at h;cases h
     |some o=>rw[f]at h;rw[show o=some d from h]
    obtain⟨v,c,e⟩:=S.val j d k;refine⟨v,?_,S.st.cV g e⟩
    show some ((σ[j]?).join)=_
    rw[c];rfl
theorem bU.CN(g:bU α Z H α' Z' H'){a:Addr}{o:HO}(b:a∉α)(h:H a=some o):a∉α':=λq=>by
 rcases g.zu a q with q|q
 .exact b q
 .rw[h]at q;cases q
theorem bU.Er(g:bU α Z H α' Z' H'){a:Addr}{o:HO}(b:¬ Z a)(h:H a=some o)(c:∀vs,o≠.tup vs):¬ Z' a:=λq=>by
 rcases g.new a q with q|q|⟨_,vs,q⟩
 .exact b q
 .rw[h]at q;cases q
 .rw[h]at q;cases q;exact c _ rfl
theorem bU.side(g:bU α Z H α' Z' H'){a:Addr}{o:HO}(d:a∉α)(h:H a=Option.none):bU α Z H α' Z' (upd H' a o):=
 ⟨g.pre,g.sub,g.new,g.zu,λb u e c=>by rw[ai (aM e h)];exact g.frm b u e c,λb c=>by rw[ai (λ(q:b=a)=>d (by rw[←q];exact c))];exact g.has b c,λb f u e=>by rw[ai (aM e h)];exact g.cw b f u e⟩
theorem Bd{n:Nat}{d:D}{a:aS}(h:pS n d=some a):∃ds:List D,a=ds.map some:=by
 unfold pS at h;split at h
 .cases h;exact⟨[d],rfl⟩
 .split at h
  .cases h;exact⟨_,rfl⟩
  .cases h
 .cases h
theorem bb.part(S:bb κ α Z Ω H){g:Addr}{vs:List V}{ds:List D}(i:H g=some (.lst vs))(j:g∉α)(hz:¬ Z g)(r:aG (ah α Z H) ds vs):bb κ (α++[g]) Z (Ω++[.lst ds]) H:=by
 have h:∀(n:Nat) (a:Addr),α[n]?=some a->(α++[g])[n]?=some a:=λn a e=>by rw[List.getElem?_append_left (List.getElem?_eq_some_iff.mp e).1];exact e
 have mono:∀d v,ah α Z H d v->ah (α++[g]) Z H d v:=λd v r=>r.mono h (λ_ _ _ e=>e) λ_ z=>z
 refine⟨?_,?_,λa ha f=>?_,S.dom⟩
 .refine List.nodup_append.mpr ⟨S.jT,by simp,λa ha b k e=>?_⟩
  rw[List.mem_singleton.mp k]at e;exact j (e▸ha)
 .exact aG.append (S.ti.imp λc a l=>l.imp mono (λ_ e=>e) λ_ _ _ e=>e) (.one ⟨vs,i,r.imp mono⟩)
 .rcases List.mem_append.mp ha with ha|ha
  .exact S.sep a ha f
  .rw[List.mem_singleton.mp ha]at f;exact hz f
theorem bb.side(S:bb κ α Z Ω H){f:Addr}{o:HO}(m:f∉α)(hz:¬ Z f)(n:∀o u,H f≠some (.cw o u)):bb κ α Z Ω (upd H f o)/\∀d v,ah α Z H d v->ah α Z (upd H f o) d v:=by
 have mono:∀d v,ah α Z H d v->ah α Z (upd H f o) d v:=λd v r=>r.mono (λ_ _ e=>e) (λa u z e=>by rw[ai (λ(q:a=f)=>hz (by rw[←q];exact z))];exact e) λ_ z=>z
 have k:∀{j:List Cell}{g:List Addr},(∀a∈g,a∈α)->aG (λc a=>e_ κ (ah α Z H) H a c) j g->aG (λc a=>e_ κ (ah α Z (upd H f o)) (upd H f o) a c) j g:=by
  intro j g i p
  induction p with
  |nil=>exact .nil
  |@cons c a j g r t s=>
   have l:a≠f:=λq=>m (q▸i a (by simp))
   exact .cons (r.imp mono (λu e=>by rw[ai l];exact e) λb w x e=>by rw[ai (λq=>n w x (by rw[←q];exact e))];exact e) (s λb y=>i b (by simp[y]))
 exact⟨⟨S.jT,k (λa h=>h) S.ti,S.sep,λa z=>by rw[ai (λ(q:a=f)=>hz (by rw[←q];exact z))];exact S.dom a z⟩,mono⟩
end
section
variable{X:Cx}{κ:Str->Addr->Prop}{Φ:fg}{tg iter elt:Expr}{ifs:List Expr}{scope:Scope}{tn cn:List Str}{cap:List Nat}{me mc:EM}{mi:IM}{nc:Bool}{pos:Pos}{n:Nat}
theorem mH{g:TG}(q0:xD X κ Φ tg iter mi)
  (r0:∀(d:D) (ds:List D) x p Z Ω H (m:L2.St) (k:L2.St->Hp->Prop),pS n d=some (ds.map some)->bb κ p Z Ω H->ah p Z H d x->(∀vs,aG (ah p Z H) ds vs->k (vs.map some++m) H)->g x (List.replicate tn.length none++m) H k)
  (hb:∀cl C h j fp,PG (blk X scope cl C (tn++cn) h j fp) tg g/\((ifs=[]/\nc=true)\/∃c,ifs=[c]/\nc=false/\nN (blk X scope cl C (tn++cn) h j fp) κ ji c mc)/\bc (blk X scope cl C (tn++cn) h j fp) κ ji elt me) :
  ∀ck Z0 H0 ρ Ω,∃wi tc te,PI X tg iter wi/\(∀cl C h j fp,PG (blk X scope cl C (tn++cn) h j fp) tg g/\Aa (blk X scope cl C (tn++cn) h j fp) ifs tc/\PE (blk X scope cl C (tn++cn) h j fp) elt te) /\
   ∀σ H Q,tO κ Φ ck Z0 H0 (er me nc mc mi n cap) ρ Ω σ H Q->mq wi tn.length cap g tc te σ H Q:=by
 intro ck Z0 H0 ρ Ω
 let tc:TT:=λm H Q=>∃p Z Ω r,bY κ p Z H p Z Ω r m H/\rz κ ji p Z H (pU nc mc r Ω) Q
 let te:TE:=λm H Q=>∃p Z Ω r,bY κ p Z H p Z Ω r m H/\bV κ ji p Z H (me r Ω) Q
 have s0:∀cl C h j fp,PG (blk X scope cl C (tn++cn) h j fp) tg g/\Aa (blk X scope cl C (tn++cn) h j fp) ifs tc/\PE (blk X scope cl C (tn++cn) h j fp) elt te:=by
  intro cl C h j fp;obtain⟨h1,V,h3⟩:=hb cl C h j fp;refine⟨h1,?_,?_⟩
  .rcases V with ⟨e,hn⟩|⟨c,e,hn,V⟩
   .subst e
    intro pins s m H Q I q;obtain⟨p,Z,Ω,r,S,k⟩:=q;rw[pU,if_pos hn]at k;exact Ab pins s m H Q I (k H p Z (bU.refl S.st.has) S.st)
   .subst e
    intro pins s m H Q I q;obtain⟨p,Z,Ω,r,S,k⟩:=q;rw[pU,if_neg (by rw[hn];exact Bool.false_ne_true)]at k
    exact Ac (V p Z H r Ω) pins s m H Q I ⟨p,Z,S,k⟩
  .intro pins s m H Q I q
   obtain⟨p,Z,Ω,r,S,k⟩:=q;exact h3 p Z H r Ω pins s m H Q I ⟨p,Z,S,k⟩
 refine⟨_,tc,te,q0 ck Z0 H0 ρ Ω,s0,?_⟩;rintro σ H Q ⟨p,Z,S,k⟩;refine⟨p,Z,S,?_⟩;simp only[er]at k;cases qi:mi ρ Ω with
 |exc x Y=>rw[qi]at k;exact k
 |bad=>rw[qi]at k;exact k.elim
 |ok a0 Y=>
  rw[qi]at k;dsimp only at k;intro J H1 G Z1 g1 s1 w1 B P;cases qg:zv nc mc me n (gg cap ρ) a0 fuel 0 [] Y with
  |exc x e0=>rw[qg]at k;exact k.elim
  |bad=>rw[qg]at k;exact k.elim
  |ok ys e0=>
   rw[qg]at k;dsimp only at k;have R:¬ Z1 B:=λz=>s1.dom B z P
   have A:B∉G:=λz=>s1.has B z P
   refine⟨λi f vs T=>∃t U w E,bU G Z1 H1 t U T/\bb κ t U w T/\B∉t/\¬ U B/\T B=some (.lst vs)/\aG (ah t U T) E vs/\zv nc mc me n (gg cap ρ) a0 f i E w=.ok ys e0,
    ⟨fuel,G,Z1,Y,[],?_,?_,A,R,aF,.nil,qg⟩,?_⟩
   .exact⟨λ_ _ e=>e,λ_ z=>z,λ_ z=>.inl z,λ_ z=>.inl z,λa o e _=>by rw[ai (aM e P)];exact e,λa ha=>by rw[ai (λ(q:a=B)=>A (by rw[←q];exact ha))];exact s1.has a ha,λa o u e=>by rw[ai (aM e P)];exact e⟩
   .exact(s1.side A R λo u z=>by rw[P]at z;cases z).1
   rintro i f vs T ⟨t,U,w,E,F,s2,nD,nZ,K,r2,l⟩;refine⟨K,?_⟩;cases f with
   |zero=>cases l
   |succ f=>
    simp only[zv]at l;cases qs:hG a0 w with
    |none=>rw[qs]at l;cases l
    |some ds=>
     rw[qs]at l;dsimp only at l;obtain⟨u0,v0⟩:=w1 t U w T ds F s2 qs;cases qd:ds[i]? with
     |none=>
      rw[qd]at l;cases l;have hi:ds.length<=i:=List.getElem?_eq_none_iff.mp qd;refine .inl ⟨v0 i hi,?_⟩;have sf:=s2.part K nD nZ r2
      have gA:bU G Z1 H1 (t++[B]) U T:=⟨λn a e=>by rw[List.getElem?_append_left (List.getElem?_eq_some_iff.mp (F.pre n a e)).1];exact F.pre n a e,F.sub,λa z=>by
       rcases F.new a z with z|z|⟨h1,vs,V⟩
       .exact .inl z
       .exact .inr (.inl z)
       .exact .inr (.inr ⟨λq=>(List.mem_append.mp q).elim h1 (λq=>by rw[List.mem_singleton.mp q,P]at V;exact nomatch V),vs,V⟩),λa ha=>by
       rcases List.mem_append.mp ha with ha|ha
       .exact F.zu a ha
       .rw[List.mem_singleton.mp ha];exact .inr P,F.frm,F.has,F.cw⟩
      exact k _ T _ U (g1.trans gA) sf (gz s2 B)
     |some d=>
      rw[qd]at l;dsimp only at l;obtain⟨w0,x0⟩:=u0 i d qd;cases qt:pS n d with
      |none=>rw[qt]at l;cases l
      |some ts=>
       rw[qt]at l;dsimp only at l;obtain⟨es,rfl⟩:=Bd qt
       by_cases L:small (E.length+1)=true
       .rw[if_pos L]at l
        have L:=bz L;refine .inr ⟨w0,by rw[r2.length];omega,λx H3 yl=>?_⟩
        obtain⟨Z3,g3,s3,rx⟩:=x0 x H3 yl;have y0:=g3.Er nZ K (λ_=>by simp)
        have b0:=g3.frm B _ K nD;refine r0 d es x t Z3 w H3 (ph cap σ) _ qt s3 rx λws f0=>?_
        have gB:=g1.trans (F.trans g3);have SB:=pV (cap:=cap) S gB s3 f0;refine⟨t,Z3,w,_,SB,?_⟩;cases qc:pU nc mc (es.map some++gg cap ρ) w with
        |exc x M=>rw[qc]at l;cases l
        |bad=>rw[qc]at l;cases l
        |ok b M=>
         rw[qc]at l;intro H5 g0 Z5 N s5;have c0:=N.CN nD b0;have j0:=N.Er y0 b0 (λ_=>by simp)
         have O:=N.frm B _ b0 nD;cases b with
         |false=>
          refine ra ?_;exact⟨f,Nat.lt_succ_self _,g0,Z5,M,E,F.trans (g3.trans N),s5,c0,j0,O,s3.jE N (s2.jE g3 r2),l⟩
         |true=>
          refine rb ?_;dsimp only at l;have SC:=pV (cap:=cap) S (gB.trans N) s5 (s3.jE N f0);refine⟨g0,Z5,M,_,SC,?_⟩;cases qe:me (es.map some++gg cap ρ) M with
          |exc x m0=>rw[qe]at l;cases l
          |bad=>rw[qe]at l;cases l
          |ok y m0=>
           rw[qe]at l;intro v H6 z0 Z6 g6 s6 rv;have n0:=g6.CN c0 O;have o0:=g6.Er j0 O (λ_=>by simp)
           have p0:=g6.frm B _ O c0;obtain⟨s7,m7⟩:=s6.side (o:=.lst (vs++[v])) n0 o0 (λo u z=>by rw[p0]at z;cases z)
           refine⟨p0,f,Nat.lt_succ_self _,z0,Z6,m0,E++[y],((F.trans (g3.trans N)).trans g6).side A P,s7,n0,o0,aF,?_,l⟩;exact((s5.jE g6 (s3.jE N (s2.jE g3 r2))).append (.one rv)).imp m7
       .rw[if_neg L]at l;cases l
theorem kT{x:Str}{i:Pos}(j:xD X κ Φ (.Name x i) iter mi)(s:scope.names.lookup x=some .local)(l:([x]++cn).Nodup)
  (t:∀cl C b f fp,((ifs=[]/\nc=true)\/∃c,ifs=[c]/\nc=false/\nN (blk X scope cl C ([x]++cn) b f fp) κ ji c mc)/\bc (blk X scope cl C ([x]++cn) b f fp) κ ji elt me) :
  ∀ck Z0 H0 ρ Ω,∃n o te,PI X (.Name x i) iter n/\(∀cl C b f fp,PG (blk X scope cl C ([x]++cn) b f fp) (.Name x i) (hU 0)/\Aa (blk X scope cl C ([x]++cn) b f fp) ifs o/\PE (blk X scope cl C ([x]++cn) b f fp) elt te) /\
   ∀p H Q,tO κ Φ ck Z0 H0 (er me nc mc mi 0 cap) ρ Ω p H Q->mq n [x].length cap (hU 0) o te p H Q:=by
 have q:(relabel scope X.env).names.lookup x=some .local:=lookup_relabel_local s;refine mH (g:=hU 0) (tn:=[x]) j (λd m y D Z Ω H u k h S w z=>?_) λcl C b f fp=>?_
 .have h:some [some d]=some (m.map some):=h
  have e:m=[d]:=by
   injection h with h;cases m with
   |nil=>cases h
   |cons a r=>
    cases r with
    |nil=>simp only[List.map_cons,List.map_nil,List.cons.injEq,Option.some.injEq,and_true]at h;rw[h]
    |cons _ _=>cases h
  subst e;exact z [y] (.one w)
 .obtain⟨A,B⟩:=t cl C b f fp
  exact⟨gK (X:=blk X scope cl C ([x]++cn) b f fp) l rfl (.inl q) (.inr q),A,B⟩
theorem xG{x:Str}{g:Pos}(h:X.calm=true)(B:hY X scope [x] cn cap)(i:∀z,foldedSetIterable iter X.env z=pure z)(d:xD X κ Φ (.Name x g) iter mi)(j:scope.names.lookup x=some .local)(e:([x]++cn).Nodup)
  (k:∀cl C a b fp,((ifs=[]/\nc=true)\/∃c,ifs=[c]/\nc=false/\nN (blk X scope cl C ([x]++cn) a b fp) κ ji c mc)/\bc (blk X scope cl C ([x]++cn) a b fp) κ ji elt me) :
  bc X κ Φ (.ListComp elt [⟨.Name x g,iter,ifs,0⟩] scope pos) (er me nc mc mi 0 cap):=by
 intro f l m n o;obtain⟨s,t,u,p,q,r⟩:=kT (cap:=cap) d j e k f l m n o;exact PE.imp (sV h B p i (jD 1 (by decide)) q) r
theorem rM{K:PySem.W.Frag}:∀v c H Q,qO K 2 (dz [0,1]) v c H Q->qO K 2 (dz [0,1]) v c H λb d=>Q b d/\b.length=c.length/\∀j,2<=j->b[j]?=c[j]?:=λv c H Q h=>by
 obtain⟨a,g,rfl,e,f,v1,i,rfl,v2,k,rfl,rfl,q⟩:=h;refine⟨a,_,rfl,e,f,v1,_,rfl,v2,_,rfl,rfl,q,by simp,λj l=>?_⟩
 rw[List.getElem?_set_ne (by omega),List.getElem?_set_ne (by omega)]
theorem xH{x y:Str}{c:Expr}{t u A:Pos}{D:Nat}(E:X.calm=true)(B:hY X scope [x,y] cn cap)(L:∀z,foldedSetIterable iter X.env z=pure z)(q:xD X κ Φ (.Tuple [.Name x t,.Name y u] D A) iter mi)(M:scope.names.lookup x=some .local)(N:scope.names.lookup y=some .local)(l:([x,y]++cn).Nodup)
  (F:∀cl C b f fp,nN (blk X scope cl C ([x,y]++cn) b f fp) κ ji c mc/\bc (blk X scope cl C ([x,y]++cn) b f fp) κ ji elt me) :
  bc X κ Φ (.ListComp elt [⟨.Tuple [.Name x t,.Name y u] D A,iter,[c],0⟩] scope pos) (er me false mc mi 2 cap):=by
 intro r O P Q G;have I:(relabel scope X.env).names.lookup x=some .local:=lookup_relabel_local M;have m:(relabel scope X.env).names.lookup y=some .local:=lookup_relabel_local N
 obtain⟨wi,tc,te,s,o,R⟩:=mH (g:=qO X.K 2 (dz [0,1])) (tn:=[x,y]) (cn:=cn) (cap:=cap) (n:=2) (ifs:=[c]) (mc:=mc) (nc:=false) (scope:=scope) (elt:=elt) (me:=me) q (λd J z α Z G H T k j S U V=>by
   cases d with
   |tup Y=>
    simp only[pS]at j;split at j
    .rename_i p
     injection j with j;have e:J=Y:=(List.map_inj_right (λ_ _ h=>by injection h)).mp j.symm
     subst e;obtain⟨a,vs,rfl,_,s,o⟩:=el U
     match J,p,o with
     |[d1,d2],_,o=>
      obtain⟨v,w,rfl,q1,q2⟩:=nV o;exact⟨a,_,rfl,sM (.inl s),rfl,v,_,rfl,w,_,rfl,rfl,V [v,w] (.cons q1 (.one q2))⟩
    .cases j
   |_=>cases j) (λcl C b f fp=>⟨wc (X:=blk X scope cl C ([x,y]++cn) b f fp) E (kf (gK (X:=blk X scope cl C ([x,y]++cn) b f fp) l rfl (.inl I) (.inr I)) (kf (gK (X:=blk X scope cl C ([x,y]++cn) b f fp) (i:=1) l rfl (.inl m) (.inr m)) sv)),.inr ⟨c,rfl,rfl,(F cl C b f fp).1⟩,(F cl C b f fp).2⟩) r O P Q G
 exact PE.imp (sV E B s L rM o) R
end
end Mir
namespace L2
open PySem PySem.Spec PyProof.Rows
section
variable{prog:Program}{w:World}{A:Around}{E:Value->Shared->Prop}
theorem mI{it l:Addr}{a:Array Value}(b:l≠it):∀(n i:Nat) (s:Shared) (Q:List Value->Shared->Prop),s.heap.IsListIter it l i->s.heap.IsList l a->i+n<=a.size ->
  (∀h',h'.IsListIter it l (i+n)->Heap.SameBut it s.heap h'->Q ((a.toList.drop i).take n) {s with heap:=h' })->wpAny (model prog w) A (draw (.ref it) n) Q E s
 |0,i,s,Q,x,_,_,q=>wpAny_pure (by simpa using q s.heap x (Heap.SameBut.refl ..))
 |n+1,i,s,Q,x,c,m,q=>by
  have hi:i<a.size:=by omega
  show wpAny _ _ (pyNext (.ref it) >>= _) Q E s
  refine wpAny_bind (wpAny_pyNext_list_item x c (x:=a[i]) (by simp[hi]) λp f d=>wpAny_bind (wpAny_holding (mI b n (i+1) _ _ f (let ⟨o,g,r⟩:=c;⟨o,d.extBut l o b g,r⟩) (by omega) λh j k=>wpAny_pure ?_)))
  have e:a.toList.drop i=a[i]::a.toList.drop (i+1):=by simp[List.drop_eq_getElem_cons,hi]
  have:=q h (by rw[show i+(n+1)=i+1+n by omega];exact j) (d.trans k)
  rw[e,List.take_succ_cons]at this;exact this
theorem jt{s:Shared}{l:Addr}{a:Array Value}{Q:List Value->Shared->Prop}(p:A.handled=none)(h:s.heap.IsList l a)(t:s.TypeIs (.ref l) "list")
  (q:∀h',Heap.ExtBut s.heap.objs.size s.heap h'->Q a.toList {s with heap:=h' }):wpAny (model prog w) A (unpackItems (.ref l) a.size none) Q E s:=by
 have c:l≠s.heap.objs.size:=by obtain⟨o,d,_⟩:=h;exact Nat.ne_of_lt (Heap.lt_size d)
 unfold unpackItems notIterableAtAll;refine wpAny_bind (wpAny_bind (wpAny_specialOf t F.slot_list_iter.lookup (wpAny_pure ?_)));simp only[Bool.false_eq_true,if_false];refine wpAny_bind (wpAny_holding (wpAny_pyIter_list h ?_));generalize i:s.heap.push {cls:=Value.type "list_iterator",data:=.fields #[.ref l,.int 0 0]}=g;have j:∀b o,s.heap.get? b=some o->g.get? b=some o:=λb o e=>by rw[←i];exact Heap.get?_push_of_some _ e
 have u:g.IsListIter s.heap.objs.size l 0:=by rw[←i];exact⟨_,Heap.get?_push_size _ rfl,rfl,rfl⟩
 have k:g.IsList l a:=let ⟨o,d,r⟩:=h;⟨o,j _ _ d,r⟩
 refine wpAny_bind (wpAny_holding (mI c a.size 0 {s with heap:=g} _ u k (by omega) λx y m=>?_))
 have f:List.take a.size (List.drop 0 a.toList)=a.toList:=by
  rw[List.drop_zero];exact List.take_of_length_le (by simp)
 rw[f,if_neg (by simp)]
 refine wpAny_bind (wpAny_holding (wpAny_pyNext_list_end (s:={s with heap:=x}) p y (let ⟨o,d,r⟩:=k;⟨o,m.extBut l o c d,r⟩) (by simp) λz B=>?_))
 simp only[Option.isSome_none,Bool.false_eq_true,if_false];exact wpAny_pure (q z λb o n e=>B b o n (m.extBut b o n (j _ _ e)))
theorem iU{s:Shared}{env:Env}{b:List Expr}{x1}{pos:Pos}{l:Addr}{a:Array Value}{Q:Unit->Shared->Prop}(c:A.handled=none)(d:s.heap.IsList l a)(e:s.TypeIs (.ref l) "list")
  (f:(assignEach b env).length=a.size) (g:(assignEach b env).findIdx? (·.1)=none) (h:∀h',Heap.ExtBut s.heap.objs.size s.heap h'->wpAny (model prog w) A (assignInOrder ((assignEach b env).map (·.2)) a.toList) Q E {s with heap:=h' }) :
  wpAny (model prog w) A (assign (.Tuple b x1 pos) env (.ref l)) Q E s:=by
 rw[assign_Tuple];unfold unpack;rw[f,g];exact wpAny_bind (wpAny_standAt (wpAny_bind (wpAny_holding (jt c d e h))))
end
variable{X:Cx}
noncomputable def Be(n:Nat)(t:zt):TG:=λv c H Q=>∃a b,v=.ref a/\Rd H a (.lst b)/\b.length=n/\t b c H Q
theorem Es{es:List Expr}{k:Nat}{t:zt}{n:Nat}{pos:Pos}(c:X.calm=true)(h:FJ X es t)(m:(assignEach es X.env).length=n)(d:(assignEach es X.env).findIdx? (·.1)=none):PG X (.Tuple es k pos) (Be n t):=by
 intro pins s g H v u Q I r f;obtain⟨a,i,p,q,w,f⟩:=f;subst p;cases r;obtain⟨x,j,l,C⟩:=I.list (show mU X.K H a i from .inl q)
 refine iU (I.ok.hd c) l.isList (let ⟨o,_,y,c,_⟩:=l;⟨o,y,c⟩) (by simp[m,←w,j.length]) d λz A=>?_
 have B:Inv X pins g H {s with heap:=z}:=I.kept (t':=s.toks) λb o e=>A b o (Nat.ne_of_lt (Heap.lt_size e)) e
 exact h pins _ g H i _ Q B (by simpa using j) f
end L2
namespace Mir
open PySem PySem.Spec PyProof.Rows L2
variable [aw]
inductive fS where
 |nx (ρ:aS) (Ω:aI)|bk (ρ:aS) (Ω:aI)|ct (ρ:aS) (Ω:aI)|rt (d:D) (Ω:aI)|exc (x:D) (Ω:aI)|bad
abbrev SM:=aS->aI->fS
def dQ(κ:Str->Addr->Prop)(Φ:fg)(ck:List Addr)(Z0:Addr->Prop)(H0:Hp)(E:Ends):fS->Prop
 |.nx ρ Ω=>∀b H a Z,bY κ ck Z0 H0 a Z Ω ρ b H->E.nx b H
 |.bk ρ Ω=>∀b H a Z,bY κ ck Z0 H0 a Z Ω ρ b H->E.bk b H
 |.ct ρ Ω=>∀b H a Z,bY κ ck Z0 H0 a Z Ω ρ b H->E.ct b H
 |.rt d Ω=>∀v H a Z,bU ck Z0 H0 a Z H->bb κ a Z Ω H->ah a Z H d v->E.rt v H
 |.exc x Ω=>∀H a Z,bU ck Z0 H0 a Z H->bb κ a Z Ω H->Φ x Ω a Z H
 |.bad=>False
noncomputable def Et(κ:Str->Addr->Prop)(Φ:fg)(ck:List Addr)(Z0:Addr->Prop)(H0:Hp)(c:SM)(ρ:aS)(Ω:aI):TS:=λE a H=>∃b Z,bY κ ck Z0 H0 b Z Ω ρ a H/\dQ κ Φ ck Z0 H0 E (c ρ Ω)
def jV(X:Cx)(κ:Str->Addr->Prop)(Φ:fg)(st:Stmt)(c:SM):Prop:=∀a b d e f,PS X st (Et κ Φ a b d c e f)
def lO(X:Cx)(κ:Str->Addr->Prop)(Φ:fg)(a:List Stmt)(c:SM):Prop:=∀b d e f g,iv X a (Et κ Φ b d e c f g)
noncomputable def cF{c:Type}(r:av c)(k:c->aI->fS):fS:=match r with
 |.ok a b=>k a b
 |.exc x b=>.exc x b
 |.bad=>.bad
noncomputable def au:SM:=λa b=>.nx a b
noncomputable def ao(a b:SM):SM:=λe f=>match a e f with
 |.nx c d=>b c d
 |r=>r
def aU(i:Nat)(m:EM):SM:=λb c=>cF (m b c) λd a=>.nx (b.set i (some d)) a
def gF(m:EM):SM:=λb c=>cF (m b c) λ_ a=>.nx b a
def cu(m:EM):SM:=λb c=>cF (m b c) λd a=>.rt d a
def eJ(m:EM)(a b:SM):SM:=λd e=>cF (eF (m d e)) λt c=>if t=true then a d c else b d c
noncomputable def cy:SM:=λ_ _=>.bad
def vz(m:EM)(b:SM):Nat->SM
 |0,_,_=>.bad
 |f+1,ρ,Ω=>cF (eF (m ρ Ω)) λt c=>if t=true then (match b ρ c with
  |.nx a aD=>vz m b f a aD
  |.ct a aD=>vz m b f a aD
  |.bk a aD=>.nx a aD
  |r=>r)else .nx ρ c
def Hg(m:EM)(b:SM):SM:=vz m b fuel
noncomputable def dH:List Nat->List D->aS->aS
 |i::a,d::ds,ρ=>dH a ds (ρ.set i (some d))
 |_,_,ρ=>ρ
noncomputable def dR(i:Nat)(d:D)(ρ:aS):Option aS:=some (ρ.set i (some d))
def mJ(a:List Nat)(d:D)(ρ:aS):Option aS:=match d with
 |.tup b=>if b.length=a.length then some (dH a b ρ)else none
 |_=>none
def fy(c:D->aS->Option aS)(src:Src)(b:SM):Nat->Nat->SM
 |0,_,_,_=>.bad
 |f+1,i,ρ,Ω=>match hG src Ω with
  |none=>.bad
  |some ds=>match ds[i]? with
   |none=>.nx ρ Ω
   |some d=>match c d ρ with
    |none=>.bad
    |some e=>match b e Ω with
     |.nx a aD=>fy c src b f (i+1) a aD
     |.ct a aD=>fy c src b f (i+1) a aD
     |.bk a aD=>.nx a aD
     |r=>r
def hI(a:D->aS->Option aS)(mi:IM)(b:SM):SM:=λd e=>cF (mi d e) λs c=>fy a s b fuel 0 d c
def pW(b:List Nat)(m:EM):SM:=λc f=>cF (m c f) λd a=>match cN a d with
 |some e=>if e.length=b.length then .nx (dH b e c) a else .bad
 |none=>.bad
def pX(e:List Nat)(m:EM):SM:=λc f=>cF (m c f) λd a=>match mJ e d c with
 |some b=>.nx b a
 |none=>.bad
section
variable{X:Cx}{κ:Str->Addr->Prop}{Φ:fg}{α α' ck α1:List Addr}{Z Z' Z0 Z1:Addr->Prop}{Ω aD:aI}{H H' H0 H1:Hp}{ρ:aS}{σ:L2.St}{E:Ends}{a b e ce o tg:Expr}{st:Stmt}{rest ta tb:List Stmt}{m:EM}{mi:IM}{ca cb:SM}{pos pos':Pos}
theorem bY.set(S:bY κ ck Z0 H0 α Z Ω ρ σ H){d:D}{v:V}(r:ah α Z H d v)(i:Nat):bY κ ck Z0 H0 α Z Ω (ρ.set i (some d)) (σ.set i (some v)) H:=by
 refine⟨S.st,S.gr,by simp[S.len],λj c h=>?_⟩
 by_cases a:i=j
 .subst a
  have b:i<ρ.length:=by
   have:=(List.getElem?_eq_some_iff.mp h).1;simpa using this
  rw[List.getElem?_set_self b]at h;cases h;exact⟨v,by rw[List.getElem?_set_self (by rw[S.len];exact b)],r⟩
 .rw[List.getElem?_set_ne a]at h ⊢
  exact S.val j c h
theorem dQ.use{r:av D}{k:D->aI->fS}{Q:VK}(S:bY κ ck Z0 H0 α Z Ω ρ σ H)(f:dQ κ Φ ck Z0 H0 E (cF r k))(h:∀d b v c a e,r=.ok d b->bU α Z H a e c->bY κ ck Z0 H0 a e b ρ σ c->ah a e c d v->dQ κ Φ ck Z0 H0 E (k d b)->Q v c):bV κ Φ α Z H r Q:=by
 cases r with
 |ok d b=>exact λv c a e g s q=>h d b v c a e rfl g (S.grow g s) q f
 |exc x b=>exact λc a e g s=>f c a e (S.gr.trans g) s
 |bad=>exact f
theorem dQ.Hh{r:av Bool}{k:Bool->aI->fS}{Q:Bool->Hp->Prop}(S:bY κ ck Z0 H0 α Z Ω ρ σ H)(f:dQ κ Φ ck Z0 H0 E (cF r k))(h:∀t a c b e,r=.ok t a->bU α Z H b e c->bY κ ck Z0 H0 b e a ρ σ c->dQ κ Φ ck Z0 H0 E (k t a)->Q t c):rz κ Φ α Z H r Q:=by
 cases r with
 |ok d a=>exact λc b e g s=>h d a c b e rfl g (S.grow g s) f
 |exc x a=>exact λc b e g s=>f c b e (S.gr.trans g) s
 |bad=>exact f
theorem iv.ex{c:Type}{t:c->TS}{a:List Stmt}(h:∀i,iv X a (t i)):iv X a (λD b H=>∃i,t i D b H):=λpins s b H D I ⟨i,q⟩=>h i pins s b H D I q
theorem Bf:lO X κ Φ [] au:=by
 intro a d e g h;refine iv.imp mV ?_;rintro E b H ⟨c,Z,S,f⟩;exact f b H c Z S
theorem xI(k:jV X κ Φ st ca)(l:lO X κ Φ rest cb):lO X κ Φ (st::rest) (ao ca cb):=by
 intro c g h i j;refine iv.imp (oO (k c g h i j) (iv.ex λp:aS×aI=>l c g h p.1 p.2)) ?_
 rintro E s H ⟨m,Z,S,f⟩;refine⟨m,Z,S,?_⟩;simp only[ao]at f;cases q:ca i j with
 |nx b a=>rw[q]at f;exact λn t e o r=>⟨(b,a),e,o,r,f⟩
 |bk b a=>rw[q]at f;exact f
 |ct b a=>rw[q]at f;exact f
 |rt d a=>rw[q]at f;exact f
 |exc x a=>rw[q]at f;exact f
 |bad=>rw[q]at f;exact f.elim
theorem Bg(h:bc X κ Φ e m):jV X κ Φ (.Return (some e) pos) (cu m):=by
 intro a i j k l;refine PS.imp (qN (h a i j k l)) ?_;rintro E t H ⟨n,Z,S,f⟩;exact⟨n,Z,S,dQ.use S f λd o v p b q _ g c r s=>s v p b q c.gr c.st r⟩
theorem tD{i:Nat}{x:Str}(c:X.N.Nodup)(j:X.N[i]?=some x)(k:Loc X.env.scope x)(l:X.fn x=true\/X.env.scope.names.lookup x=some .local)(n:swapsWith e (some (.Name x pos')) pos.line X.env=pure false)(h:bc X κ Φ e m) :
  jV X κ Φ (.Assign [.Name x pos'] e pos) (aU i m):=by
 intro a o p q s;refine PS.imp (Dx c j k (h a o p q s) n l) ?_;rintro E B H ⟨t,Z,S,f⟩;exact⟨t,Z,S,dQ.use S f λd u v w b y _ g z r A=>A _ w b y (z.set r i)⟩
theorem xJ{i:Nat}{x:Str}{elt iter l:Expr}{ifs:List Expr}{scope:Scope}{tn cn:List Str}{cap:List Nat}{g:TG}(t:X.N.Nodup)(u:X.N[i]?=some x)(w:X.env.scope.names.lookup x=some .local)
  (n:swapsWith (.ListComp elt [⟨l,iter,ifs,0⟩] scope pos) (some (.Name x pos')) pos'.line X.env=pure true) (y:X.calm=true) (B:hY X scope tn cn cap) (z:∀x,foldedSetIterable iter X.env x=pure x)
  (o:∀v c H Q,g v c H Q->g v c H λk A=>Q k A/\k.length=c.length/\∀j,tn.length<=j->k[j]?=c[j]?)
  (h:∀ck Z0 H0 ρ Ω,∃p q te,PI X l iter p/\(∀cl C a b fp,PG (blk X scope cl C (tn++cn) a b fp) l g/\Aa (blk X scope cl C (tn++cn) a b fp) ifs q/\PE (blk X scope cl C (tn++cn) a b fp) elt te) /\
   ∀c H Q,tO κ Φ ck Z0 H0 m ρ Ω c H Q->mq p tn.length cap g q te c H Q) {e:Pos} (D:e.line=pos'.line) :
  jV X κ Φ (.Assign [.Name x pos'] (.ListComp elt [⟨l,iter,ifs,0⟩] scope pos) e) (aU i m):=by
 intro ck Z0 H0 ρ Ω;obtain⟨p,q,te,F,G,I⟩:=h ck Z0 H0 ρ Ω;refine PS.imp (rm t u w (by rw[D];exact n) y B F z o G) ?_
 rintro E c H ⟨J,Z,S,f⟩;exact I c H _ ⟨J,Z,S,dQ.use S f λd K v L s M _ g O r P=>P _ L s M (O.set r i)⟩
theorem Bh(c:swapsWith e none pos.line X.env=pure false)(h:bc X κ Φ e m):jV X κ Φ (.Expr e pos) (gF m):=by
 intro a i j k l;refine PS.imp (zF (h a i j k l) c) ?_;rintro E u H ⟨n,Z,S,f⟩;exact⟨n,Z,S,dQ.use S f λd o v p b q _ g s r t=>t _ p b q s⟩
theorem xM(n:nN X κ Φ e m)(o:lO X κ Φ ta ca)(p:lO X κ Φ tb cb):jV X κ Φ (.If e ta tb pos) (eJ m ca cb):=by
 intro b h i j q;refine PS.imp (wb (n b h i j q) (iv.ex λa=>o b h i j a) (iv.ex λa=>p b h i j a)) ?_
 rintro E s H ⟨r,Z,S,f⟩;refine⟨r,Z,S,dQ.Hh S f λt a u c k _ g l d=>?_⟩
 cases t with
 |true=>rw[if_pos rfl]at d;exact rb ⟨a,c,k,l,d⟩
 |false=>rw[if_neg Bool.false_ne_true]at d;exact ra ⟨a,c,k,l,d⟩
theorem mK:jV X κ Φ st cy:=λa b c d e pins s g H E I ⟨h,Z,S,f⟩=>f.elim
theorem vA(L:PassesOwn (model X.prog X.w) X.A X.env X.xe)(M:nN X κ Φ e m)(N:lO X κ Φ tb cb):jV X κ Φ (.While e tb [] pos) (Hg m cb):=by
 intro b o r j k;refine PS.imp (we L (PT.ex λp:aS×aI=>M b o r p.1 p.2) (iv.ex λp:aS×aI=>N b o r p.1 p.2)) ?_
 rintro E I H ⟨s,Z,S,f⟩;refine⟨λf I H=>∃s Z j k,bY κ b o r s Z k j I H/\dQ κ Φ b o r E (vz m cb f j k),⟨fuel,s,Z,j,k,S,f⟩,?_⟩
 rintro f O R ⟨z,P,l,B,J,C⟩;cases f with
 |zero=>exact C.elim
 |succ f=>
  simp only[vz]at C;refine⟨(l,B),z,P,J,dQ.Hh J C λt u T D Q _ g K a=>?_⟩
  cases t with
  |false=>
   rw[if_neg Bool.false_ne_true]at a;exact ra (a _ _ _ _ K)
  |true=>
   rw[if_pos rfl]at a;refine rb ⟨λh y=>∃s Z j k,bY κ b o r s Z k j h y/\dQ κ Φ b o r E (vz m cb f j k),λh y q=>⟨f,Nat.lt_succ_self f,q⟩,(l,u),D,Q,K,?_⟩
   cases q:cb l u with
   |nx i c=>rw[q]at a;exact λh y n F G=>⟨n,F,i,c,G,a⟩
   |ct i c=>rw[q]at a;exact λh y n F G=>⟨n,F,i,c,G,a⟩
   |bk i c=>rw[q]at a;exact a
   |rt d c=>rw[q]at a;exact a
   |exc x c=>rw[q]at a;exact a
   |bad=>rw[q]at a;exact a.elim
def xO(κ:Str->Addr->Prop)(e:D->aS->Option aS)(g:TG):Prop:=
 ∀(d:D) (x:V) a h i f Z j l b m H (k:L2.St->Hp->Prop),bY κ a h i f Z j l m H->ah f Z H d x->e d l=some b->(∀c,bY κ a h i f Z j b c H->k c H)->g x m H k
theorem tE{p:D->aS->Option aS}{g:TG}(hp:PassesOwn (model X.prog X.w) X.A X.env X.xe)(hc:X.calm=true)(hi:xD X κ Φ tg e mi)(hg:PG X tg g)(a0:xO κ p g)(hb:lO X κ Φ tb cb)(hs:∀x,foldedSetIterable e X.env x=pure x):jV X κ Φ (.For tg e tb [] pos) (hI p mi cb):=by
 intro j C F B M;have b0:iv X tb (λD Q H=>∃a n t c h,Et κ Φ a n t cb c h D Q H):=λpins s Q H D I ⟨a,n,t,c,h,q⟩=>hb a n t c h pins s Q H D I q
 refine PS.imp (DA hp hc (hi j C F B M) hg b0 hs) ?_;rintro E Q H ⟨α,Z,S,f⟩;refine⟨α,Z,S,?_⟩;simp only[hI]at f;cases qi:mi B M with
 |exc x N=>rw[qi]at f;exact λt a n g s=>f t a n (S.gr.trans g) s
 |bad=>rw[qi]at f;exact f.elim
 |ok G N=>
  rw[qi]at f;have f:dQ κ Φ j C F E (fy p G cb fuel 0 B N):=f;intro J t a n g1 s1 w1;have S1:=S.grow g1 s1;refine⟨λi f Q H=>∃k R B M,bY κ j C F k R M B Q H/\bU a n t k R H/\dQ κ Φ j C F E (fy p G cb f i B M),⟨fuel,a,n,B,N,S1,bU.refl s1.has,f⟩,?_⟩
  rintro i f T H2 ⟨k,R,U,u,S2,g2,b⟩;cases f with
  |zero=>exact b.elim
  |succ f=>
   simp only[fy]at b;cases qs:hG G u with
   |none=>rw[qs]at b;exact b.elim
   |some ds=>
    rw[qs]at b;dsimp only at b;obtain⟨c0,e0⟩:=w1 k R u H2 ds g2 S2.st qs;cases Y:ds[i]? with
    |none=>
     rw[Y]at b;exact .inl ⟨e0 i (List.getElem?_eq_none_iff.mp Y),b T H2 k R S2⟩
    |some d=>
     rw[Y]at b;dsimp only at b;obtain⟨f0,g0⟩:=c0 i d Y;cases qp:p d U with
     |none=>rw[qp]at b;exact b.elim
     |some K=>
      rw[qp]at b;dsimp only at b;refine .inr ⟨f0,λl o=>∃z O B M,bY κ j C F z O M B l o/\bU a n t z O o/\dQ κ Φ j C F E (fy p G cb f (i+1) B M),λl o q=>⟨f,Nat.lt_succ_self f,q⟩,λx H3 yl=>?_⟩
      obtain⟨O,g3,s3,rx⟩:=g0 x H3 yl;have S3:=S2.grow g3 s3;refine a0 d x j C F k O u U K T H3 _ S3 rx qp λj0 S4=>?_
      have base:bU j C F a n t:=S1.gr;have gL:bU a n t k O H3:=g2.trans g3;have S5:bY κ a n t k O u K j0 H3:=⟨S4.st,gL,S4.len,S4.val⟩;have P:∀{z Z4 V c l o},bY κ a n t z Z4 V c l o->bY κ j C F z Z4 V c l o:=λy=>⟨y.st,base.trans y.gr,y.len,y.val⟩
      refine⟨a,n,t,K,u,k,O,S5,?_⟩;cases q:cb K u with
      |nx c h=>rw[q]at b;exact λl o m L y=>⟨m,L,c,h,P y,y.gr,b⟩
      |ct c h=>rw[q]at b;exact λl o m L y=>⟨m,L,c,h,P y,y.gr,b⟩
      |bk c h=>rw[q]at b;exact λl o m L y=>b l o m L (P y)
      |rt d h=>rw[q]at b;exact λv o m L g s r=>b v o m L (base.trans g) s r
      |exc x h=>rw[q]at b;exact λo m L g s=>b o m L (base.trans g) s
      |bad=>rw[q]at b;exact b.elim
theorem xP(i:Nat):xO κ (dR i) (hU i):=λd x a c f g Z j l b m H k S r e h=>by
 cases e;exact h _ (S.set r i)
theorem kU:∀(a:List Nat) (ds:List D) (vs:List V) {ρ:aS}{b:L2.St},aG (ah α Z H) ds vs->ds.length=a.length->bY κ ck Z0 H0 α Z Ω ρ b H->∀(k:L2.St->Hp->Prop),(∀c,bY κ ck Z0 H0 α Z Ω (dH a ds ρ) c H->k c H)->dz a vs b H k
 |[],[],vs,ρ,b,r,_,S,k,h=>by rw[r.nil_inv];exact⟨rfl,h b S⟩
 |i::a,d::ds,vs,ρ,b,r,e,S,k,h=>by
  obtain⟨v,ws,rfl,f,g⟩:=r.cons_inv;exact⟨v,ws,rfl,kU a ds ws g (by simpa using e) (S.set f i) k h⟩
 |[],_::_,_,_,_,_,e,_,_,_=>by simp at e
 |_::_,[],_,_,_,_,e,_,_,_=>by simp at e
theorem Eu{K:PySem.W.Frag}(b:List Nat):xO κ (mJ b) (qO K b.length (dz b)):=λd x i n o p Z q s j t H k S r e h=>by
 cases d with
 |tup l=>
  simp only[mJ]at e;split at e
  .rename_i c
   cases e;obtain⟨a,f,rfl,_,m,g⟩:=el r;exact⟨a,f,rfl,sM (.inl m),by rw[g.length];exact c,kU b l f g c S k h⟩
  .cases e
 |_=>cases e
theorem Bi{es:List Expr}{j:Nat}{p pos:Pos}{c:List Nat}(x:PG X (.Tuple es j p) (qO X.K c.length (dz c)))(o:w_ e=true)(h:bc X κ Φ e m):jV X κ Φ (.Assign [.Tuple es j p] e pos) (pX c m):=by
 intro a q s t y;refine PS.imp (wd (h a q s t y) x (by cases e<;>first|rfl | (cases o)) (by cases e<;>first|rfl | (cases o))) ?_
 rintro E z H ⟨A,Z,S,f⟩;refine⟨A,Z,S,dQ.use S f λd i v u b w _ g B r k=>?_⟩
 split at k
 .rename_i l C
  exact Eu (K:=X.K) c d v a q s b w i t l z u _ B r C λn D=>k n u b w D
 .exact k.elim
theorem Ew(c:List Nat){d:D}{v:V}{ds:List D}{ck b:List Addr}{Z0 k:Addr->Prop}{H0 g:Hp}{e:aI}{ρ:aS}{h:L2.St}{Q:L2.St->Hp->Prop}(S:bY κ ck Z0 H0 b k e ρ h g)(r:ah b k g d v)(q:cN e d=some ds)(j:ds.length=c.length)(m:∀f,bY κ ck Z0 H0 b k e (dH c ds ρ) f g->Q f g):Be c.length (dz c) v h g Q:=by
 obtain⟨a,l,rfl,s,p⟩:=bS S.st r q;refine⟨a,l,rfl,s,by rw[p.length,j],?_⟩
 have n:∀{c:List Nat}{ds:List D}{l:List V}{ρ:aS}{h:L2.St},aG (ah b k g) ds l->ds.length=c.length->bY κ ck Z0 H0 b k e ρ h g->(∀f,bY κ ck Z0 H0 b k e (dH c ds ρ) f g->Q f g)->dz c l h g Q:=by
  intro c
  induction c with
  |nil=>
   intro ds l ρ h r j S m;cases ds with
   |nil=>rw[r.nil_inv];exact⟨rfl,m h S⟩
   |cons _ _=>cases j
  |cons i c t=>
   intro ds l ρ h r j S m;cases ds with
   |nil=>cases j
   |cons d ds=>
    obtain⟨v,o,rfl,u,w⟩:=r.cons_inv;exact⟨v,o,rfl,t w (by simpa using j) (S.set u i) m⟩
 exact n p j S m
theorem xQ{es:List Expr}{j:Nat}{p pos:Pos}{b:List Nat}{elt:Expr}{gens:List Comprehension}{scope:Scope}{k:Pos}(l:PG X (.Tuple es j p) (Be b.length (dz b)))(h:bc X κ Φ (.ListComp elt gens scope k) m):jV X κ Φ (.Assign [.Tuple es j p] (.ListComp elt gens scope k) pos) (pW b m):=by
 intro c n o q s;refine PS.imp (wd (h c n o q s) l rfl rfl) ?_;rintro E C H ⟨t,Z,S,f⟩;refine⟨t,Z,S,dQ.use S f λd u v w e x _ g y r a=>?_⟩
 split at a
 .rename_i D z
  split at a
  .rename_i A
   exact Ew b y r z A λi B=>a i w e x B
  .exact a.elim
 .exact a.elim
end
abbrev b_:=List D->aI->av D
def dq(κ:Str->Addr->Prop)(F:b_):Sp:=λd H Q _=>∃a Z b c,bb κ a Z b H/\aG (ah a Z H) c d/\bV κ ji a Z H (F c b) Q
noncomputable def FN{a:Type}(r:av a):av a:=match r with
 |.ok d b=>.ok d b
 |_=>.bad
def cm(F:b_):b_:=λa b=>FN (F a b)
structure xR(X:Cx)(κ:Str->Addr->Prop)(k:Nat)(x:Str)(F:b_):Prop where
 ex:∃(f:Addr) (fd:FuncData) (ps:List Str),X.mg x=some (.ref f)/\PySem.W.keepIn X.K (.ref f)=true/\Binds X.K fd ps []/\bF X.prog X.w X.K X.mg X.base ek k f fd ps (dq κ F)
noncomputable def lP(Ω:aI):D->Option (Nat×Str×List (Str×D))
 |.ref k=>match Ω[k]? with
  |some (.ins C fs)=>some (k,C,fs)
  |_=>none
 |_=>none
def kW(Cs:List Str)(f:Str)(x:D)(Ω:aI):av D:=match lP Ω x with
 |some (_,C,a)=>if Cs.contains C then (match a.lookup f with
  |some d=>.ok d Ω
  |none=>.bad)else .bad
 |none=>.bad
noncomputable def jG(f:Str)(v:D):List (Str×D)->List (Str×D)
 |[]=>[(f,v)]
 | (g,x)::r=>if g=f then (g,v)::r else (g,x)::jG f v r
def cO(C m:Str)(F:b_)(d:EM)(as:AM):EM:=λc e=>(d c e).bind λx a=>match lP a x with
 |some (_,f,g)=>if f=C/\g.lookup m=none then (as c a).bind λh b=>cm F (x::h) b else .bad
 |none=>.bad
noncomputable def ju(C:Str)(F:b_)(xs:List D)(Ω:aI):av D:=match F (.ref Ω.length::xs) (Ω++[.ins C []])with
 |.ok .non a=>.ok (.ref Ω.length) a
 |_=>.bad
def eV(Cs:List Str)(f:Str)(e g:EM):SM:=λb h=>cF (g b h) λy c=>cF (e b c) λx a=>match lP a x with
 |some (k,C,d)=>if Cs.contains C&&decide (d.length<1000)then .nx b (a.set k (.ins C (jG f y d)))else .bad
 |none=>.bad
def fA(x y v:D)(Ω:aI):Option aI:=match x with
 |.ref k=>match Ω[k]? with
  |some (.dK a)=>match u_ y with
   |some b=>if small (a.length+1)then some (Ω.set k (.dK (bE a b v)))else none
   |none=>none
  |some (.dT a)=>match kK y with
   |some b=>if small (a.length+1)then some (Ω.set k (.dT (bE a b v)))else none
   |none=>none
  |some (.lst c)=>match y with
   |.int i=>match L2.wA c.length i with
    |some n=>some (Ω.set k (.lst (c.set n v)))
    |none=>none
   |_=>none
  |_=>none
 |_=>none
def dS(f g h:EM):SM:=λa i=>cF (h a i) λv b=>cF (f a b) λx c=>cF (g a c) λy d=>match fA x y v d with
 |some e=>.nx a e
 |none=>.bad
section
variable{X:Cx}{κ:Str->Addr->Prop}{Φ:fg}{α α' ck α1:List Addr}{Z Z' Z0 Z1:Addr->Prop}{Ω aD:aI}{H H' H0 H1:Hp}{ρ:aS}{σ:L2.St}{Q:VK}{E:Ends}{a b e ce o tg:Expr}{es:List Expr}{st:Stmt}{rest ta tb:List Stmt}{m mo mv ma md mk:EM}{as:AM}{ca cb:SM}{pos pos' p apos:Pos}{F:b_}{C:Str}
theorem bV.ok0{r:av D}(h:bV κ Φ α Z H (FN r) Q):bV κ ji α Z H r Q:=by
 cases r with
 |ok d a=>exact h
 |exc x a=>exact h.elim
 |bad=>exact h
theorem xS{k:Nat}{x:Str}(F0:xR X κ k x F)(i:br k X.A)(j:Gl X x)(a:(x==("__debug__":Str))=false)
  (l:starEach (e::es) X.env=(false,eval e X.env)::starEach es X.env) (b:(backTo pos (starEach es X.env)).any (·.1)=false) (m:nP X κ Φ (e::es) as) :
  bc X κ Φ (.Call (.Name x p) (e::es) [] pos) (mN (cm F) as):=by
 obtain⟨f,I,J,n,o,q,F1⟩:=F0.ex;intro c r s t u;refine PE.imp (nq F1 i j n o q .nil iG (m c r s t u) a l b) ?_;rintro K H Q ⟨w,Z,S,g⟩;refine⟨w,Z,S,nO.use g λy d _ z B h C L D E G=>?_⟩
 show dq κ F (z++[]) B Q E0
 rw[List.append_nil];exact⟨h,C,d,y,D,E,bV.ok0 G⟩
theorem vB{k:Nat}{x:Str}(F0:xR X κ k x F)(b:br k X.A)(c:Gl X x)(a:(x==("__debug__":Str))=false):bc X κ Φ (.Call (.Name x p) [] [] pos) (mN (cm F) aq):=by
 obtain⟨f,m,n,d,e,h,F1⟩:=F0.ex;intro i o q r j;refine PE.imp (wt F1 b c d e h .nil iG a) ?_;rintro s H Q ⟨l,Z,S,g⟩;exact⟨l,Z,j,[],S.st,.nil,bV.ok0 g⟩
theorem eK{R:D->V->Prop}{f:Str}:∀{fs:List (Str×D)}{a:List (Str×V)},gP R fs a->(∀d,fs.lookup f=some d->∃v,a.lookup f=some v/\R d v)/\(fs.lookup f=none->a.lookup f=none):=by
 intro fs a h;unfold gP at h
 induction h with
 |nil=>exact⟨λd e=>(by cases e),λ_=>rfl⟩
 |@cons p q i j r t b=>
  obtain⟨c,g⟩:=r;obtain⟨k,d⟩:=p;obtain⟨l,v⟩:=q;cases c;rw[List.lookup_cons,List.lookup_cons];cases f==k with
  |true=>exact⟨λm e=>by cases e;exact⟨v,rfl,g⟩,λe=>by cases e⟩
  |false=>exact b
theorem xT{R:D->V->Prop}{f:Str}{d:D}{v:V}(r:R d v){fs:List (Str×D)}{a:List (Str×V)}(h:gP R fs a):gP R (jG f d fs) (fM f v a):=by
 unfold gP at h
 induction h with
 |nil=>exact .cons ⟨rfl,r⟩ .nil
 |@cons p q i j b t c=>
  obtain⟨b,g⟩:=b;obtain⟨k,d⟩:=p;obtain⟨l,m⟩:=q;cases b;simp only[jG,fM]
  by_cases e:k=f
  .rw[if_pos e,if_pos e];exact .cons ⟨rfl,r⟩ t
  .rw[if_neg e,if_neg e];exact .cons ⟨rfl,g⟩ c
theorem fB{x:D}{v:V}{k:Nat}{C:Str}{fs:List (Str×D)}(S:bb κ α Z Ω H)(r:ah α Z H x v)(h:lP Ω x=some (k,C,fs)):∃a d e b,v=.ref a/\x=.ref k/\α[k]?=some a/\κ C d/\H a=some (.ins d e b)/\gP (ah α Z H) fs b:=by
 cases x with
 |ref n=>
  simp only[lP]at h;split at h
  .rename_i m b g
   cases h;simp only[ah]at r;obtain⟨a,f,rfl⟩:=r;obtain⟨o,c,d,e,b,i,j,l⟩:=S.cell g;rw[f]at c;cases c;exact⟨a,d,e,b,rfl,rfl,f,i,j,l⟩
  .cases h
 |_=>cases h
def ik(K:PySem.W.Frag)(κ:Str->Addr->Prop)(Cs:List Str)(f:Str):Prop:=∀C a,Cs.contains C=true->κ C a->lW K a/\cK K a f
theorem Bj{f:Str}{Cs:List Str}(i:ik X.K κ Cs f)(j:attributeBase o f X.env (eval o X.env)=eval o X.env)(l:bc X κ Φ o mo):bc X κ Φ (.Attribute o f pos) (m1 (kW Cs f) mo):=
 jU (r:=λx H Q=>∃a C b c v,x=.ref a/\H a=some (.ins C b c)/\lW X.K C/\cK X.K C f/\c.lookup f=some v/\Q v H) (λD m=>DI m j) l λb x E Z F H Q S n g=>by
  unfold kW at g;split at g
  .rename_i k C c p
   obtain⟨a,h,b,e,rfl,_,_,q,s,t⟩:=fB S n p;split at g
   .rename_i u
    obtain⟨w,y⟩:=i C h u q;split at g
    .rename_i d z
     obtain⟨v,A,B⟩:=(eK t).1 d z;exact⟨a,h,b,e,v,rfl,s,w,y,A,bV.ret S B g⟩
    .exact g.elim
   .exact g.elim
  .exact g.elim
def CO(P:Program)(w:World)(K:PySem.W.Frag)(h:Str->Option Value)(base:Heap)(κ:Str->Addr->Prop)(k:Nat)(C m:Str)(F:b_)(c f:Addr)(d:FuncData)(ps:List Str):Prop:=
 (∀a,κ C a->a=c)/\lW K c/\Meth K c m f/\∃(e:List Value) (b:List V) (g:List D) (F1:b_),Binds K d ps e/\Vals b e/\(∀i Z H,aG (ah i Z H) g b)/\bF P w K h base ek k f d ps (dq κ F1)/\F=λj=>F1 (j++g)
structure tF(X:Cx)(κ:Str->Addr->Prop)(k:Nat)(C m:Str)(F:b_):Prop where
 ex:∃(Ca f:Addr) (fd:FuncData) (ps:List Str),CO X.prog X.w X.K X.mg X.base κ k C m F Ca f fd ps
theorem xU{k:Nat}{m:Str}(M:tF X κ k C m F)(E:br k X.A)(G:bc X κ Φ o mo)(I:nP X κ Φ (e::es) as){pl:Sem Bool}
  (h:starEach (e::es) X.env=(false,eval e X.env)::starEach es X.env) (i:(backTo pos (starEach es X.env)).any (·.1)=false)
  (J:eval (.Call (.Attribute o m apos) (e::es) [] pos) X.env=(do
   let w ←eval o X.env
   standAt apos.atName
   let (f,first) ←holding [w] (getMethod w m pl)
   callWith pos f first (backTo pos (starEach (e::es) X.env)) (backToKw pos (keywordEach [] X.env)))) :
  bc X κ Φ (.Call (.Attribute o m apos) (e::es) [] pos) (cO C m F mo as):=by
 obtain⟨Ca,f,fd,ps,K,j,L,N,O,Dd,F0,P,l,R,F1,rfl⟩:=M.ex;intro c y z B T;refine PE.imp (zN (G c y z B T) j L F1 E P l iG (PA.ex λb=>I c y z B b) h i J) ?_
 rintro σ H Q ⟨U,Z,S,g⟩;refine⟨U,Z,S,bV.use g λx b _ v H1 p V Y q D d=>?_⟩
 split at d
 .rename_i n C' fs hk
  split at d
  .rename_i hc
   obtain⟨rfl,hl⟩:=hc;obtain⟨a,r,dx,s,rfl,rfl,_,q1,q2,q3⟩:=fB q D hk;obtain rfl:=K r q1;refine⟨a,dx,s,rfl,q2,(eK q3).2 hl,b,p,V,S.grow Y q,nO.use d λxs t _ vs H2 u Z2 g2 s2 r2 k2=>?_⟩
   exact⟨u,Z2,t,_,s2,.cons (q.cV g2 D) (r2.append (R _ _ _)),bV.ok0 k2⟩
  .exact d.elim
 .exact d.elim
theorem vC{k:Nat}{m:Str}(M:tF X κ k C m F)(s:br k X.A)(t:bc X κ Φ o mo){pl:Sem Bool}
  (u:eval (.Call (.Attribute o m apos) [] [] pos) X.env=(do
   let p ←eval o X.env
   standAt apos.atName
   let (f,first) ←holding [p] (getMethod p m pl)
   callWith pos f first (backTo pos (starEach [] X.env)) (backToKw pos (keywordEach [] X.env)))) :
  bc X κ Φ (.Call (.Attribute o m apos) [] [] pos) (cO C m F mo aq):=by
 obtain⟨Ca,f,fd,ps,w,c,y,z,B,Dd,F0,D,d,E,F1,rfl⟩:=M.ex;intro e G I J K;refine PE.imp (wu (t e G I J K) c y F1 s D d iG u) ?_;rintro σ H Q ⟨L,Z,S,g⟩;refine⟨L,Z,S,bV.use g λx h _ v H1 i N g1 q r b=>?_⟩
 split at b
 .rename_i n C' fs O
  split at b
  .rename_i P
   obtain⟨rfl,R⟩:=P;obtain⟨a,j,T,l,rfl,rfl,_,U,V,Y⟩:=fB q r O;obtain rfl:=w j U;exact⟨a,T,l,rfl,V,(eK Y).2 R,i,N,h,_,q,.cons r (E _ _ _),bV.ok0 b⟩
  .exact b.elim
 .exact b.elim
structure xV(X:Cx)(κ:Str->Addr->Prop)(k:Nat)(C:Str)(F:b_):Prop where
 ex:∃(Ca f:Addr) (fd:FuncData) (ps:List Str),κ C Ca/\Mk X.K Ca f/\X.mg C=some (.ref Ca)/\Binds X.K fd ps []/\bF X.prog X.w X.K X.mg X.base ek k f fd ps (dq κ F)
theorem pY{xs:List D}{vs:List V}{b x a:Addr}(S:bb κ α Z Ω H)(r:aG (ah α Z H) xs vs)(e:κ C b)(g:bV κ Φ α Z H (ju C F xs Ω) Q)(y:H x=none)(f:H a=none)(h:a≠x) :
  dq κ F (.ref x::(vs++[])) (upd (upd H a (.own x)) x (.ins b a [])) (λv z=>v=.non/\Q (.ref x) z) E0:=by
 rw[List.append_nil];obtain⟨i,m⟩:=S.xk (p:=a) (o:=.own x) f False;simp only[if_false]at i m;have j:upd H a (.own x) x=none:=by rw[ai (Ne.symm h)];exact y
 obtain⟨n,A⟩:=i.laid (p:=x) (o:=.ins b a []) (c:=.ins C []) j λR I=>⟨b,a,[],e,aF,.nil⟩
 have s:=m.trans A;have t:ah (α++[x]) Z (upd (upd H a (.own x)) x (.ins b a [])) (.ref Ω.length) (.ref x):=gz i x;refine⟨α++[x],Z,Ω++[.ins C []],.ref Ω.length::xs,n,.cons t (S.jE s r),?_⟩;unfold ju at g;cases q:F (.ref Ω.length::xs) (Ω++[.ins C []])with
 |ok d k=>
  rw[q]at g;cases d with
  |non=>
   intro v B l E u G w;simp only[ah]at w;exact⟨w,g _ B l E (s.trans u) G (n.cV u t)⟩
  |_=>exact g.elim
 |exc x k=>rw[q]at g;exact g.elim
 |bad=>rw[q]at g;exact g.elim
theorem Bk{k:Nat}(M:xV X κ k C F)(j:br (k+1) X.A)(l:Gl X C)(a:(C==("__debug__":Str))=false)
  (m:starEach (e::es) X.env=(false,eval e X.env)::starEach es X.env) (b:(backTo pos (starEach es X.env)).any (·.1)=false) (n:nP X κ Φ (e::es) as):bc X κ Φ (.Call (.Name C p) (e::es) [] pos) (mN (ju C F) as):=by
 obtain⟨J,f,K,L,c,o,q,r,F1⟩:=M.ex;intro d s t u w;refine PE.imp (zO o F1 j l q r .nil iG (n d s t u w) a m b) ?_;rintro N H Q ⟨y,Z,S,g⟩;exact⟨y,Z,S,nO.use g λO z _ P R B T U D E G x V I h i=>pY D E c G I h i⟩
theorem xW{k:Nat}(M:xV X κ k C F)(e:br (k+1) X.A)(h:Gl X C)(a:(C==("__debug__":Str))=false):bc X κ Φ (.Call (.Name C p) [] [] pos) (mN (ju C F) aq):=by
 obtain⟨o,f,q,r,b,i,j,l,F1⟩:=M.ex;intro m s t u w;refine PE.imp (wx i F1 e h j l .nil iG a) ?_;rintro y H Q ⟨z,Z,S,g⟩;exact λx B n c d=>pY S.st .nil b g n c d
theorem tG{f:Str}{Cs:List Str}(F:ik X.K κ Cs f)(G:swapsWith e (some (.Attribute o f pos')) pos.line X.env=pure false)(I:bc X κ Φ o mo)(J:bc X κ Φ e mv):jV X κ Φ (.Assign [.Attribute o f pos'] e pos) (eV Cs f mo mv):=by
 intro d r s t L;refine PS.imp (DJ (PE.ex λb=>I d r s t b) (J d r s t L) G) ?_
 rintro E M H ⟨N,Z,S,f⟩;refine⟨N,Z,S,dQ.use S f λy b v H1 j O _ g1 l P Q=>⟨b,j,O,l,dQ.use l Q λx T w H2 m U _ V n Y g=>?_⟩⟩
 split at g
 .rename_i k C fs hk
  obtain⟨a,i,p,h,rfl,rfl,h0,A,B,D⟩:=fB n.st Y hk;split at g
  .rename_i q
   simp only[Bool.and_eq_true,decide_eq_true_eq]at q;obtain⟨c1,c2⟩:=F C i q.1 A;have ry:=l.st.cV V P;obtain⟨s3,g3⟩:=n.st.put (o:=.ins i p (fM _ v h)) (c:=.ins C (jG _ y fs)) h0 (λo u z=>by rw[B]at z;cases z) λR hR=>⟨i,p,_,A,aF,(xT ry D).imp hR⟩
   exact⟨a,i,p,h,rfl,B,c1,c2,by rw[gP.length D];exact q.2,g M _ m U (n.grow g3 s3)⟩
  .exact g.elim
 .exact g.elim
def CP(H:Hp)(a:Addr)(y v:V)(c:Hp):Prop:=oX H a y v c\/∃b k j,y=.int k/\H a=some (.lst b)/\wA b.length k=some j/\c=upd H a (.lst (b.set j v))
noncomputable def Ey(td d e:TE):TS:=λD b H=>e b H λv f=>td b f λx g=>d b g λy h=>∃a c,x=.ref a/\CP h a y v c/\D.nx b c
theorem xX{i b:Expr}{td d e:TE}(p:X.A.units+1<cLine)(q:PE X o td)(t:PE X i d)(w:PE X b e)(z:swapsWith b (some (.Subscript o i pos')) pos.line X.env=pure false) :
  PS X (.Assign [.Subscript o i pos'] b pos) (Ey td d e):=by
 intro pins s c H D I h;refine wpAny_Assign_Subscript (bM (w pins s c H _ I h) λr B ⟨v,H1,I1,f,q1⟩=>bM (q pins B c H1 _ I1 q1) λu C ⟨x,H2,I2,l,q2⟩=>bM (t pins C c H2 _ I2 q2) λO E ⟨y,H3,m,n,a,H4,ex,g,q3⟩=>?_) z
 subst ex;rcases g with g|⟨F,k,j,rfl,G,J,rfl⟩
 .obtain rfl:u=Value.ref a:=l
  exact uO p m g n f λK L=>⟨c,H4,L,q3⟩
 .exact bM (set_list pins E c H3 _ _ _ _ _ _ (λM=>D.nx c M) m l n f ⟨a,F,k,j,rfl,rfl,G,J,q3⟩) λ_ K ⟨N,I5,q5⟩=>⟨c,N,I5,q5⟩
theorem aG.Hi{c d:Type}{R:c->d->Prop}{a:c}{b:d}:∀{as:List c}{bs:List d}{n:Nat},aG R as bs->R a b->aG R (as.set n a) (bs.set n b)
 |_,_,_,.nil,_=>.nil
 |_::_,_::_,0,.cons _ t,r=>.cons r t
 |_::_,_::_,n+1,.cons q t,r=>.cons q (aG.Hi t r)
theorem xY{x y d:D}{v w u:V}(S:bb κ α Z Ω H)(I:ah α Z H x v)(C:ah α Z H y w)(E:ah α Z H d u)(h:fA x y d Ω=some aD):∃a F,v=.ref a/\CP H a w u F/\bb κ α Z aD F/\bU α Z H α Z F:=by
 cases x with
 |ref k=>
  simp only[fA]at h;simp only[ah]at I;obtain⟨a,q,rfl⟩:=I;split at h
  .rename_i l r
   obtain⟨J,e,f,g,j⟩:=S.cell r;rw[q]at e;cases e
   split at h
   .rename_i m p
    obtain rfl:=iR p C;split at h
    .rename_i G
     cases h;have:=bz G;obtain⟨s,A⟩:=S.put (o:=.dK (putK f m u)) (c:=.dK (bE l m d)) q (λo u z=>by rw[g]at z;cases z) λR B=>⟨_,aF,(j.put m E).imp B⟩
     exact⟨a,_,rfl,.inl (oX.k g (by rw[j.length];omega)),s,A⟩
    .cases h
   .cases h
  .rename_i l r
   obtain⟨J,e,f,g,j⟩:=S.cell r;rw[q]at e;cases e
   split at h
   .rename_i m p
    obtain⟨b,rfl,L⟩:=gS p C;split at h
    .rename_i G
     cases h;have:=bz G;obtain⟨s,A⟩:=S.put (o:=.dT (putK f m u)) (c:=.dT (bE l m d)) q (λo u z=>by rw[g]at z;cases z) λR B=>⟨_,aF,(j.put m E).imp B⟩
     exact⟨a,_,rfl,.inl (oX.t g L (by rw[j.length];omega)),s,A⟩
    .cases h
   .cases h
  .rename_i M r
   obtain⟨J,e,K,g,j⟩:=S.cell r;rw[q]at e;cases e
   split at h
   .rename_i i
    split at h
    .rename_i n N
     cases h;cases (show w=V.int i from C)
     obtain⟨s,A⟩:=S.put (o:=.lst (K.set n u)) (c:=.lst (M.set n d)) q (λo u z=>by rw[g]at z;cases z) λR B=>⟨_,aF,(aG.Hi j E).imp B⟩
     exact⟨a,_,rfl,.inr ⟨K,i,n,rfl,g,by rw[j.length];exact N,rfl⟩,s,A⟩
    .cases h
   .cases h
  .cases h
 |_=>cases h
theorem xZ{i:Expr}(B:X.A.units+1<cLine)(C:bc X κ Φ o md)(D:bc X κ Φ i mk)(F:bc X κ Φ e mv)(G:swapsWith e (some (.Subscript o i pos')) pos.line X.env=pure false):jV X κ Φ (.Assign [.Subscript o i pos'] e pos) (dS md mk mv):=by
 intro c h j k I;refine PS.imp (xX B (PE.ex λb=>C c h j k b) (PE.ex λb=>D c h j k b) (F c h j k I) G) ?_
 rintro E J H ⟨K,Z,S,f⟩;refine⟨K,Z,S,dQ.use S f λd b v H1 l L _ g1 m M N=>⟨b,l,L,m,dQ.use m N λx n w H2 p O _ P g Q R=>⟨n,p,O,g,dQ.use g R λy T u H3 q U _ s t V r=>?_⟩⟩⟩
 split at r
 .rename_i Y hq
  obtain⟨a,z,rfl,h1,s4,g4⟩:=xY t.st (g.st.cV s Q) V (g.st.cV s (m.st.cV P M)) hq;exact⟨a,z,rfl,h1,r J z q U (t.grow g4 s4)⟩
 .exact r.elim
theorem mL:bc X κ Φ (.Dict [] [] pos) (λ_ Ω=>iM Ω (.dT [])):=by
 intro a f h i Ω;refine PE.imp wH ?_;rintro j H Q ⟨k,Z,S,g⟩ p b;obtain⟨d,e⟩:=S.st.laid (p:=p) (o:=.dT []) (c:=.dT []) b λR l=>⟨[],aF,.nil⟩
 exact g _ _ _ Z e d (gz S.st p)
noncomputable def aP(n:Nat)(ds:List D):aS:=ds.map some++List.replicate (n - ds.length) none
noncomputable def cG:fS->av D
 |.rt d Ω=>.ok d Ω
 |.nx _ Ω=>.ok .non Ω
 |.exc x Ω=>.exc x Ω
 |_=>.bad
def bh(n k:Nat)(c:SM):b_:=λa b=>if a.length=k then cG (c (aP n a) b)else .bad
theorem eL{ds:List D}{vs:List V}{N:List Str}(S:bb κ α Z Ω H)(r:aG (ah α Z H) ds vs):bY κ α Z H α Z Ω (aP N.length ds) (L2.start N vs) H where
 st:=S
 gr:=bU.refl S.has
 len:=by simp[aP,L2.start,r.length]
 val:=λi d a=>by
  unfold aP at a
  by_cases h:i<ds.length
  .rw[List.getElem?_append_left (by simpa using h),List.getElem?_map]at a
   obtain⟨g,b,c⟩:=Option.map_eq_some_iff.mp a;cases c;obtain⟨v,e,f⟩:=r.get b;refine⟨v,?_,f⟩;unfold L2.start;rw[List.getElem?_append_left (by simpa[r.length]using h),List.getElem?_map,e]
   rfl
  .rw[List.getElem?_append_right (by simpa using h),List.getElem?_replicate]at a
   split at a<;>cases a
end
structure jH(P:Program)(w:World)(K:PySem.W.Frag)(mg:Str->Option Value)(base:Heap)(κ:Str->Addr->Prop)(k:Nat)(j:Nat)(F:List D->b_):Prop where
 run:∀(X:Cx) (f:Addr) (vs:List V) (σ:L2.St) (H:Hp) (Q:VK) (α:List Addr) (Z:Addr->Prop) (Ω:aI) (dh ds:List D) (n:Nat),X.prog=P->X.w=w->X.K=K->X.mg=mg->X.base=base->br k X.A ->
  bb κ α Z Ω H->α[n]?=some f->Ω[n]?=some (.fn j dh)->aG (ah α Z H) ds vs->bV κ ji α Z H (F dh ds Ω) Q->xc X f vs σ H Q
theorem jH.mono{P:Program}{w:World}{K:PySem.W.Frag}{a:Str->Option Value}{base:Heap}{κ:Str->Addr->Prop}{k k' j:Nat}{F:List D->b_}(h:jH P w K a base κ k j F)(b:k<=k'):jH P w K a base κ k' j F:=
 ⟨λX f c d H Q e Z g dh i n l m o p q r=>h.run X f c d H Q e Z g dh i n l m o p q (r.mono b)⟩
def LM(M:List (List D->b_))(n:Nat)(xs:List D)(Ω:aI):av D:=match Ω[n]? with
 |some (.fn j dh)=>match M[j]? with
  |some F=>cm (F dh) xs Ω
  |none=>.bad
 |_=>.bad
noncomputable def isFn(Ω:aI)(n:Nat):Bool:=match Ω[n]? with
 |some (.fn _ _)=>true
 |_=>false
section
variable{X:Cx}{κ:Str->Addr->Prop}{Φ:fg}{α α' ck:List Addr}{Z Z' Z0:Addr->Prop}{Ω aD:aI}{H H' H0:Hp}{ρ:aS}{σ:L2.St}
theorem bb.CQ(S:bb κ α Z Ω H){n:Nat}{f:Addr}{j:Nat}{dh:List D}(c:α[n]?=some f)(h:Ω[n]?=some (.fn j dh)):s_ H f:=by
 obtain⟨a,b,i,k,l,⟨⟨d,m,e,u,g⟩,_⟩,_⟩:=S.cell h;rw[c]at b;cases b
 exact⟨_,_,_,_,u,g⟩
end
end Mir
namespace L2
open PySem PySem.Spec PyProof.Rows PySem.W
section
variable{X:Cx}{pins:List (Addr×Obj)}{σ:St}{H:Hp}{s:Shared}{A:Around}{E:Value->Shared->Prop}{a C dx:Addr}{fs:List (Str×V)}
theorem x_{m:Str}{v:V}{pl:Sem Bool}{Q:Value×List Value->Shared->Prop}(I:Inv X pins σ H s)(e:H a=some (.ins C dx fs))(c:lW X.K C)(n:cK X.K C m)(l:fs.lookup m=some v)
  (h:∀u b,Inv X pins σ H b->RelV v u->Q (u,[]) b):wpAny (model X.prog X.w) A (getMethod (.ref a) m pl) Q E s:=by
 obtain⟨g,O,r,_,_,_⟩:=iy I.hok e;obtain⟨i,J,j⟩:=O.look;exact PySem.W.method_usual (r:=none) I.eg J (PySem.W.plainGet_of (c.get m)).1 (PySem.W.plainGet_of (c.get m)).2 n rfl (ki I e c n l λu b d f=>h u b d f)
noncomputable def Ez(X:Cx)(m:Str)(te:TE)(t:TA):TE:=λb H Q=>te b H λx c=>∃a C g d f,x=.ref a/\c a=some (.ins C g d)/\lW X.K C/\cK X.K C m/\d.lookup m=some (.ref f)/\s_ c f/\t b c λh e=>s_ e f/\xc X f h b e Q
theorem ya{o e:Expr}{es:List Expr}{m:Str}{apos pos:Pos}{te:TE}{t:TA}{pl:Sem Bool}(k:PE X o te)(p:PA X (e::es) t)(b:starEach (e::es) X.env=(false,eval e X.env)::starEach es X.env)(d:(backTo pos (starEach es X.env)).any (·.1)=false)
  (r:eval (.Call (.Attribute o m apos) (e::es) [] pos) X.env=(do
   let g ←eval o X.env
   standAt apos.atName
   let (f,first) ←holding [g] (getMethod g m pl)
   callWith pos f first (backTo pos (starEach (e::es) X.env)) (backToKw pos (keywordEach [] X.env)))):PE X (.Call (.Attribute o m apos) (e::es) [] pos) (Ez X m te t):=by
 intro pins s i H Q I h;refine PySem.W.methodCall_KW (pl:=pl) (bM (k pins s i H _ I h) λu B ⟨x,H1,I1,rx,a,C,dx,fs,f,ex,ea,c,n,l,hf,q⟩=>?_) r
 subst ex;obtain rfl:u=Value.ref a:=rx;refine x_ I1 ea c n l λu w j y=>?_
 obtain rfl:u=Value.ref f:=y;exact callWith_F (j.fnAt hf) (bM (p pos pins w i H1 _ j q) λz A ⟨D,H2,I2,r2,q1,q2⟩=>⟨I2.fnAt q1,q2 pins A z I2 r2⟩) b d
end
end L2
namespace Mir
open PySem PySem.Spec PyProof.Rows L2
variable [aw]
def jv(M:List (List D->b_))(Cs:List Str)(f:Str)(d:EM)(as:AM):EM:=λc e=>(d c e).bind λx a=>match lP a x with
 |some (_,C,g)=>if Cs.contains C=true then (match g.lookup f with
  |some (.ref n)=>if isFn a n=true then (as c a).bind λh b=>LM M n h b else .bad
  |_=>.bad)else .bad
 |none=>.bad
section
variable{X:Cx}{κ:Str->Addr->Prop}{Φ:fg}{k:Nat}{M:List (List D->b_)}{Cs:List Str}{f:Str}{o e:Expr}{es:List Expr}{mo:EM}{as:AM}{apos pos:Pos}
theorem vD(U:ik X.K κ Cs f)(p:∀j F,M[j]?=some F->jH X.prog X.w X.K X.mg X.base κ k j F)(V:br k X.A)(Y:bc X κ Φ o mo)(ha:nP X κ Φ (e::es) as){pl:Sem Bool}
  (u:starEach (e::es) X.env=(false,eval e X.env)::starEach es X.env) (y:(backTo pos (starEach es X.env)).any (·.1)=false)
  (ht:eval (.Call (.Attribute o f apos) (e::es) [] pos) X.env=(do
   let I ←eval o X.env
   standAt apos.atName
   let (g,first) ←holding [I] (getMethod I f pl)
   callWith pos g first (backTo pos (starEach (e::es) X.env)) (backToKw pos (keywordEach [] X.env)))) :
  bc X κ Φ (.Call (.Attribute o f apos) (e::es) [] pos) (jv M Cs f mo as):=by
 intro r J L N Ω;refine PE.imp (ya (Y r J L N Ω) (PA.ex λb=>ha r J L N b) u y ht) ?_
 rintro σ H Q ⟨α,Z,S,g⟩;unfold jv at g;refine⟨α,Z,S,bV.use g λx b _ v H1 z Z1 g1 B r1 c=>?_⟩
 split at c
 .rename_i q C fs hk
  split at c
  .rename_i hc
   obtain⟨a,O,dx,D,rfl,_,_,h1,h2,h3⟩:=fB B r1 hk;obtain⟨c1,c2⟩:=U C O hc h1;split at c
   .rename_i n hn
    obtain⟨v,hv,P⟩:=(eK h3).1 _ hn;simp only[ah]at P;obtain⟨t,d,rfl⟩:=P;split at c
    .rename_i h
     have i:∃j dh,b[n]?=some (.fn j dh):=by
      unfold isFn at h;split at h
      .rename_i j dh q;exact⟨j,dh,q⟩
      .cases h
     obtain⟨j,dh,hj⟩:=i;refine⟨a,O,dx,D,t,rfl,h2,c1,c2,hv,B.CQ d hj,b,z,Z1,S.grow g1 B,nO.use c λxs E _ vs H2 G Z2 R T r2 m=>?_⟩
     unfold LM at m;split at m
     .rename_i j1 l s
      split at m
      .rename_i F hF
       exact⟨T.CQ (R.pre n t d) s,(p j1 F hF).run X t vs σ H2 Q G Z2 E l xs n rfl rfl rfl rfl rfl V T (R.pre n t d) s r2 (bV.ok0 m)⟩
      .exact m.elim
     .exact m.elim
    .exact c.elim
   .exact c.elim
  .exact c.elim
 .exact c.elim
end
def Hj:V->List V->Hp->VK->Prop:=λx b H Q=>∃a y o,x=.ref a/\b=[y]/\jl H a y o/\Q (o.getD .non) H
theorem EA{X:Cx}(i:X.A.units+64<cLine):DO X "dict.get" Hj:=by
 intro pins s j H x k v l Q I b c h;obtain⟨a,y,o,rfl,rfl,g,q⟩:=h;cases b;obtain⟨u,rfl,d⟩:=c.one;exact DV (by omega) I g d λm n e f=>⟨_,_,e,f,q⟩
noncomputable def kX(Ω:aI)(x:D):Bool:=match x with
 |.ref k=>match Ω[k]? with
  |some (.dK _)=>true
  |some (.dT _)=>true
  |_=>false
 |_=>false
def nW(x:D)(xs:List D)(Ω:aI):av D:=match xs with
 |[y]=>match nQ Ω x y with
  |some o=>.ok (o.getD .non) Ω
  |none=>.bad
 |_=>.bad
section
variable{κ:Str->Addr->Prop}{Φ:fg}{α:List Addr}{Z:Addr->Prop}{Ω:aI}{H:Hp}{Q:VK}
theorem tH{x:D}{v:V}{K:PySem.W.Frag}(S:bb κ α Z Ω H)(r:ah α Z H x v)(h:kX Ω x=true):CC K "dict" v H:=by
 unfold kX at h;split at h
 .rename_i k
  simp only[ah]at r;obtain⟨a,g,rfl⟩:=r;split at h
  .rename_i d e
   obtain⟨i,b,c,f,j⟩:=S.cell e;rw[g]at b;cases b
   exact .inr (.inr (.inl ⟨rfl,.inl ⟨_,f⟩⟩))
  .rename_i d e
   obtain⟨i,b,c,f,j⟩:=S.cell e;rw[g]at b;cases b
   exact .inr (.inr (.inl ⟨rfl,.inr ⟨_,f⟩⟩))
  .cases h
 .cases h
theorem EC{x:D}{v:V}{xs:List D}{vs:List V}(S:bb κ α Z Ω H)(r:ah α Z H x v)(b:aG (ah α Z H) xs vs)(g:bV κ Φ α Z H (nW x xs Ω) Q):Hj v vs H Q:=by
 unfold nW at g;split at g
 .rename_i y
  obtain⟨w,rfl,c⟩:=iT b;split at g
  .rename_i o e
   obtain⟨a,f,rfl,h,i,j⟩:=pF S r c e;refine⟨a,w,f,rfl,rfl,h,bV.ret S ?_ g⟩;cases o with
   |some d=>obtain⟨u,rfl,k⟩:=i d rfl;exact k
   |none=>rw[j rfl];exact aW rfl
  .exact g.elim
 .exact g.elim
end
def Hk:V->List V->Hp->VK->Prop:=λx d H Q=>∃a c k b z,x=.ref a/\d=[.ref b,z]/\H a=some (.dT c)/\H b=some (.tup (k.map kV))/\(fj c k=none->Q z H)/\∀v,fj c k=some v->Q v (upd H a (.dT (kl c k)))
theorem Bl{X:Cx}(y:X.A.units+64<cLine):DO X "dict.pop" Hk:=by
 intro pins s B H x C v g Q I i c h;obtain⟨a,j,k,b,z,rfl,rfl,l,m,n,o⟩:=h;cases i;cases c with
 |@cons _ u _ g p c=>
  cases (show u=Value.ref b from p)
  cases c with
  |@cons _ D _ g d c=>
   cases c;exact Ek (by omega) I l m (λq r e=>⟨z,H,e,d,n q⟩) λw t u r f e=>⟨w,_,e,f,o w t⟩
def vE(x:D)(xs:List D)(Ω:aI):av D:=match x,xs with
 |.ref k,[y,z]=>match Ω[k]?,kK y with
  |some (.dT a),some b=>match aT a b with
   |some d=>.ok d (Ω.set k (.dT (dn a b)))
   |none=>.ok z Ω
  |_,_=>.bad
 |_,_=>.bad
section
variable{κ:Str->Addr->Prop}{Φ:fg}{α:List Addr}{Z:Addr->Prop}{Ω:aI}{H:Hp}{Q:VK}
theorem ED{x:D}{v:V}{xs:List D}{vs:List V}(S:bb κ α Z Ω H)(r:ah α Z H x v)(C:aG (ah α Z H) xs vs)(g:bV κ Φ α Z H (vE x xs Ω) Q):Hk v vs H Q:=by
 unfold vE at g;split at g
 .rename_i k y z
  simp only[ah]at r;obtain⟨a,p,rfl⟩:=r;obtain⟨w,E,rfl,F,G⟩:=nV C;split at g
  .rename_i l f I J
   obtain⟨b,rfl,K⟩:=gS J F;obtain⟨N,h,e,s,j⟩:=S.cell I;rw[p]at h;cases h
   refine⟨a,e,f,b,E,rfl,rfl,s,K,λm=>?_,λv t=>?_⟩
   .split at g
    .rename_i d n
     obtain⟨u,i,A⟩:=(j.val f).1 d n;rw[m]at i;cases i
    .exact bV.ret S G g
   .split at g
    .rename_i d n
     obtain⟨u,i,A⟩:=(j.val f).1 d n;rw[t]at i;cases i
     obtain⟨L,B⟩:=S.put (c:=.dT (dn l f)) (o:=.dT (kl e f)) p (λo u q=>by rw[s]at q;cases q) λR M=>⟨_,aF,(j.drop f).imp M⟩
     exact g v _ _ _ B L (S.cV B A)
    .rename_i m
     have:=(j.val f).2 m;rw[t]at this;cases this
  .exact g.elim
 .exact g.elim
end
noncomputable def af(i:Nat):EM:=λa b=>match a[i]? with|some (some d)=>.ok d b|_=>.bad
noncomputable def ag(d:D):EM:=λ_ a=>.ok d a
def d_:EM:=λ_ a=>iM a (.dT [])
noncomputable def o2{c d e:Type}(x:Option c)(y:Option d)(k:c->d->e):Option e:=match x,y with
 |some a,some b=>some (k a b)
 |_,_=>none
theorem bt{c d e:Type}{x:Option c}{y:Option d}{k:c->d->e}{z:e}(h:o2 x y k=some z):∃a b,x=some a/\y=some b/\z=k a b:=by
 unfold o2 at h;split at h
 .cases h;exact⟨_,_,rfl,rfl,rfl⟩
 .cases h
theorem cz{b c:Type}{x:Option b}{k:b->c}{z:c}(h:x.map k=some z):∃a,x=some a/\z=k a:=by
 cases x with
 |none=>cases h
 |some a=>cases h;exact⟨a,rfl,rfl⟩
structure aK where
 gh:List (Str×(List D->Out Rs)):=[]
 fn:List (Str×b_):=[]
 cst:List (Str×D):=[]
 met:List (Str×Str×b_):=[]
 cls:List (Str×b_):=[]
 fld:List (Str×List Str):=[]
 clo:List (List D->b_):=[]
 fz:List Str:=[]
 xt:Bool:=false
def nX(T:aK)(a:Scope)(N:List Str)(x:Str):Option EM:=
 match mu a N x with
 |some i=>some (af i)
 |none=>if Ah a x&&okN x then (T.cst.lookup x).map ag else none
def kY:Const->Option EM
 |.none=>some (ag .non)
 |.bool b=>some (ag (.bl b))
 |.int i=>some (ag (.int i))
 |.str x=>some (ag (.str x))
 |_=>none
def cP(f:Expr->Option EM):List Expr->Option AM
 |[]=>some aq
 |e::es=>o2 (f e) (cP f es) aa
def QN(op:BoolOp)(a b:EM):EM:=match op with
 |.And=>fQ a b
 |.Or=>vd a b
def iV(f:Expr->Option EM)(op:BoolOp):List Expr->Option EM
 |[]=>none
 |[a]=>f a
 |a::b::r=>o2 (f a) (iV f op (b::r)) (QN op)
def rN(f:Expr->Option EM):Option Expr->Option (Bool×EM)
 |none=>some (true,ag .non)
 |some e=>(f e).map λm=>(false,m)
inductive BM where
 |append|reverse|join|get|vF
noncomputable def BM.nm:BM->Str
 |.append=>"append" |.reverse=>"reverse" |.join=>"join" |.get=>"get" |.vF=>"pop"
noncomputable def BM.ar:BM->Nat
 |.append=>1|.reverse=>0|.join=>1|.get=>1|.vF=>2
def BM.ty:BM->aI->D->Bool
 |.join=>xB
 |.get=>kX
 |.vF=>kX
 |_=>pM
def BM.f:BM->D->List D->aI->av D
 |.append=>cX|.reverse=>cW|.join=>kS|.get=>nW|.vF=>vE
def EE(m:Str)(n:Nat):Option BM:=[BM.append,.reverse,.join,.get,.vF].find? λb=>b.nm==m&&b.ar==n
def gT(a:EM)(as:AM)(m:Str):List (Str×Str×b_)->Option EM
 |[]=>none
 | (b,C,F)::r=>if b==m then (match gT a as m r with
  |some x=>some (lJ (cO C m F a as) x)
  |none=>some (cO C m F a as))else gT a as m r
def jW(T:aK)(m:Str)(n:Nat)(a:EM)(as:AM):Option EM:=match EE m n,gT a as m T.met with
 |some b,some x=>some (lJ (cL b.ty b.f a as) x)
 |some b,none=>some (cL b.ty b.f a as)
 |none,some x=>some x
 |none,none=>if n==0 then none else (T.fld.lookup m).map λc=>jv T.clo c m a as
noncomputable def ec:Expr->Bool
 |.Name .. |.Attribute .. |.Constant (.str _) .. |.Call (.Attribute ..) ..=>true
 |_=>false
def rO(x:Str):Option jn:=[jn.len,jn.all,jn.list,jn.tuple,jn.min,jn.max].find? (λb=>b.nm==x)
theorem Bm{x:Str}{b:jn}(h:rO x=some b):x=b.nm/\b∈[jn.len,jn.all,jn.list,jn.tuple,jn.min,jn.max]/\b.nm∈dN:=by
 unfold rO at h;have c:=List.find?_some h;have a:=List.mem_of_find?_eq_some h;refine⟨(eq_of_beq c).symm,a,?_⟩;cases b<;>first | (simp at a;done)|decide
def nY(T:aK)(a:Scope)(f:Expr->Option EM)(x:Str)(args:List Expr):Option EM:=
 if Ah a x&&okN x then
  match T.fn.lookup x,T.gh.lookup x,T.cls.lookup x,rO x with
  |some F,_,_,_=>(cP f args).map (mN (cm F))
  |none,some F,_,_=>if args.isEmpty then none else (cP f args).map (mN (bZ F))
  |none,none,some F,_=>(cP f args).map (mN (ju x F))
  |none,none,none,some b=>if args.isEmpty then none else (cP f args).map (mN (dc b))
  |none,none,none,none=>if x==("sorted":Str)then (if args.isEmpty then none else (cP f args).map (mN kQ))else none
 else none
def jX(T:aK)(a:Scope)(N:List Str)(f:Expr->Option EM)(x:Str)(args:List Expr):Option EM:=match mu a N x with
 |some _=>none
 |none=>nY T a f x args
def yb(b:Scope):List Expr->Option (Expr×Ty×Pos)
 |[a,.Name t p]=>match wX t with
  |some ty=>if Ah b t then some (a,ty,p)else none
  |none=>none
 |_=>none
theorem vG{d:Scope}{args:List Expr}{a:Expr}{b:Ty}{p:Pos}(h:yb d args=some (a,b,p)):args=[a,.Name b.nm p]/\Ah d b.nm=true/\b.nm∈dN:=by
 unfold yb at h;split at h
 .split at h
  .rename_i e c
   split at h
   .rename_i f
    cases h;obtain⟨rfl,m⟩:=GS c;exact⟨rfl,f,m⟩
   .cases h
  .cases h
 .cases h
def pZ(b:Scope)(f:Expr->Option EM)(x:Str)(args:List Expr):Option EM:=if x==("isinstance":Str)&&Ah b x then match yb b args with
 |some (a,c,_)=>(f a).map (m1 (eo c))
 |none=>none else none
def fC(f:Expr->Option EM)(c:Scope)(iter:Expr):Option IM:=match iter with
 |.Call (.Name g _) args [] _=>if g==("range":Str)then (if Ah c g then (match args with
   |[a]=>(cP f [a]).map eU
   |[a,b]=>(cP f [a,b]).map tw
   |_=>none)else none)else (f iter).map dZ
 |_=>(f iter).map dZ
def tI(f:Expr->Option EM):List Expr->Option (Bool×EM)
 |[]=>some (true,ag .non)
 |[c]=>(f c).map λm=>(false,m)
 |_=>none
noncomputable def emptyDict:List (Option Expr)->List Expr->Bool
 |[],[]=>true
 |_,_=>false
noncomputable def fc:List Comprehension->Option (Str×Str×Expr×Expr)
 |[⟨.Tuple [.Name x _,.Name y _] _ _,it,[c],0⟩]=>some (x,y,it,c)
 |_=>none
theorem rP{c:List Comprehension}{x y:Str}{a b:Expr}(h:fc c=some (x,y,a,b)):∃d e j f,c=[⟨.Tuple [.Name x d,.Name y e] j f,a,[b],0⟩]:=by
 unfold fc at h;split at h
 .cases h
  exact⟨_,_,_,_,rfl⟩
 .cases h
def tJ(scope:Scope)(a:Scope)(x y:Str):Bool:=rn scope a x&&scope.names.lookup y==some .local&&decide ((x::y::bp scope).Nodup)
def n_:Expr->Bool
 |.ListComp _ gens _ _=>(fc gens).isSome
 |_=>false
def bW(T:aK):Nat->Scope->List Str->Expr->Option EM
 |0,_,_,_=>none
 |n+1,sc,N,e=>match e with
  |.Name x _=>nX T sc N x
  |.Constant c _ _=>kY c
  |.BinOp a d b _=>o2 (bW T n sc N a) (bW T n sc N b) (m2 (aJ d))
  |.UnaryOp .USub a _=>(bW T n sc N a).map (m1 Au)
  |.UnaryOp .Not a _=>(bW T n sc N a).map gf
  |.BoolOp d (a::b::r) _=>iV (bW T n sc N) d (a::b::r)
  |.Compare a [d] [b] _=>if isSet b then none else o2 (bW T n sc N a) (bW T n sc N b) (m2 (bg d))
  |.Compare a [d,g] [b,c] _=>if isSet c then none else o2 (bW T n sc N a) (o2 (bW T n sc N b) (bW T n sc N c) Prod.mk) λx y=>lL d g x y.1 y.2
  |.Subscript a (.Slice lo hi none _) _=>o2 (bW T n sc N a) (o2 (rN (bW T n sc N) lo) (rN (bW T n sc N) hi) Prod.mk) λx y=>gC x y.1.1 y.1.2 y.2.1 y.2.2
  |.Subscript a b _=>if isSlice b then none else o2 (bW T n sc N a) (bW T n sc N b) (m2 aZ)
  |.List es _=>(cP (bW T n sc N) es).map (mN dm)
  |.Tuple es _ _=>(cP (bW T n sc N) es).map (mN lK)
  |.Attribute o f _=>if ec o then o2 (T.fld.lookup f) (bW T n sc N o) λCs m=>m1 (kW Cs f) m else none
  |.Call (.Name x _) args [] _=>match pZ sc (bW T n sc N) x args with
   |some m=>some m
   |none=>jX T sc N (bW T n sc N) x args
  |.Call (.Attribute o m p1) args [] p2=>if p1.endLine==p2.line&&ec o&&decide (args.length<20)then (match bW T n sc N o,cP (bW T n sc N) args with
   |some mo,some as=>jW T m args.length mo as
   |_,_=>none)else none
  |.ListComp elt gens scope _=>match iK gens with
   |some (x,_,iter,ifs)=>if rn scope sc x&&!isSet iter then (match kF sc N (bp scope),fC (bW T n sc N) sc iter,bW T n (ig scope sc) (x::bp scope) elt,tI (bW T n (ig scope sc) (x::bp scope)) ifs with
    |some cap,some mi,some me,some (nc,mc)=>some (er me nc mc mi 0 cap)
    |_,_,_,_=>none)else none
   |none=>(match fc gens with
    |some (x,y,it,c)=>if tJ scope sc x y&&!isSet it then (match kF sc N (bp scope),fC (bW T n sc N) sc it,bW T n (ig scope sc) (x::y::bp scope) elt,bW T n (ig scope sc) (x::y::bp scope) c with
     |some cap,some mi,some me,some mc=>some (er me false mc mi 2 cap)
     |_,_,_,_=>none)else none
    |none=>none)
  |_=>none
structure GoodO(X:Cx)(κ:Str->Addr->Prop)(T:aK)(k:Nat)(sc:Scope)(N:List Str):Prop where
 scope:X.env.scope=sc
 names:X.N=N
 calm:X.calm=true
 room:br k X.A
 cM:∀x∈dN,X.mg x=none
 gh:∀x F,T.gh.lookup x=some F->GQ X k x F
 fn:∀x F,T.fn.lookup x=some F->xR X κ k x F
 cst:∀x d,T.cst.lookup x=some d->∃v u,X.mg x=some u/\RelV v u/\fk d=some v
 met:∀m C F,(m,C,F)∈T.met->tF X κ k C m F
 cls:∀C F,T.cls.lookup C=some F->∃j,j+1<=k/\xV X κ j C F
 fld:∀f Cs,T.fld.lookup f=some Cs->ik X.K κ Cs f
 clo:∀j F,T.clo[j]?=some F->jH X.prog X.w X.K X.mg X.base κ k j F
theorem GoodO.gl{X:Cx}{κ:Str->Addr->Prop}{T:aK}{k:Nat}{a:Scope}{N:List Str}{x:Str}(G:GoodO X κ T k a N)(h:Ah a x=true):Gl X x:=by
 unfold Ah at h;have e:=eq_of_beq h
 show X.env.scope.names.lookup x=some .globalImplicit
 rw[G.scope];exact e
theorem GoodO.hu{X:Cx}{κ:Str->Addr->Prop}{T:aK}{k:Nat}{a:Scope}{N:List Str}(G:GoodO X κ T k a N):X.A.units+64<cLine:=G.room.units
theorem GoodO.blk{X:Cx}{κ:Str->Addr->Prop}{T:aK}{k:Nat}{c:Scope}{N:List Str}(G:GoodO X κ T k c N)(scope:Scope)(cl:List (Str×Addr))(C:Addr)(d:List Str)(a:Shared)(b:Hp)(fp:List Addr):GoodO (blk X scope cl C d a b fp) κ T k (ig scope c) d where
 scope:=by rw[←G.scope];rfl
 names:=rfl
 calm:=G.calm
 room:=G.room
 cM:=G.cM
 gh:=λx F h=>⟨(G.gh x F h).ex⟩
 fn:=λx F h=>⟨(G.fn x F h).ex⟩
 cst:=G.cst
 met:=λm C F h=>⟨(G.met m C F h).ex⟩
 cls:=λC F h=>let ⟨j,e,f⟩:=G.cls C F h;⟨j,e,⟨f.ex⟩⟩
 fld:=G.fld
 clo:=G.clo
def jY(X:Cx)(κ:Str->Addr->Prop)(e:Expr)(m:EM):Prop:=(∀a,bc X κ a e m)/\(∀a,nN X κ a e m)/\isStar e=false
section
variable{X:Cx}{κ:Str->Addr->Prop}{T:aK}{k:Nat}{sc:Scope}{N:List Str}{f:Expr->Option EM}
theorem bX{e:Expr}{m:EM}(h:∀Φ,bc X κ Φ e m)(b:isStar e=false)(c:∀a,isTrue e X.env a=(do let v ←a;standAt e.pos;holding [v] (truthy v))):jY X κ e m:=⟨h,λΦ=>AD (h Φ) c,b⟩
theorem bD(a:∀e m,f e=some m->jY X κ e m):∀{es:List Expr}{as:AM},cP f es=some as->(∀Φ,nP X κ Φ es as)/\(∀e∈es,isStar e=false)
 |[],as,h=>by cases h;exact⟨λΦ=>tp,λe c=>absurd c (by simp)⟩
 |e::es,as,h=>by
  obtain⟨m,d,h1,h2,rfl⟩:=bt h;obtain⟨g,_,b⟩:=a e m h1;obtain⟨i,j⟩:=bD a h2;refine⟨λΦ=>pD (g Φ) (i Φ) (bj b),λz hz=>?_⟩
  rcases List.mem_cons.mp hz with rfl|hz
  .exact b
  .exact j z hz
theorem yc(G:GoodO X κ T k sc N){x:Str}{pos:Pos}{m:EM}(h:nX T sc N x=some m):jY X κ (.Name x pos) m:=by
 unfold nX at h;split at h
 .rename_i i q
  cases h;obtain⟨c,e,a,f⟩:=sX q;exact bX (λg=>Ao (by rw[G.names];exact c) (by rw[G.scope];exact e) a f) rfl (λ_=>rfl)
 .split at h
  .rename_i b
   simp only[Bool.and_eq_true]at b;obtain⟨d,a,rfl⟩:=cz h;obtain⟨v,u,j,l,n⟩:=G.cst x d a;obtain⟨o,p,r⟩:=sY b.2;exact bX (λg=>iQ (zE (G.gl b.1) j l o) n) rfl (λ_=>rfl)
  .cases h
theorem vH{q:Const}{j:Nat}{pos:Pos}{m:EM}(h:kY q=some m):jY X κ (.Constant q j pos) m:=by
 cases q<;>simp only[kY]at h<;>cases h
 .exact bX (λa=>iQ Dt rfl) rfl (λ_=>rfl)
 .exact bX (λa=>iQ Cu rfl) rfl (λ_=>rfl)
 .exact bX (λa=>iQ Ds rfl) rfl (λ_=>rfl)
 .exact bX (λa=>iQ Du rfl) rfl (λ_=>rfl)
theorem p_{op:BoolOp}{pos:Pos}(c:∀e m,f e=some m->jY X κ e m):∀{es:List Expr}{m:EM},iV f op es=some m->(∀Φ,bc X κ Φ (.BoolOp op es pos) m)/\(∀Φ,CJ X κ Φ (.BoolOp op es pos) m)
 |[],m,h=>by cases h
 |[a],m,h=>by
  obtain⟨p1,p2,p3⟩:=c a m h;exact⟨λΦ=>vg (p1 Φ),λΦ=>AH (p2 Φ)⟩
 |a::b::r,m,h=>by
  simp only[iV]at h;obtain⟨i,l,j,k,rfl⟩:=bt h;obtain⟨p1,p2,p3⟩:=c a i j;obtain⟨d,g⟩:=p_ c k;cases op with
  |And=>exact⟨λΦ=>AE (p1 Φ) (d Φ),λΦ=>AI (p2 Φ) (g Φ)⟩
  |Or=>exact⟨λΦ=>Eg (p1 Φ) (d Φ),λΦ=>Eh (p2 Φ) (g Φ)⟩
theorem qb(b:∀e m,f e=some m->jY X κ e m){o:Option Expr}{n:Bool}{m:EM}{Φ:fg}(h:rN f o=some (n,m)):JK X κ Φ o n m:=by
 cases o with
 |none=>cases h;exact .inl ⟨rfl,rfl⟩
 |some e=>
  obtain⟨a,c,d⟩:=cz h;cases d;exact .inr ⟨e,rfl,rfl,(b e m c).1 Φ⟩
theorem Bn{m:Str}{n:Nat}{b:BM}(h:EE m n=some b):m=b.nm/\n=b.ar:=by
 have:=List.find?_some h;simp only[Bool.and_eq_true,beq_iff_eq]at this;exact⟨this.1.symm,this.2.symm⟩
theorem et{o:Expr}{n:Str}{env:Env}(h:ec o=true):attributeBase o n env (eval o env)=eval o env:=by
 cases o with
 |Call f a b p=>cases f<;>first|rfl | (cases h)
 |_=>first|rfl | (cases h)
theorem Hl(t:X.A.units+64<cLine)(b:BM){o:Expr}{es:List Expr}{u:EM}{as:AM}{p1 p2:Pos}{Φ:fg}(j:ec o=true)(k:(p1.endLine==p2.line)=true)(l:es.length=b.ar)(n:bc X κ Φ o u)(w:cP f es=some as)(y:∀e m,f e=some m->jY X κ e m) :
  bc X κ Φ (.Call (.Attribute o b.nm p1) es [] p2) (cL b.ty b.f u as):=by
 obtain⟨i,p⟩:=bD y w;have i:=i Φ;cases b with
 |append=>
  match es,l with
  |[e],_=>exact nU PySem.F.plainAttrs_list PySem.F.slot_list_append PySem.F.type_list_append mf (λx v a Z c H S r h=>xC S r h) (λx v q s a Z c H Q S r d g=>vx S r d g) (et j) k n i p (by simp)
 |reverse=>
  match es,l with
  |[],_=>cases w;exact A_ PySem.F.plainAttrs_list PySem.F.slot_list_reverse PySem.F.type_list_reverse q_ (λx v a Z c H S r h=>xC S r h) (λx v q s a Z c H Q S r d g=>rK S r d g) (et j) k n
 |join=>
  match es,l with
  |[e],_=>exact nU PySem.F.plainAttrs_str PySem.F.slot_str_join PySem.F.type_str_join Ae (λx v a Z c H S r h=>AZ S r h) (λx v q s a Z c H Q S r d g=>Ba S r d g) (et j) k n i p (by simp)
 |get=>
  match es,l with
  |[e],_=>exact nU PySem.F.plainAttrs_dict PySem.F.slot_dict_get PySem.F.type_dict_get (EA t) (λx v a Z c H S r h=>tH S r h) (λx v q s a Z c H Q S r d g=>EC S r d g) (et j) k n i p (by simp)
 |vF=>
  match es,l with
  |[e,z],_=>exact nU PySem.F.plainAttrs_dict PySem.F.slot_dict_pop PySem.F.type_dict_pop (Bl t) (λx v a Z c H S r h=>tH S r h) (λx v q s a Z c H Q S r d g=>ED S r d g) (et j) k n i p (by simp)
theorem jZ{o:Expr}{m:Str}{apos pos:Pos}{es:List Expr}{env:Env}(c:attributeBase o m env (eval o env)=eval o env)(d:∀e∈es,isStar e=false)(b:es.length<20)(g:(apos.endLine==pos.line)=true) :
  eval (.Call (.Attribute o m apos) es [] pos) env=(do
   let a ←eval o env
   standAt apos.atName
   let (f,first) ←holding [a] (getMethod a m (do let l ←importBound o env;pure (l.getD true)))
   callWith pos f first (backTo pos (starEach es env)) (backToKw pos (keywordEach [] env))):=by
 have h:methodCallForm (es.length+([]:List Keyword).length) (backTo pos (starEach es env)) (backToKw pos (keywordEach [] env))=true:=by
  unfold methodCallForm;rw[rJ d,decide_eq_true (by show es.length+0+0<30;omega)];rfl
 have i:eval (.Call (.Attribute o m apos) es [] pos) env=(do
   let a ←attributeBase o m env (eval o env)
   standAt apos.atName
   methodCall o m apos pos env a (es.length+([]:List Keyword).length) (backTo pos (starEach es env)) (backToKw pos (keywordEach [] env))):=by rfl
 rw[i,c];unfold methodCall calleeOf methodCallPos;rw[h];simp only[if_true,Bool.not_true,Bool.false_or,g];rfl
theorem ip(b:br k X.A){o:Expr}{m:Str}{es:List Expr}{p:EM}{as:AM}{p1 p2:Pos}{Φ:fg}(c:ec o=true)(d:(p1.endLine==p2.line)=true)(a:es.length<20)(g:bc X κ Φ o p)(i:cP f es=some as)(r:∀e m,f e=some m->jY X κ e m):∀{s:List (Str×Str×b_)}{x:EM},(∀m C F,(m,C,F)∈s->tF X κ k C m F)->gT p as m s=some x->bc X κ Φ (.Call (.Attribute o m p1) es [] p2) x
 |[],x,_,h=>by cases h
 | (j,C,F)::s,x,l,h=>by
  obtain⟨t,n⟩:=bD r i;simp only[gT]at h;split at h
  .rename_i u
   obtain rfl:=eq_of_beq u
   have one:bc X κ Φ (.Call (.Attribute o j p1) es [] p2) (cO C j F p as):=by
    cases es with
    |nil=>cases i;exact vC (l j C F (by simp)) b g (jZ (et c) n a d)
    |cons e es=>exact xU (l j C F (by simp)) b g (t Φ) (bj (n e (by simp))) (bR λz w=>n z (by simp[w])) (jZ (et c) n a d)
   split at h
   .rename_i y B
    cases h;exact one.alt (ip b c d a g i r (λm C F q=>l m C F (by simp[q])) B)
   .cases h;exact one
  .exact ip b c d a g i r (λm C F q=>l m C F (by simp[q])) h
theorem yd(G:GoodO X κ T k sc N){o:Expr}{m:Str}{es:List Expr}{i:EM}{as:AM}{p1 p2:Pos}{Φ:fg}{x:EM}(j:ec o=true)(l:(p1.endLine==p2.line)=true)(a:es.length<20)(n:bc X κ Φ o i)(p:cP f es=some as)(q:∀e m,f e=some m->jY X κ e m)
  (h:jW T m es.length i as=some x):bc X κ Φ (.Call (.Attribute o m p1) es [] p2) x:=by
 have one:∀b,EE m es.length=some b->bc X κ Φ (.Call (.Attribute o m p1) es [] p2) (cL b.ty b.f i as):=λb r=>by
  obtain⟨rfl,u⟩:=Bn r;exact Hl G.hu b j l u n p q
 have c:∀y,gT i as m T.met=some y->bc X κ Φ (.Call (.Attribute o m p1) es [] p2) y:=λy w=>ip G.room j l a n p q G.met w
 unfold jW at h;split at h
 .rename_i b y d g
  cases h;exact(one b d).alt (c y g)
 .rename_i b d g
  cases h;exact one b d
 .rename_i y d g
  cases h;exact c x g
 .rename_i d g
  split at h
  .cases h
  .rename_i s
   obtain⟨A,B,rfl⟩:=cz h;obtain⟨C,t⟩:=bD q p;cases es with
   |nil=>exact absurd rfl s
   |cons e es=>exact vD (G.fld m A B) G.clo G.room n (C Φ) (bj (t e (by simp))) (bR λz D=>t z (by simp[D])) (jZ (et j) t a l)
theorem ye(G:GoodO X κ T k sc N)(q:∀e m,f e=some m->jY X κ e m){x:Str}{args:List Expr}{m:EM}{p pos:Pos}(h:nY T sc f x args=some m):jY X κ (.Call (.Name x p) args [] pos) m:=by
 refine bX (λr=>?_) rfl (λ_=>rfl)
 unfold nY at h;split at h
 .rename_i u
  simp only[Bool.and_eq_true]at u;obtain⟨s,D,E⟩:=sY u.2;have n:=G.gl u.1;split at h
  .rename_i F o
   obtain⟨t,d,rfl⟩:=cz h;obtain⟨i,c⟩:=bD q d;cases args with
   |nil=>cases d;exact vB (G.fn x F o) G.room n s
   |cons a args=>exact xS (G.fn x F o) G.room n s (bj (c a (by simp))) (bR λz l=>c z (by simp[l])) (i r)
  .rename_i F _ o
   split at h
   .cases h
   .rename_i g
    obtain⟨t,d,rfl⟩:=cz h;obtain⟨i,c⟩:=bD q d;cases args with
    |nil=>exact absurd rfl g
    |cons a args=>exact vh (G.gh x F o) G.room n s (bj (c a (by simp))) (bR λz l=>c z (by simp[l])) (i r)
  .rename_i F _ _ o
   obtain⟨t,d,rfl⟩:=cz h;obtain⟨i,c⟩:=bD q d;obtain⟨j,w,M⟩:=G.cls x F o;cases args with
   |nil=>cases d;exact xW M (G.room.mono w) n s
   |cons a args=>exact Bk M (G.room.mono w) n s (bj (c a (by simp))) (bR λz l=>c z (by simp[l])) (i r)
  .rename_i b _ _ _ y
   split at h
   .cases h
   .rename_i g
    obtain⟨t,d,rfl⟩:=cz h;obtain⟨i,c⟩:=bD q d;obtain⟨rfl,A,B⟩:=Bm y;cases args with
    |nil=>exact absurd rfl g
    |cons a args=>exact AX G.calm A n (G.cM _ B) (bj (c a (by simp))) (bR λz l=>c z (by simp[l])) (i r)
  .split at h
   .rename_i C
    obtain rfl:=eq_of_beq C;split at h
    .cases h
    .rename_i g
     obtain⟨t,d,rfl⟩:=cz h;obtain⟨i,c⟩:=bD q d;cases args with
     |nil=>exact absurd rfl g
     |cons a args=>exact xy n (G.cM _ (by decide)) (bj (c a (by simp))) (bR λz l=>c z (by simp[l])) (i r)
   .cases h
 .cases h
theorem yf(G:GoodO X κ T k sc N)(b:∀e m,f e=some m->jY X κ e m){x:Str}{args:List Expr}{m:EM}{p pos:Pos}(h:jX T sc N f x args=some m):jY X κ (.Call (.Name x p) args [] pos) m:=by
 unfold jX at h;cases a:mu sc N x with
 |none=>rw[a]at h;exact ye G b h
 |some i=>
  rw[a]at h;cases h
theorem Bo(G:GoodO X κ T k sc N)(d:∀e m,f e=some m->jY X κ e m){x:Str}{args:List Expr}{m:EM}{p pos:Pos}(h:pZ sc f x args=some m):jY X κ (.Call (.Name x p) args [] pos) m:=by
 unfold pZ at h;split at h
 .rename_i b
  simp only[Bool.and_eq_true,beq_iff_eq]at b;obtain⟨rfl,g⟩:=b;split at h
  .rename_i a i j l
   obtain⟨rfl,n,o⟩:=vG l;obtain⟨q,r,rfl⟩:=cz h;obtain⟨s,_,t⟩:=d a q r;exact bX (λu=>AY (G.gl g) (G.cM _ (by decide)) (G.gl n) (G.cM _ o) (bj t) (bR (es:=[Expr.Name i.nm j]) λz c=>by simp at c;subst c;rfl) (s u)) rfl (λ_=>rfl)
  .cases h
 .cases h
theorem oa(G:GoodO X κ T k sc N)(i:∀e m,f e=some m->jY X κ e m){iter:Expr}{mi:IM}(h:fC f sc iter=some mi):∀Φ j,xD X κ Φ j iter mi:=by
 intro Φ j
 have dflt:∀{mi},(f iter).map dZ=some mi->xD X κ Φ j iter mi:=λ{mi} h=>by
  obtain⟨m,c,rfl⟩:=cz h;exact Bc ((i iter m c).1 Φ)
 unfold fC at h;split at h
 .rename_i g p args o
  split at h
  .rename_i q
   obtain rfl:=eq_of_beq q;split at h
   .rename_i n
    split at h
    .rename_i a
     obtain⟨r,c,rfl⟩:=cz h;obtain⟨l,d⟩:=bD i c;exact xE (G.gl n) (G.cM _ (by decide)) (l Φ) (by rw[bj (d a (by simp))];rfl)
    .rename_i a b
     obtain⟨r,c,rfl⟩:=cz h;obtain⟨l,d⟩:=bD i c;exact xF (G.gl n) (G.cM _ (by decide)) (l Φ) (by rw[bj (d a (by simp)),bj (d b (by simp))];rfl) (by rw[bj (d b (by simp))];rfl)
    .cases h
   .cases h
  .exact dflt h
 .exact dflt h
end
section
variable{κ:Str->Addr->Prop}{T:aK}{k:Nat}
theorem tK{X:Cx}{c:Scope}{N:List Str}(G:GoodO X κ T k c N){scope:Scope}{x:Str}{cap:List Nat}(f:rn scope c x=true)(m:kF c N (bp scope)=some cap) :
  hY X scope [x] (bp scope) cap/\scope.names.lookup x=some .local/\([x]++bp scope).Nodup:=by
 simp only[rn,Bool.and_eq_true,decide_eq_true_eq,List.all_eq_true,Bool.not_eq_true',beq_iff_eq,Bool.or_eq_true]at f;obtain⟨⟨⟨⟨⟨n,o⟩,p⟩,r⟩,s⟩,t⟩:=f;obtain⟨u,w⟩:=wZ m
 have g:∀y∈scope.names,y.2=.free->(c.names.lookup y.1=some .cell\/c.names.lookup y.1=some .free)/\scope.names.lookup y.1=some .free:=λy a b=>by
  rcases r y a with q|q
  .rw[b]at q;exact absurd q (by decide)
  .exact q
 refine⟨⟨n,λy a b=>?_,λy a b=>?_,λy a b=>?_,u,λj i z h A=>?_⟩,s,t⟩
 .have:=o y a
  rw[b]at this;exact absurd this (by decide)
 .rcases p y a with q|q
  .rw[b]at q;exact absurd q (by decide)
  .exact q
 .have:=(g y a b).1
  show X.env.scope.names.lookup y.1=_\/X.env.scope.names.lookup y.1=_
  rw[G.scope];exact this
 .refine⟨by rw[G.names];exact w j i z h A,?_⟩
  have l:z∈bp scope:=List.mem_of_getElem? h;unfold bp at l;obtain⟨y,a,rfl⟩:=List.mem_map.mp l;obtain⟨d,e⟩:=List.mem_filter.mp a;exact(g y d (by simpa using e)).2
theorem kZ{T:aK}{a:Scope}{N:List Str}{n:Nat}{elt:Expr}{gens:List Comprehension}{scope:Scope}{pos:Pos}{m:EM}{P:Prop}(j:iK gens=none)(hz:fc gens=none)(h:bW T (n+1) a N (.ListComp elt gens scope pos)=some m):P:=by
 replace h:(match iK gens with
   |some (x,_,iter,d)=>if (rn scope a x&&!isSet iter)=true then (match kF a N (bp scope),fC (bW T n a N) a iter,bW T n (ig scope a) (x::bp scope) elt,tI (bW T n (ig scope a) (x::bp scope)) d with
    |some b,some e,some f,some (k,g)=>some (er f k g e 0 b)
    |_,_,_,_=>none)else none
   |none=>(match fc gens with
    |some (x,y,i,c)=>if (tJ scope a x y&&!isSet i)=true then (match kF a N (bp scope),fC (bW T n a N) a i,bW T n (ig scope a) (x::y::bp scope) elt,bW T n (ig scope a) (x::y::bp scope) c with
     |some b,some e,some f,some g=>some (er f false g e 2 b)
     |_,_,_,_=>none)else none
    |none=>none))=some m:=h
 rw[j,hz]at h;cases h
theorem jI{n:Nat}(i:∀(X:Cx) (f:Scope) (N:List Str) (e:Expr) (m:EM),GoodO X κ T k f N->bW T n f N e=some m->jY X κ e m){X:Cx}{f:Scope}{N:List Str}(G:GoodO X κ T k f N){scope:Scope}{x:Str}{iter elt:Expr}{ifs:List Expr}{l pos:Pos}{m:EM}
  (h:bW T (n+1) f N (.ListComp elt [⟨.Name x l,iter,ifs,0⟩] scope pos)=some m):∃me nc mc mi cap,m=er me nc mc mi 0 cap/\hY X scope [x] (bp scope) cap/\scope.names.lookup x=some .local/\([x]++bp scope).Nodup /\
   (∀z,foldedSetIterable iter X.env z=pure z)/\(∀Φ,xD X κ Φ (.Name x l) iter mi) /\
   ∀cl C b d fp,((ifs=[]/\nc=true)\/∃c,ifs=[c]/\nc=false/\nN (blk X scope cl C ([x]++bp scope) b d fp) κ ji c mc)/\bc (blk X scope cl C ([x]++bp scope) b d fp) κ ji elt me:=by
 replace h:(if (rn scope f x&&!isSet iter)=true then (match kF f N (bp scope),fC (bW T n f N) f iter,bW T n (ig scope f) (x::bp scope) elt,tI (bW T n (ig scope f) (x::bp scope)) ifs with
    |some cap,some mi,some me,some (nc,mc)=>some (er me nc mc mi 0 cap)
    |_,_,_,_=>none)else none)=some m:=h
 split at h
 .rename_i j
  simp only[Bool.and_eq_true,Bool.not_eq_true']at j;split at h
  .rename_i cap mi me nc mc q r s g
   cases h;obtain⟨t,u,w⟩:=tK G j.1 q;refine⟨me,nc,mc,mi,cap,rfl,t,u,w,iL j.2,λΦ=>oa G (i X f N · · G) r Φ _,λcl C b d fp=>?_⟩
   have o:=G.blk scope cl C ([x]++bp scope) b d fp;refine⟨?_,(i _ _ _ elt me o s).1 ji⟩
   match ifs,g with
   |[],g=>cases g;exact .inl ⟨rfl,rfl⟩
   |[p],g=>
    obtain⟨a,y,A⟩:=cz g;cases A;exact .inr ⟨p,rfl,rfl,(i _ _ _ p mc o y).2.1 ji⟩
  .cases h
 .cases h
theorem yg{n:Nat}(s:∀(X:Cx) (d:Scope) (N:List Str) (e:Expr) (m:EM),GoodO X κ T k d N->bW T n d N e=some m->jY X κ e m){X:Cx}{d:Scope}{N:List Str}(G:GoodO X κ T k d N){scope:Scope}{x y:Str}{elt a b:Expr}{gens:List Comprehension}{pos:Pos}{m:EM}
  (D:iK gens=none) (hz:fc gens=some (x,y,a,b)) (h:bW T (n+1) d N (.ListComp elt gens scope pos)=some m):jY X κ (.ListComp elt gens scope pos) m:=by
 replace h:(match iK gens with
   |some (x,_,iter,t)=>if (rn scope d x&&!isSet iter)=true then (match kF d N (bp scope),fC (bW T n d N) d iter,bW T n (ig scope d) (x::bp scope) elt,tI (bW T n (ig scope d) (x::bp scope)) t with
    |some f,some r,some o,some (E,p)=>some (er o E p r 0 f)
    |_,_,_,_=>none)else none
   |none=>(match fc gens with
    |some (x,y,w,c)=>if (tJ scope d x y&&!isSet w)=true then (match kF d N (bp scope),fC (bW T n d N) d w,bW T n (ig scope d) (x::y::bp scope) elt,bW T n (ig scope d) (x::y::bp scope) c with
     |some f,some r,some o,some p=>some (er o false p r 2 f)
     |_,_,_,_=>none)else none
    |none=>none))=some m:=h
 rw[D,hz]at h;dsimp only at h;obtain⟨R,S,j,U,rfl⟩:=rP hz;split at h
 .rename_i z
  simp only[Bool.and_eq_true,tJ,decide_eq_true_eq,beq_iff_eq,Bool.not_eq_true']at z;obtain⟨⟨⟨F,H⟩,u⟩,I⟩:=z;split at h
  .rename_i f r o p J K L M
   cases h;obtain⟨l,O,V⟩:=tK G F J;have P:hY X scope [x,y] (bp scope) f:=⟨l.kind,l.cell,l.names,l.free,l.len,l.at'⟩;exact bX (λQ=>xH G.calm P (iL I) (oa G (λe m q=>s X d N e m G q) K Q _) O H u λA C g i B=>⟨(s _ _ _ b p (G.blk scope A C ([x,y]++bp scope) g i B) M).2.1 ji,(s _ _ _ elt o (G.blk scope A C ([x,y]++bp scope) g i B) L).1 ji⟩) rfl (λ_=>rfl)
  .cases h
 .cases h
theorem iq:∀(n:Nat) (X:Cx) (l:Scope) (N:List Str) (e:Expr) (m:EM),GoodO X κ T k l N->bW T n l N e=some m->jY X κ e m:=by
 intro n
 induction n with
 |zero=>intro X l N e m G h;cases h
 |succ n L=>
  intro X l N e m G h;have g:∀e m,bW T n l N e=some m->jY X κ e m:=λe m q=>L X l N e m G q
  cases e with
  |Name x pos=>exact yc G h
  |Constant c j pos=>exact vH h
  |BinOp a op b pos=>
   obtain⟨w,B,t,u,rfl⟩:=bt h;exact bX (λd=>As ((g a w t).1 d) ((g b B u).1 d)) rfl (λ_=>rfl)
  |UnaryOp op a pos=>
   cases op with
   |USub=>
    obtain⟨w,t,rfl⟩:=cz h;exact bX (λd=>Av ((g a w t).1 d)) rfl (λ_=>rfl)
   |Not=>
    obtain⟨w,t,rfl⟩:=cz h;exact⟨λd=>AF ((g a w t).1 d),λd=>AG ((g a w t).2.1 d),rfl⟩
   |_=>cases h
  |BoolOp op V pos=>
   match V,h with
   |a::b::r,h=>
    obtain⟨Y,Z⟩:=p_ (pos:=pos) g (show iV (bW T n l N) op (a::b::r)=some m from h)
    exact⟨Y,λd=>(Z d).pt,rfl⟩
   |[_],h=>cases h
   |[],h=>cases h
  |Compare a M cs pos=>
   match M,cs,h with
   |[op],[b],h=>
    replace h:(if isSet b=true then none else o2 (bW T n l N a) (bW T n l N b) (m2 (bg op)))=some m:=h
    split at h
    .cases h
    .rename_i O
     obtain⟨w,B,t,u,rfl⟩:=bt h;have C:=pj (op:=op) (b:=b) (by simpa using O)
     exact⟨λd=>(tq G.hu C ((g a w t).1 d) ((g b B u).1 d)).1,λd=>(tq G.hu C ((g a w t).1 d) ((g b B u).1 d)).2,rfl⟩
   |[op,z],[b,H],h=>
    replace h:(if isSet H=true then none else o2 (bW T n l N a) (o2 (bW T n l N b) (bW T n l N H) Prod.mk) λx y=>lL op z x y.1 y.2)=some m:=h
    split at h
    .cases h
    .rename_i O
     obtain⟨w,a0,t,A,rfl⟩:=bt h;obtain⟨B,mc,u,I,rfl⟩:=bt A;have C:lastMarks [op,z] [b,H]=false:=pj (op:=z) (b:=H) (by simpa using O)
     exact⟨λd=>AJ G.hu C ((g _ _ t).1 d) ((g _ _ u).1 d) ((g _ _ I).1 d),λd=>AK G.hu C ((g _ _ t).1 d) ((g _ _ u).1 d) ((g _ _ I).1 d),rfl⟩
   |[],_,h=>cases h
   |[_],[],h=>cases h
   |[_],_::_::_,h=>cases h
   |[_,_],[],h=>cases h
   |[_,_],[_],h=>cases h
   |[_,_],_::_::_::_,h=>cases h
   |_::_::_::_,[],h=>cases h
   |_::_::_::_,[_],h=>cases h
   |_::_::_::_,_::_::_,h=>cases h
  |Subscript a s pos=>
   have P:∀b,isSlice b=false->o2 (bW T n l N a) (bW T n l N b) (m2 aZ)=some m->jY X κ (.Subscript a b pos) m:=λb Q h=>by
    obtain⟨w,B,t,u,rfl⟩:=bt h;refine bX (λd=>Az (by have:=G.hu;omega) (λo i=>?_) ((g _ _ t).1 d) ((g _ _ u).1 d)) rfl (λ_=>rfl)
    cases b<;>first|rfl | (cases Q)
   cases s with
   |Slice lo D st p2=>
    cases st with
    |none=>
     obtain⟨w,b0,t,A,rfl⟩:=bt h;obtain⟨⟨nl,ml⟩,⟨nh,mh⟩,u,I,rfl⟩:=bt A;exact bX (λd=>AB ((g _ _ t).1 d) (qb g u) (qb g I)) rfl (λ_=>rfl)
    |some e=>
     cases lo with
     |none=>
      cases D with
      |none=>
       exact nomatch (show(none:Option EM)=some m from h)
      |some _=>exact nomatch (show(none:Option EM)=some m from h)
     |some _=>exact nomatch (show(none:Option EM)=some m from h)
   |_=>exact P _ rfl h
  |List es pos=>
   obtain⟨J,t,rfl⟩:=cz h;exact bX (λd=>Ap ((bD g t).1 d)) rfl (λ_=>rfl)
  |Tuple es j pos=>
   obtain⟨J,t,rfl⟩:=cz h;exact bX (λd=>Aq ((bD g t).1 d)) rfl (λ_=>rfl)
  |Attribute o f pos=>
   replace h:(if ec o=true then o2 (T.fld.lookup f) (bW T n l N o) λR m=>m1 (kW R f) m else none)=some m:=h
   split at h
   .rename_i Q
    obtain⟨R,E,t,u,rfl⟩:=bt h;exact bX (λd=>Bj (G.fld f R t) (et Q) ((g o E u).1 d)) rfl (λ_=>rfl)
   .cases h
  |Call f args F pos=>
   cases f with
   |Name x p=>
    cases F with
    |nil=>
     replace h:(match pZ l (bW T n l N) x args with|some m=>some m|none=>jX T l N (bW T n l N) x args)=some m:=h
     cases D:pZ l (bW T n l N) x args with
     |some m'=>
      rw[D]at h;cases h;exact Bo G g D
     |none=>
      rw[D]at h;exact yf G g h
    |cons _ _=>cases h
   |Attribute o mm p1=>
    cases F with
    |nil=>
     replace h:(if (p1.endLine==pos.line&&ec o&&decide (args.length<20))=true then (match bW T n l N o,cP (bW T n l N) args with
   |some E,some J=>jW T mm args.length E J
   |_,_=>none)else none)=some m:=h
     split at h
     .rename_i K
      simp only[Bool.and_eq_true,decide_eq_true_eq]at K;split at h
      .rename_i E J t u
       exact bX (λd=>yd G K.1.2 K.1.1 K.2 ((g o E t).1 d) u g h) rfl (λ_=>rfl)
      .cases h
     .cases h
    |cons _ _=>cases h
   |_=>cases h
  |ListComp c0 gens scope pos=>
   cases S:iK gens with
   |none=>
    cases U:fc gens with
    |none=>exact kZ S U h
    |some q=>obtain⟨x,y,a,b⟩:=q;exact yg (λX l N e m G q=>L X l N e m G q) G S U h
   |some q=>
    obtain⟨x,px,iter,e0⟩:=q;obtain rfl:=mw S;obtain⟨me,nc,mc,mi,f0,rfl,b1,b2,b3,b4,b5,b6⟩:=jI (λX l N e m G q=>L X l N e m G q) G h
    exact bX (λd=>xG G.calm b1 b4 (b5 d) b2 b3 b6) rfl (λ_=>rfl)
  |_=>cases h
end
structure cZ(X:Cx)(κ:Str->Addr->Prop)(T:aK)(k:Nat)(sc:Scope)(N:List Str):Prop extends GoodO X κ T k sc N where
 own:PassesOwn (model X.prog X.w) X.A X.env X.xe
 EF:∀x,uU sc x=true->T.fz.contains x=false->(X.fn x=true\/X.env.scope.names.lookup x=some .local)
 jT:N.Nodup
 kind:sc.kind=.function
 hP:T.xt=false->∀e s,¬ X.xe e s
def cS(f:Stmt->Option SM):List Stmt->Option SM
 |[]=>some au
 |s::r=>o2 (f s) (cS f r) ao
noncomputable def yh:Expr->Bool
 |.Dict [] [] _=>true
 |_=>false
theorem qf{e:Expr}(h:yh e=true):∃p,e=.Dict [] [] p:=by
 unfold yh at h;split at h
 .exact⟨_,rfl⟩
 .cases h
def iW(T:aK)(a:Scope)(N:List Str)(x:Str):Option Nat:=if T.fz.contains x then none else pk a N x
def k_(T:aK)(a:Scope)(N:List Str)(nms:List (Str×Pos)):Option (List Nat):=if nms.any (λy=>T.fz.contains y.1)then none else jr a N nms
def rQ(T:aK)(td:List Str)(k:Nat)(a:Scope)(N:List Str)(x:Str)(b:Pos)(e:Expr)(pos:Pos):Option SM:=match iW T a N x with
   |some i=>if n_ e then none else if td.contains x&&yh e then some (aU i d_)else (match bW T k a N e with
    |some m=>if pq a x b e then (if pos.line==b.line then some (aU i m)else none)else some (aU i m)
    |none=>none)
   |none=>none
noncomputable def LN:Expr->Bool
 |.ListComp ..=>true
 |_=>false
def rR(T:aK)(k:Nat)(b:Scope)(N:List Str)(es:List Expr)(e:Expr):Option SM:=match fu es with
   |some a=>match k_ T b N a,bW T k b N e with
    |some c,some m=>if w_ e then some (pX c m)else if LN e then some (pW c m)else none
    |_,_=>none
   |none=>none
def iX(T:aK)(td:List Str)(k:Nat)(d:Scope)(N:List Str):Nat->Stmt->Option SM
 |0,_=>none
 |n+1,st=>match st with
  |.Return (some e) _=>some (match bW T k d N e with
   |some m=>cu m
   |none=>cy)
  |.Assign [.Name x g] e pos=>rQ T td k d N x g e pos
  |.Assign [.Tuple es _ _] e _=>rR T k d N es e
  |.Assign [.Attribute o f _] e _=>if ec o&&td.contains f&&yh e then o2 (T.fld.lookup f) (bW T k d N o) λCs y=>eV Cs f y d_ else if ec o&&!ij e then o2 (T.fld.lookup f) (o2 (bW T k d N o) (bW T k d N e) Prod.mk) λCs y=>eV Cs f y.1 y.2 else none
  |.Assign [.Subscript o i _] e _=>if isSlice i||ij e then none else o2 (bW T k d N o) (o2 (bW T k d N i) (bW T k d N e) Prod.mk) λx y=>dS x y.1 y.2
  |.Expr e _=>if ij e then none else (bW T k d N e).map gF
  |.If c a b _=>o2 (bW T k d N c) (o2 (cS (iX T td k d N n) a) (cS (iX T td k d N n) b) Prod.mk) λx y=>eJ x y.1 y.2
  |.For (.Name x _) it b [] _=>if isSet it then none else o2 (iW T d N x) (o2 (fC (bW T k d N) d it) (cS (iX T td k d N n) b) Prod.mk) λi y=>hI (dR i) y.1 y.2
  |.Raise _ _ _=>some cy
  |_=>none
section
variable{X:Cx}{κ:Str->Addr->Prop}{Φ:fg}{T:aK}{td:List Str}{k:Nat}{sc:Scope}{N:List Str}{α α' ck α1:List Addr}{Z Z' Z0 Z1:Addr->Prop}{Ω aD:aI}{H H' H0 H1:Hp}
theorem vJ(G:cZ X κ T k sc N){x:Str}{i:Nat}(h:pk sc N x=some i):X.N[i]?=some x/\Loc X.env.scope x:=by
 unfold pk at h;split at h
 .rename_i b
  simp only[Bool.and_eq_true]at b;refine⟨by rw[G.names];exact wY h,?_⟩
  rw[G.scope];have a:=b.1;unfold uU at a;unfold L2.Loc;split at a
  .rename_i q;exact .inl q
  .rename_i q;exact .inr q
  .cases a
 .cases h
theorem dU{f:Stmt->Option SM}(e:∀s c,f s=some c->jV X κ Φ s c):∀{d:List Stmt}{c:SM},cS f d=some c->lO X κ Φ d c
 |[],c,h=>by cases h;exact Bf
 |s::d,c,h=>by
  obtain⟨a,b,h1,h2,rfl⟩:=bt h;exact xI (e s a h1) (dU e h2)
theorem fD(G:cZ X κ T k sc N){x:Str}{i:Nat}(h:iW T sc N x=some i):X.N[i]?=some x/\Loc X.env.scope x/\(X.fn x=true\/X.env.scope.names.lookup x=some .local):=by
 unfold iW at h;split at h
 .cases h
 .rename_i d
  obtain⟨a,b⟩:=vJ G h;refine⟨a,b,G.EF x ?_ (by simpa using d)⟩
  unfold pk at h;split at h
  .rename_i c;simp only[Bool.and_eq_true]at c;exact c.1
  .cases h
theorem ir(G:cZ X κ T k sc N):∀{nms:List (Str×Pos)}{a:List Nat},(∀y∈nms,T.fz.contains y.1=false)->jr sc N nms=some a->a.length=nms.length/\∀(j i:Nat) (x:Str×Pos),a[j]?=some i->nms[j]?=some x->X.N[i]?=some x.1/\Loc X.env.scope x.1/\(X.fn x.1=true\/X.env.scope.names.lookup x.1=some .local)
 |[],a,_,h=>by cases h;exact⟨rfl,λj i x e=>by simp at e⟩
 |x::xs,a,d,h=>by
  simp only[jr,Option.bind_eq_bind]at h;obtain⟨i,h1,h⟩:=Option.bind_eq_some_iff.mp h;obtain⟨f,g,h⟩:=Option.bind_eq_some_iff.mp h;cases h;obtain⟨l,m⟩:=ir G (λy n=>d y (by simp[n])) g
  refine⟨by rw[List.length_cons,List.length_cons,l],λj o y b c=>?_⟩
  cases j with
  |zero=>
   simp at b c;subst b c
   exact fD G (by unfold iW;rw[if_neg (by rw[d x (by simp)];simp)];exact h1)
  |succ j=>exact m j o y (by simpa using b) (by simpa using c)
theorem yi(G:cZ X κ T k sc N){es:List Expr}{j:Nat}{p:Pos}{nms:List (Str×Pos)}{a:List Nat}(e:fu es=some nms)(c:k_ T sc N nms=some a):PG X (.Tuple es j p) (qO X.K a.length (dz a)):=by
 obtain rfl:=gw e
 have b:(∀y∈nms,T.fz.contains y.1=false)/\jr sc N nms=some a:=by
  unfold k_ at c;split at c
  .cases c
  .rename_i f
   refine⟨λy g=>?_,c⟩
   cases q:T.fz.contains y.1 with
   |false=>rfl
   |true=>exact absurd (List.any_eq_true.mpr ⟨y,g,q⟩) f
 obtain⟨d,h⟩:=ir G b.1 b.2;obtain⟨i,l⟩:=js X.env nms;exact wc G.calm (jq (nms:=nms) (by rw[G.names];exact G.jT) a nms d h) (by rw[i,d]) l
theorem yj(G:cZ X κ T k sc N){es:List Expr}{j:Nat}{p:Pos}{nms:List (Str×Pos)}{a:List Nat}(e:fu es=some nms)(c:k_ T sc N nms=some a):PG X (.Tuple es j p) (Be a.length (dz a)):=by
 obtain rfl:=gw e
 have b:(∀y∈nms,T.fz.contains y.1=false)/\jr sc N nms=some a:=by
  unfold k_ at c;split at c
  .cases c
  .rename_i f
   refine⟨λy g=>?_,c⟩
   cases q:T.fz.contains y.1 with
   |false=>rfl
   |true=>exact absurd (List.any_eq_true.mpr ⟨y,g,q⟩) f
 obtain⟨d,h⟩:=ir G b.1 b.2;obtain⟨i,l⟩:=js X.env nms;exact Es G.calm (jq (nms:=nms) (by rw[G.names];exact G.jT) a nms d h) (by rw[i,d]) l
theorem qh{elt:Expr}{gens:List Comprehension}{scope:Scope}{p a:Pos}{x:Str}{l:Nat}(G:cZ X κ T k sc N) :
  swapsWith (.ListComp elt gens scope p) (some (.Name x a)) l X.env=pure (pq sc x a (.ListComp elt gens scope p)):=by
 have b:X.env.blockKind=.function:=by
  show(if X.env.scope.kind.isAnnotationScope=true then ScopeKind.function else X.env.scope.kind)=_
  rw[G.scope,G.kind];rfl
 show pure (X.env.blockKind==.function&&X.env.kindOf x==some .local&&a.line==p.line&&!(scope.names.any λ(n,k)=>n==x&&(k==.local||k==.cell)))=_
 rw[b]
 show pure (true&&X.env.scope.names.lookup x==some .local&&a.line==p.line&&!(scope.names.any λ(n,k)=>n==x&&(k==.local||k==.cell)))=_
 rw[G.scope];rfl
theorem tL(G:cZ X κ T k sc N){n i:Nat}{x:Str}{a pos:Pos}{e:Expr}{m:EM}(l:iW T sc N x=some i)(h:bW T n sc N e=some m)(c:n_ e=false)(o:pq sc x a e=true->pos.line=a.line):jV X κ Φ (.Assign [.Name x a] e pos) (aU i m):=by
 obtain⟨f,r,s⟩:=fD G l;have g:X.N.Nodup:=by rw[G.names];exact G.jT
 have E:=iq n X sc N e m G.toGoodO h;have plain:swapsWith e (some (.Name x a)) pos.line X.env=pure false->jV X κ Φ (.Assign [.Name x a] e pos) (aU i m):=λq=>tD g f r s q (E.1 Φ)
 cases e with
 |ListComp d gens scope p=>
  cases b:pq sc x a (.ListComp d gens scope p)with
  |false=>exact plain (by rw[qh G,b])
  |true=>
   cases n with
   |zero=>cases h
   |succ n=>
   cases j:iK gens with
   |none=>exact kZ j (by cases t:fc gens with|none=>rfl|some q=>rw[n_,t]at c;cases c) h
   |some q=>
    obtain⟨y,H,iter,u⟩:=q;obtain rfl:=mw j;obtain⟨I,J,K,L,cap,rfl,w,z,A,B,C,D⟩:=jI (λX sc N e m G q=>iq n X sc N e m G q) G.toGoodO h
    have F:X.env.scope.names.lookup x=some .local:=by
     rw[G.scope];unfold pq at b;simp only[Bool.and_eq_true,beq_iff_eq]at b;exact b.1.1
    exact xJ g f F (by rw[qh G,b]) G.calm w B (jD 1 (by decide)) (kT (cap:=cap) (C Φ) z A D) (o b)
 |SetComp=>cases n<;>cases h
 |DictComp=>cases n<;>cases h
 |_=>exact plain rfl
theorem rS{e:Expr}{t:Option Expr}{l:Nat}{env:Env}(h:ij e=false):swapsWith e t l env=pure false:=by
 cases e<;>first|rfl | (cases h)
theorem gU(G:cZ X κ T k sc N):∀(n:Nat) (d:Nat) (st:Stmt) (c:SM),iX T td d sc N n st=some c->jV X κ Φ st c:=by
 intro n d;have E:∀e m,bW T d sc N e=some m->jY X κ e m:=λe m q=>iq d X sc N e m G.toGoodO q
 induction n with
 |zero=>intro st c h;cases h
 |succ n ih=>
  intro st c h;have B:∀F c,cS (iX T td d sc N n) F=some c->lO X κ Φ F c:=λF c q=>dU ih q
  have Q:X.N.Nodup:=by rw[G.names];exact G.jT
  cases st with
  |Return v s=>
   cases v with
   |none=>cases h
   |some e=>
    replace h:some (match bW T d sc N e with
   |some m=>cu m
   |none=>cy)=some c:=h
    cases h;split
    .rename_i m g
     exact Bg ((E e m g).1 Φ)
    .exact mK
  |Assign ts e s=>
   cases ts with
   |nil=>cases h
   |cons t r=>
   cases r with
   |cons t2 r=>cases t<;>cases h
   |nil=>
   cases t with
   |Name x R=>
    replace h:rQ T td d sc N x R e s=some c:=h;unfold rQ at h;split at h
    .rename_i i H
     split at h
     .cases h
     rename_i w;have w:n_ e=false:=by simpa using w
     split at h
     .rename_i S
      cases h;simp only[Bool.and_eq_true]at S;obtain⟨pd,rfl⟩:=qf S.2;obtain⟨I,J,K⟩:=fD G H;exact tD Q I J K rfl mL
     .split at h
      .rename_i m U
       split at h
       .split at h
        .rename_i D hl
         cases h;exact tL G H U w λ_=>eq_of_beq hl
        .cases h
       .rename_i D
        cases h;exact tL G H U w λq=>absurd q D
      .cases h
    .cases h
   |Tuple es j p=>
    replace h:rR T d sc N es e=some c:=h;unfold rR at h;split at h
    .rename_i a0 V
     split at h
     .rename_i is m g l
      split at h
      .rename_i L
       cases h;exact Bi (yi G V g) L ((E e m l).1 Φ)
      .split at h
       .rename_i L
        cases h;cases e with
        |ListComp b0 gens scope cp=>exact xQ (yj G V g) ((E _ m l).1 Φ)
        |_=>cases L
       .cases h
     .cases h
    .cases h
   |Attribute o f p=>
    replace h:(if (ec o&&td.contains f&&yh e)=true then o2 (T.fld.lookup f) (bW T d sc N o) λz y=>eV z f y d_ else if (ec o&&!ij e)=true then o2 (T.fld.lookup f) (o2 (bW T d sc N o) (bW T d sc N e) Prod.mk) λz y=>eV z f y.1 y.2 else none)=some c:=h
    split at h
    .rename_i u
     simp only[Bool.and_eq_true]at u;obtain⟨pd,rfl⟩:=qf u.2;obtain⟨z,M,g,l,rfl⟩:=bt h;exact tG (G.fld f z g) rfl ((E o M l).1 Φ) mL
    split at h
    .rename_i u
     simp only[Bool.and_eq_true,Bool.not_eq_true']at u;obtain⟨z,y,g,l,rfl⟩:=bt h;obtain⟨M,O,A,C,rfl⟩:=bt l;exact tG (G.fld f z g) (rS u.2) ((E o M A).1 Φ) ((E e O C).1 Φ)
    .cases h
   |Subscript o i p=>
    replace h:(if (isSlice i||ij e)=true then none else o2 (bW T d sc N o) (o2 (bW T d sc N i) (bW T d sc N e) Prod.mk) λx y=>dS x y.1 y.2)=some c:=h
    split at h
    .cases h
    .rename_i u
     simp only[Bool.or_eq_true,not_or,Bool.not_eq_true]at u;obtain⟨md,y,g,l,rfl⟩:=bt h;obtain⟨mk,O,A,C,rfl⟩:=bt l;exact xZ (by have:=G.hu;omega) ((E o md g).1 Φ) ((E i mk A).1 Φ) ((E e O C).1 Φ) (rS u.2)
   |_=>cases h
  |Expr e s=>
   replace h:(if ij e=true then none else (bW T d sc N e).map gF)=some c:=h
   split at h
   .cases h
   .rename_i u
    obtain⟨m,g,rfl⟩:=cz h;exact Bh (rS (by simpa using u)) ((E e m g).1 Φ)
  |If c0 a b s=>
   obtain⟨m,y,g,l,rfl⟩:=bt h;obtain⟨ca,P,A,C,rfl⟩:=bt l;exact xM ((E c0 m g).2.1 Φ) (B a ca A) (B b P C)
  |For Y Z b e s=>
   cases e with
   |nil=>
    cases Y with
    |Name x R=>
     replace h:(if isSet Z=true then none else o2 (iW T sc N x) (o2 (fC (bW T d sc N) sc Z) (cS (iX T td d sc N n) b) Prod.mk) λi y=>hI (dR i) y.1 y.2)=some c:=h
     split at h
     .cases h
     .rename_i D
      obtain⟨i,y,g,l,rfl⟩:=bt h;obtain⟨mi,P,A,C,rfl⟩:=bt l;obtain⟨I,J,K⟩:=fD G g;exact tE G.own G.calm (oa G.toGoodO E A Φ _) (gK Q I J K) (xP i) (B b P C) (iL (by simpa using D))
    |_=>cases h
   |cons _ _=>cases Y<;>cases h
  |Raise _ _ _=>cases h;exact mK
  |_=>cases h
def bO(b:Str->Option Value):Str->Addr->Prop:=λC a=>b C=some (.ref a)
structure aY(P:Program)(w:World)(K:PySem.W.Frag)(mg:Str->Option Value)(base:Heap)(T:aK)(k:Nat):Prop where
 cM:∀x∈dN,mg x=none
 gh:∀x F,T.gh.lookup x=some F->∃(f:Addr) (fd:FuncData) (ps:List Str),mg x=some (.ref f)/\PySem.W.keepIn K (.ref f)=true/\Binds K fd ps []/\bF P w K mg base ek k f fd ps (kD F)
 fn:∀x F,T.fn.lookup x=some F->∃(f:Addr) (fd:FuncData) (ps:List Str),mg x=some (.ref f)/\PySem.W.keepIn K (.ref f)=true/\Binds K fd ps []/\bF P w K mg base ek k f fd ps (dq (bO mg) F)
 cst:∀x d,T.cst.lookup x=some d->∃v u,mg x=some u/\RelV v u/\fk d=some v
 met:∀m C F,(m,C,F)∈T.met->∃(Ca f:Addr) (fd:FuncData) (ps:List Str),CO P w K mg base (bO mg) k C m F Ca f fd ps
 cls:∀C F,T.cls.lookup C=some F->∃j,j+1<=k/\∃(Ca f:Addr) (fd:FuncData) (ps:List Str),bO mg C Ca/\Mk K Ca f/\mg C=some (.ref Ca)/\Binds K fd ps []/\bF P w K mg base ek j f fd ps (dq (bO mg) F)
 fld:∀f Cs,T.fld.lookup f=some Cs->ik K (bO mg) Cs f
 clo:∀j F,T.clo[j]?=some F->jH P w K mg base (bO mg) k j F
def cH(T:aK)(td:List Str)(st:Stmt)(N:List Str):Option SM:=cS (iX T td 60 (ae st) N 30) (ay st)
end
section
variable{P:Program}{w:World}{K:PySem.W.Frag}{mg:Str->Option Value}{base:Heap}{T:aK}{k:Nat}
theorem bq(W:aY P w K mg base T k){x qual:Str}{st:Stmt}{f:Addr}{t:FuncData}(F:vY K x qual st f t){N ps td:List Str}{c:SM}(u:bK N ps (ae st)=true)(D:cH T td st N=some c) :
    bF P w K mg base ek (k+1) f t ps (dq (bO mg) (bh N.length ps.length c)):=by
  refine F.ok (fP u) (λI H Q E h=>?_) λn A outer s H I Q E J h=>?_
  · obtain⟨e,Z,i,l,S,r,g⟩:=h
    rw[r.length];unfold bh at g;split at g
    · rename_i L;exact L
    · exact g.elim
  · obtain⟨e,Z,i,l,S,r,g⟩:=h
    have y:=fP u
    have G:cZ (cx ek P w K mg base N qual (ae st) f n A outer s H E).hP (bO mg) T k (ae st) N:=
      { scope:=rfl,names:=rfl,calm:=rfl,room:=J,cM:=W.cM,own:=PassesOwn.never,EF:=λ_ _ _=>.inl rfl,jT:=y.nd,kind:=y.kind,hP:=λ_ _ _ h=>h,fld:=W.fld,cst:=W.cst
        gh:=λx F h=>⟨W.gh x F h⟩,fn:=λx F h=>⟨W.fn x F h⟩,met:=λm C F h=>⟨W.met m C F h⟩,cls:=λC F h=>let ⟨j,M,O⟩:=W.cls C F h;⟨j,M,⟨O⟩⟩,clo:=W.clo }
    refine⟨Et (bO mg) ji e Z H c (aP N.length l) i,dU (gU G 30 60) D e Z H (aP N.length l) i,e,Z,eL S r,?_⟩;unfold bh at g;split at g
    · cases q:c (aP N.length l) i with
      |rt d a=>rw[q]at g;exact λv o b p R st r=>g v o b p R st r
      |nx z a=>rw[q]at g;exact λU o b p B=>g .non o b p B.gr B.st (aW rfl)
      |bk z a=>rw[q]at g;exact g.elim
      |ct z a=>rw[q]at g;exact g.elim
      |exc x a=>rw[q]at g;exact g
      |bad=>rw[q]at g;exact g.elim
    · exact g.elim
theorem aY.mono(W:aY P w K mg base T k){j:Nat}(h:k<=j):aY P w K mg base T j:=
 ⟨W.cM,λx F q=>let ⟨f,i,l,a,b,c,d⟩:=W.gh x F q;⟨f,i,l,a,b,c,d.mono h⟩,λx F q=>let ⟨f,i,l,a,b,c,d⟩:=W.fn x F q;⟨f,i,l,a,b,c,d.mono h⟩,W.cst,
  λm C F q=>let ⟨o,f,i,l,a,b,c,p,n,r,F1,d,d1,d2,e,g⟩:=W.met m C F q;⟨o,f,i,l,a,b,c,p,n,r,F1,d,d1,d2,e.mono h,g⟩,λC F q=>let ⟨s,t,u⟩:=W.cls C F q;⟨s,Nat.le_trans t h,u⟩,W.fld,λj F q=>(W.clo j F q).mono h⟩
end
noncomputable def aK.jP(T:aK)(x:Str)(F:List D->Out Rs):aK:={T with gh:=(x,F)::T.gh}
noncomputable def aK.dW(T:aK)(x:Str)(F:b_):aK:={T with fn:=(x,F)::T.fn}
noncomputable def aK.hJ(T:aK)(C m:Str)(F:b_):aK:={T with met:=(m,C,F)::T.met}
noncomputable def aK.Bp(T:aK)(C:Str)(F:b_):aK:={T with cls:=(C,F)::T.cls}
def aK.qj(T:aK)(f:Str)(Cs:List Str):aK:={T with fld:=(f,Cs)::T.fld}
noncomputable def aK.Bq(T:aK)(x:Str)(d:D):aK:={T with cst:=(x,d)::T.cst}
theorem fE{a:Type}{x y:Str}{F G:a}{l:List (Str×a)}(h:((x,F)::l).lookup y=some G):(y=x/\G=F)\/l.lookup y=some G:=by
 rw[List.lookup_cons]at h;cases e:y==x with
 |true=>rw[e]at h;cases h;exact .inl ⟨eq_of_beq e,rfl⟩
 |false=>rw[e]at h;exact .inr h
section
variable{P:Program}{w:World}{K:PySem.W.Frag}{mg:Str->Option Value}{base:Heap}{T:aK}{k:Nat}
theorem aY.start(a:∀x∈dN,mg x=none):aY P w K mg base {} 0:=
 ⟨a,λx F h=>(by cases h),λx F h=>(by cases h),λx d h=>(by cases h),λm C F h=>(by cases h),λC F h=>(by cases h),λf b h=>(by cases h),λj F h=>(by cases h)⟩
theorem aY.jP(W:aY P w K mg base T k){x:Str}{F:List D->Out Rs}{f:Addr}{a:FuncData}{ps:List Str}{j:Nat}(b:mg x=some (.ref f))(c:PySem.W.keepIn K (.ref f)=true)(d:Binds K a ps [])(h:bF P w K mg base ek j f a ps (kD F))(e:j<=k) :
  aY P w K mg base (T.jP x F) k:=
 ⟨W.cM,λy G q=>by
  rcases fE q with ⟨rfl,rfl⟩|q
  .exact⟨f,a,ps,b,c,d,h.mono e⟩
  .exact W.gh y G q,W.fn,W.cst,W.met,W.cls,W.fld,W.clo⟩
theorem aY.dW(W:aY P w K mg base T k){x:Str}{F:b_}{f:Addr}{b:FuncData}{ps:List Str}(c:mg x=some (.ref f))(d:PySem.W.keepIn K (.ref f)=true)(e:Binds K b ps [])(h:bF P w K mg base ek (k+1) f b ps (dq (bO mg) F)) :
  aY P w K mg base (T.dW x F) (k+1):=by
 have a:=W.mono (Nat.le_succ k)
 exact⟨a.cM,a.gh,λy G q=>by
  rcases fE q with ⟨rfl,rfl⟩|q
  .exact⟨f,b,ps,c,d,e,h⟩
  .exact a.fn y G q,a.cst,a.met,a.cls,a.fld,a.clo⟩
theorem aY.hJ(W:aY P w K mg base T k){C m:Str}{F:b_}{c f:Addr}{e:FuncData}{ps:List Str}(g:mg C=some (.ref c))(cl:lW K c)(M:Meth K c m f)(i:Binds K e ps [])(h:bF P w K mg base ek (k+1) f e ps (dq (bO mg) F)) :
  aY P w K mg base (T.hJ C m F) (k+1):=by
 have b:=W.mono (Nat.le_succ k)
 exact⟨b.cM,b.gh,b.fn,b.cst,λj l G q=>by
  rcases List.mem_cons.mp q with q|q
  .cases q
   refine⟨c,f,e,ps,λa d=>?_,cl,M,[],[],[],F,i,.nil,λ_ _ _=>.nil,h,by funext n;rw[List.append_nil]⟩
   have d:mg C=some (.ref a):=d;rw[g]at d;cases d;rfl
  .exact b.met j l G q,b.cls,b.fld,b.clo⟩
theorem aY.Bp(W:aY P w K mg base T k){C:Str}{F:b_}{b f:Addr}{c:FuncData}{ps:List Str}{j:Nat}(d:mg C=some (.ref b))(M:Mk K b f)(e:Binds K c ps [])(h:bF P w K mg base ek j f c ps (dq (bO mg) F))(g:j<=k) :
  aY P w K mg base (T.Bp C F) (k+1):=by
 have a:=W.mono (Nat.le_succ k)
 exact⟨a.cM,a.gh,a.fn,a.cst,a.met,λy G q=>by
  rcases fE q with ⟨rfl,rfl⟩|q
  .exact⟨j,by omega,b,f,c,ps,d,M,d,e,h⟩
  .exact a.cls y G q,a.fld,a.clo⟩
theorem aY.qj(W:aY P w K mg base T k){f:Str}{Cs:List Str}(h:ik K (bO mg) Cs f):aY P w K mg base (T.qj f Cs) k:=
 ⟨W.cM,W.gh,W.fn,W.cst,W.met,W.cls,λy G q=>by
  rcases fE q with ⟨rfl,rfl⟩|q
  .exact h
  .exact W.fld y G q,W.clo⟩
theorem aY.Bq(W:aY P w K mg base T k){x:Str}{d:D}{v:V}{u:Value}(a:mg x=some u)(b:RelV v u)(c:fk d=some v):aY P w K mg base (T.Bq x d) k:=
 ⟨W.cM,W.gh,W.fn,λy G q=>by
  rcases fE q with ⟨rfl,rfl⟩|q
  .exact⟨v,u,a,b,c⟩
  .exact W.cst y G q,W.met,W.cls,W.fld,W.clo⟩
theorem plain1{C f:Str}{c:Addr}(g:mg C=some (.ref c))(cl:lW K c)(n:PySem.W.findIn K (.ref c) f=some none):ik K (bO mg) [C] f:=λe a d b=>by
 have d:e=C:=by simpa using d
 subst d;have b:mg e=some (.ref a):=b;rw[g]at b;cases b;exact⟨cl,n⟩
end
end Mir
namespace Mir
open PySem
@[simp] theorem Hm:jM .non=some false:=rfl
@[simp] theorem Br{b:Bool}:jM (.bl b)=some b:=rfl
@[simp] theorem Hn{i:Int}:jM (.int i)=some (i != 0):=rfl
@[simp] theorem Ho{xs:List D}:jM (.lst xs)=some (!xs.isEmpty):=rfl
@[simp] theorem Hq{xs:List D}:jM (.tup xs)=some (!xs.isEmpty):=rfl
section
variable{Γ:lH}{ρ:zW}{a b:Pe}{e:Ex}{i j:Nat}{bw:Bool}
end
section
variable{bw:Bool}{i:Nat}{a b c es:Ex}
end
section
variable{Γ:lH}{ρ:zW}{bw:Bool}{i:Nat}{a b c es:Ex}
def z_(o:Bool)(f:List D->D):D->Out Rs
 |.tup ds=>if small ds.length=true then .ok (o,f ds)else .bad
 |_=>.bad
@[simp] theorem Hr{o:Bool}{f:List D->D}{ds:List D}:z_ o f (.tup ds)=if small ds.length=true then .ok (o,f ds)else .bad:=rfl
end
@[simp] theorem JN{i j:Int}:dk .Add (.int i) (.int j)=.ok (false,.int (i+j)):=rfl
@[simp] theorem JO{i j:Int}:dk .Sub (.int i) (.int j)=.ok (false,.int (i - j)):=rfl
@[simp] theorem JP{i j:Int}:dk .Mult (.int i) (.int j)=if (g_ i||g_ j)=true then .ok (false,.int (i*j))else .bad:=rfl
@[simp] theorem JQ{i j:Int}:dk .FloorDiv (.int i) (.int j)=if (decide (0<j)&&decide (j<1073741824))=true then .ok (false,.int (i / j))else .bad:=rfl
@[simp] theorem JR{i j:Int}:dk .Mod (.int i) (.int j)=if decide (0<j)=true then .ok (false,.int (i%j))else .bad:=rfl
@[simp] theorem JS{i j:Int}:dk .Pow (.int i) (.int j)=if (decide (0<=j)&&decide (j<=1000)&&decide (i.natAbs<2 ^ 64))=true then .ok (false,.int (i ^ j.toNat))else .bad:=rfl
@[simp] theorem Hs{i j:Str}:dk .Add (.str i) (.str j)=if small (i.length+j.length)=true then .ok (false,.str (i++j))else .bad:=rfl
@[simp] theorem Ht{i j:List D}:dk .Add (.lst i) (.lst j)=if small (i.length+j.length)=true then .ok (true,.lst (i++j))else .bad:=rfl
@[simp] theorem LO{x y:D}:bN .Eq x y=if (aH 8 x&&aH 8 y)=true then .ok (du x y)else .bad:=rfl
@[simp] theorem LP{x y:D}:bN .NotEq x y=if (aH 8 x&&aH 8 y)=true then .ok (!du x y)else .bad:=rfl
@[simp] theorem LQ{i j:Int}:bN .Lt (.int i) (.int j)=.ok (decide (i<j)):=rfl
@[simp] theorem LR{i j:Int}:bN .LtE (.int i) (.int j)=.ok (decide (i<=j)):=rfl
@[simp] theorem cmp_gt{i j:Int}:bN .Gt (.int i) (.int j)=.ok (decide (j<i)):=rfl
@[simp] theorem LS{i j:Int}:bN .GtE (.int i) (.int j)=.ok (decide (j<=i)):=rfl
@[simp] theorem LU{x y:D}:bN .In x y=inD x y:=rfl
@[simp] theorem JT{x y:D}:bN .NotIn x y=inD x y >>= λb=>.ok (!b):=rfl
@[simp] theorem LV{x y:D}:bN .Is x y=isD x y:=rfl
@[simp] theorem JU{x y:D}:bN .IsNot x y=isD x y >>= λb=>.ok (!b):=rfl
@[simp] theorem LW{n:Nat}:aH n .non=true:=by cases n<;>rfl
@[simp] theorem Pm{n:Nat}{b:Bool}:aH n (.bl b)=true:=by cases n<;>rfl
@[simp] theorem LX{n:Nat}{i:Int}:aH n (.int i)=true:=by cases n<;>rfl
@[simp] theorem LY{n:Nat}{x:Str}:aH n (.str x)=true:=by cases n<;>rfl
@[simp] theorem LZ{n:Nat}{xs:List D}:aH (n+1) (.lst xs)=xs.all (aH n):=rfl
@[simp] theorem L_{n:Nat}{xs:List D}:aH (n+1) (.tup xs)=xs.all (aH n):=rfl
@[simp] theorem eq_int{i j:Int}:du (.int i) (.int j)=(i==j):=rfl
@[simp] theorem Pn{i j:Bool}:du (.bl i) (.bl j)=(i==j):=rfl
@[simp] theorem eq_str{i j:Str}:du (.str i) (.str j)=(i==j):=rfl
@[simp] theorem Ma{i j:List D}:du (.lst i) (.lst j)=eZ i j:=rfl
@[simp] theorem Mb{i j:List D}:du (.tup i) (.tup j)=eZ i j:=rfl
@[simp] theorem JV:eZ [] []=true:=rfl
@[simp] theorem Hu{x y:D}{xs a:List D}:eZ (x::xs) (y::a)=(du x y&&eZ xs a):=rfl
@[simp] theorem Mc{y:D}{a:List D}:eZ [] (y::a)=false:=rfl
@[simp] theorem Md{y:D}{a:List D}:eZ (y::a) []=false:=rfl
theorem Bs{z:Str}{i:Int}{c:Nat}(h:small z.length=true)(e:L2.gN z.cps.toList i=some c):ko (.str z) (.int i)=.ok (false,.str (aR c)):=by
 simp only[ko,h,if_pos,e]
@[simp] theorem JW{xs:List D}{l h:Option Int}:wJ (.lst xs) l h=.ok (true,.lst (cE xs l h)):=rfl
@[simp] theorem JX{z:Str}{l h:Option Int}:wJ (.str z) l h=if small z.length=true then .ok (false,.str ⟨(cE z.cps.toList l h).toArray⟩)else .bad:=rfl
@[simp] theorem JY{xs:List D}:iJ .len (.tup [.lst xs])=.ok (false,.int xs.length):=rfl
@[simp] theorem JZ{xs:List D}:iJ .len (.tup [.tup xs])=.ok (false,.int xs.length):=rfl
@[simp] theorem len_str{z:Str}:iJ .len (.tup [.str z])=if small z.length=true then .ok (false,.int z.length)else .bad:=rfl
def Bt(f:List Bool->Bool):Option (List Bool)->Out Rs
 |some bs=>.ok (false,.bl (f bs))
 |none=>.bad
@[simp] theorem FO{f:List Bool->Bool}{bs:List Bool}:Bt f (some bs)=.ok (false,.bl (f bs)):=rfl
@[simp] theorem J_{xs:List D}:iJ .all (.tup [.lst xs])=Bt (λbs=>bs.all id) (ic xs):=rfl
@[simp] theorem Ka{xs:List D}:iJ .any (.tup [.lst xs])=Bt (λbs=>bs.any id) (ic xs):=rfl
@[simp] theorem Hv{xs:List D}:iJ .list (.tup [.lst xs])=.ok (true,.lst xs):=rfl
@[simp] theorem Hw{xs:List D}:iJ .list (.tup [.tup xs])=.ok (true,.lst xs):=rfl
@[simp] theorem FP{xs:List D}:iJ .tuple (.tup [.lst xs])=.ok (false,.tup xs):=rfl
@[simp] theorem FQ{xs:List D}:iJ .tuple (.tup [.tup xs])=.ok (false,.tup xs):=rfl
@[simp] theorem int_int{i:Int}:iJ .int (.tup [.int i])=.ok (false,.int i):=rfl
@[simp] theorem Me{k:Bool}:iJ .int (.tup [.bl k])=.ok (false,.int (if k then 1 else 0)):=rfl
@[simp] theorem Kb{i j:Int}:iJ .min (.tup [.int i,.int j])=.ok (false,.int (if j<i then j else i)):=rfl
@[simp] theorem Kc{i j:Int}:iJ .max (.tup [.int i,.int j])=.ok (false,.int (if j>i then j else i)):=rfl
@[simp] theorem Mf{t:Ty}:oH .non t=some false:=rfl
@[simp] theorem Po{t:Ty}{b:Bool}:oH (.bl b) t=some (t==.bool||t==.int):=rfl
@[simp] theorem ty_int{t:Ty}{i:Int}:oH (.int i) t=some (t==.int):=rfl
@[simp] theorem ty_str{t:Ty}{x:Str}:oH (.str x) t=some (t==.str):=rfl
@[simp] theorem Mg{t:Ty}{xs:List D}:oH (.lst xs) t=some (t==.list):=rfl
@[simp] theorem Mh{t:Ty}{xs:List D}:oH (.tup xs) t=some (t==.tuple):=rfl
@[simp] theorem Mi{t:Ty}{a:List L2.Key}{xs:List D}:oH (.dct a xs) t=some (t==.dict):=rfl
theorem az{n:Nat}(h:n<=100000):small n=true:=by
 unfold small;rw[decide_eq_true_eq,sizeLine_eq];omega
theorem dI{i:Int}(a : -(2 ^ 64)<i)(b:i<2 ^ 64):g_ i=true:=decide_eq_true (by omega)
theorem gW{i:Int}(a : -(2 ^ 62)<i)(b:i<2 ^ 62):jN i=true:=decide_eq_true (by omega)
theorem yk{b:Type}{xs:List b}{i:Int}(c:0<=i)(d:i<xs.length):∃x,x∈xs/\L2.gN xs i=some x:=by
 have a:i.toNat<xs.length:=by omega
 refine⟨xs[i.toNat],List.getElem_mem a,?_⟩;have h:=L2.gO (List.getElem?_eq_getElem a);rw[show(i.toNat:Int)=i by omega]at h
 exact h
theorem tM{a:Type}{p:a->Bool}:∀{xs:List a},ic (xs.map λx=>.bl (p x))=some (xs.map p)
 |[]=>rfl
 |x::xs=>by simp only[List.map_cons,ic,Br,tM]
@[simp] theorem in_str{x y:Str}:inD (.str x) (.str y)=.ok (CD x y):=rfl
theorem cY(n:Nat):∀a:Int,(intsFrom a n).length=n:=by
 induction n with
 |zero=>intro a;rfl
 |succ n b=>intro a;simp[intsFrom,b]
theorem gX{n:Nat}:∀{a:Int}{i:Nat}{d:D},(intsFrom a n)[i]?=some d->d=.int (a+i)/\i<n:=by
 induction n with
 |zero=>intro a i d h;simp[intsFrom]at h
 |succ n b=>
  intro a i d h;cases i with
  |zero=>simp[intsFrom]at h;subst h;exact⟨by simp,by omega⟩
  |succ i=>
   simp[intsFrom]at h;obtain⟨c,e⟩:=b h;exact⟨by rw[c];congr 1;omega,by omega⟩
noncomputable def L1(xs:List Str):D:=.lst (xs.map .str)
theorem EG{a:Type}(xs:List a)(k:Nat):cE xs none (some (k:Int))=xs.take k:=by
 unfold cE;rw[HT.wz,HT.zP,List.drop_zero,Nat.sub_zero];rcases Nat.le_total k xs.length with h|h
 .rw[Nat.min_eq_left h]
 .rw[Nat.min_eq_right h,List.take_of_length_le (Nat.le_refl _),List.take_of_length_le h]
theorem Bu(n:Nat)(xs:List Str):(xs.map D.str).all (aH n)=true:=by
 rw[List.all_eq_true];intro d a;obtain⟨x,_,rfl⟩:=List.mem_map.mp a;simp
theorem Hx(n:Nat)(xs:List Str):aH (n+1) (L1 xs)=true:=Bu n xs
noncomputable def freeOf(a:List (List Str)):List Str->Option Str
 |[]=>none
 |n::_=>if ∃t∈a,n∈t.tail then none else some n
def free(a:List (List Str)):Option Str:=a.findSome? (freeOf a)
@[simp] theorem Mj{x:Str}:isD (.str x) .non=.ok false:=rfl
@[simp] theorem Kd:isD .non .non=.ok true:=rfl
@[simp] theorem Ml{x:Int}:isD (.int x) .non=.ok false:=rfl
@[simp] theorem Mm{x:List D}:isD (.lst x) .non=.ok false:=rfl
abbrev Fn:=List D->Out Rs
noncomputable def SC(ns:List Int):D:=.lst (ns.map .int)
theorem ints_map(a:Int)(n:Nat):intsFrom a n=(List.range n).map λ(i:Nat)=>D.int (a+i):=by
 apply List.ext_getElem?;intro i
 by_cases h:i<n
 .have b:i<(intsFrom a n).length:=by rw[cY];exact h
  have e:=(gX (List.getElem?_eq_getElem b)).1;rw[List.getElem?_eq_getElem b,e];simp[h]
 .rw[List.getElem?_eq_none (by rw[cY];omega),List.getElem?_eq_none (by simp;omega)]
noncomputable def abc:Str:="abcdefghijklmnopqrstuvwxyz"
theorem EH:∀q:Nat,q<26->abc.cps.toList[q]?=some (97+q):=by decide
theorem tN{q:Int}(a:0<=q)(b:q<26):ko (.str abc) (.int q)=.ok (false,.str (aR (97+q.toNat))):=by
 refine Bs (az (by decide)) ?_
 have:=L2.gO (EH q.toNat (by omega))
 rwa[show((q.toNat:Nat):Int)=q by omega]at this
noncomputable def bs(a:Int->Int->Int->Int)(c:Int):List D:=(List.range 8).map λ(i:Nat)=>.int (a c i 26)
section
variable{Γ:lH}{M:Fn}{μ:Int->Int->Int->Int}{c:Int}{m:Nat}
end
section
variable{Γ:lH}
noncomputable def behind(a:List (List Str)):List Str:=a.flatMap List.tail
end
@[simp] theorem Ke{xs:List Str}:iJ .list (.tup [L1 xs])=.ok (true,L1 xs):=rfl
@[simp] theorem Pp{xs:List Str}{t:Ty}:oH (L1 xs) t=some (t==.list):=rfl
@[simp] theorem Pq{a b:Bool}:isD (.bl a) (.bl b)=.ok (a==b):=rfl
open L2
section
variable{α β:Type}{Ω aD:aI}{ρ:aS}{d x y:D}{ma mb mc mi:EM}{as:AM}{a b:SM}
@[simp] theorem hZ{a:α}{f:α->aI->av β}:(av.ok a Ω).bind f=f a Ω:=rfl
@[simp] theorem Mn{f:α->aI->av β}:(av.exc x Ω:av α).bind f=.exc x Ω:=rfl
@[simp] theorem Mo{f:α->aI->av β}:(av.bad:av α).bind f=.bad:=rfl
@[simp] theorem jJ{a:α}{k:α->aI->fS}:cF (.ok a Ω) k=k a Ω:=rfl
@[simp] theorem Mp{k:α->aI->fS}:cF (.exc x Ω:av α) k=.exc x Ω:=rfl
@[simp] theorem Mq{k:α->aI->fS}:cF (.bad:av α) k=.bad:=rfl
@[simp] theorem Pr{b:av D}:nM (.ok d Ω) b=.ok d Ω:=rfl
@[simp] theorem Mr{b:av D}:nM (.exc d Ω) b=.exc d Ω:=rfl
@[simp] theorem Ms{b:av D}:nM .bad b=b:=rfl
@[simp] theorem Hy{f:D->aI->av D}:m1 f ma ρ Ω=(ma ρ Ω).bind f:=rfl
@[simp] theorem CS{f:D->D->aI->av D}:m2 f ma mb ρ Ω=(ma ρ Ω).bind λx a=>(mb ρ a).bind λy b=>f x y b:=rfl
@[simp] theorem qk{f:List D->aI->av D}:mN f as ρ Ω=(as ρ Ω).bind f:=rfl
@[simp] theorem fT:aq ρ Ω=.ok [] Ω:=rfl
@[simp] theorem dX:aa ma as ρ Ω=(ma ρ Ω).bind λx a=>(as ρ a).bind λxs b=>.ok (x::xs) b:=rfl
noncomputable def vr:Option (Option D)->aI->av D
 |some (some d),Ω=>.ok d Ω
 |_,_=>.bad
@[simp] theorem Kf:vr (some (some d)) Ω=.ok d Ω:=rfl
@[simp] theorem iY{i:Nat}:af i ρ Ω=vr ρ[i]? Ω:=by
 unfold af;cases ρ[i]? with
 |none=>rfl
 |some o=>cases o<;>rfl
@[simp] theorem tP:ag d ρ Ω=.ok d Ω:=rfl
@[simp] theorem tQ{c:Cell}:iM Ω c=.ok (.ref Ω.length) (Ω++[c]):=rfl
noncomputable def tb(Ω:aI):Option Bool->av Bool
 |some b=>.ok b Ω
 |none=>.bad
@[simp] theorem Kg{t:Bool}:tb Ω (some t)=.ok t Ω:=rfl
@[simp] theorem Kh:eF (.ok d Ω)=tb Ω (iO Ω d):=by simp only[eF];cases iO Ω d<;>rfl
@[simp] theorem Bv{t:Bool}:iO Ω (.bl t)=some t:=rfl
@[simp] theorem Hz:iO Ω .non=some false:=rfl
@[simp] theorem HD{i:Int}:iO Ω (.int i)=some (i != 0):=rfl
noncomputable def Gg(t:Option Bool)(a b:av D):av D:=match t with
 |some true=>a
 |some false=>b
 |none=>.bad
@[simp] theorem Pt{a b:av D}:Mir.Gg (some true) a b=a:=rfl
@[simp] theorem HE{a b:av D}:Mir.Gg (some false) a b=b:=rfl
@[simp] theorem Bw:fQ ma mb ρ Ω=(ma ρ Ω).bind λx a=>Mir.Gg (iO a x) (mb ρ a) (.ok x a):=by
 unfold fQ;cases ma ρ Ω with
 |ok x a=>
  simp only[hZ];cases iO a x with
  |none=>rfl
  |some t=>cases t<;>rfl
 |exc x a=>rfl
 |bad=>rfl
@[simp] theorem EJ:vd ma mb ρ Ω=(ma ρ Ω).bind λx a=>Mir.Gg (iO a x) (.ok x a) (mb ρ a):=by
 unfold vd;cases ma ρ Ω with
 |ok x a=>
  simp only[hZ];cases iO a x with
  |none=>rfl
  |some t=>cases t<;>rfl
 |exc x a=>rfl
 |bad=>rfl
@[simp] theorem Ki:gf ma ρ Ω=(eF (ma ρ Ω)).bind λt a=>.ok (.bl (!t)) a:=rfl
@[simp] theorem Kj{f g:D->aI->av D}:Ee f g x Ω=nM (f x Ω) (g x Ω):=rfl
@[simp] theorem dJ{f g:D->D->aI->av D}:uX f g x y Ω=nM (f x y Ω) (g x y Ω):=rfl
@[simp] theorem tR{f g:List D->aI->av D}{xs:List D}:pH f g xs Ω=nM (f xs Ω) (g xs Ω):=rfl
@[simp] theorem Kk{f g:EM}:lJ f g ρ Ω=nM (f ρ Ω) (g ρ Ω):=rfl
@[simp] theorem Kl{n:Nat}:dE Ω n .non=some .non:=by cases n<;>rfl
@[simp] theorem EK{n:Nat}{t:Bool}:dE Ω n (.bl t)=some (.bl t):=by cases n<;>rfl
@[simp] theorem Bx{n:Nat}{i:Int}:dE Ω n (.int i)=some (.int i):=by cases n<;>rfl
@[simp] theorem tS{n:Nat}{z:Str}:dE Ω n (.str z)=some (.str z):=by cases n<;>rfl
@[simp] theorem Mt{f:α->Option β}:bH f []=some []:=rfl
noncomputable def oc:Option α->Option (List α)->Option (List α)
 |some y,some ys=>some (y::ys)
 |_,_=>none
@[simp] theorem Km{y:α}{a:List α}:oc (some y) (some a)=some (y::a):=rfl
@[simp] theorem og{f:α->Option β}{x:α}{xs:List α}:bH f (x::xs)=oc (f x) (bH f xs):=by
 simp only[bH];cases f x<;>cases bH f xs<;>rfl
theorem la{a:Type}{f:β->Option a}{g:α->β}{h:α->a}(e:∀x,f (g x)=some (h x)):∀xs:List α,bH f (xs.map g)=some (xs.map h)
 |[]=>rfl
 |x::xs=>by rw[List.map_cons,og,e,la e xs];rfl
@[simp] theorem By{n:Nat}{xs:List Str}:bH (dE Ω n) (xs.map .str)=some (xs.map .str):=la (λ_=>tS) xs
@[simp] theorem Bz{n:Nat}{xs:List Int}:bH (dE Ω n) (xs.map .int)=some (xs.map .int):=la (λ_=>Bx) xs
theorem BA{n:Nat}{ds es:List D}(h:bH (dE Ω n) ds=some es):dE Ω (n+1) (.lst ds)=some (.lst es):=by simp only[dE,h,Option.map_some]
theorem BB{n:Nat}{ds es:List D}(h:bH (dE Ω n) ds=some es):dE Ω (n+1) (.tup ds)=some (.tup es):=by simp only[dE,h,Option.map_some]
theorem fU{n k:Nat}{ds es:List D}(a:Ω[k]?=some (.lst ds))(h:bH (dE Ω n) ds=some es):dE Ω (n+1) (.ref k)=some (.lst es):=by simp only[dE,a,h,Option.map_some]
theorem ql{n k:Nat}{xs:List Str}(a:Ω[k]?=some (.lst (xs.map .str))):dE Ω (n+1) (.ref k)=some (L1 xs):=fU a By
@[simp] theorem Mu{n:Nat}{ns:List Int}:dE Ω (n+1) (SC ns)=some (SC ns):=BA Bz
@[simp] theorem Kn{o:Bool}{i:Int}:fv Ω (.ok (o,.int i))=.ok (.int i) Ω:=rfl
@[simp] theorem EO{o:Bool}{t:Bool}:fv Ω (.ok (o,.bl t))=.ok (.bl t) Ω:=rfl
@[simp] theorem BC{o:Bool}{z:Str}:fv Ω (.ok (o,.str z))=.ok (.str z) Ω:=rfl
@[simp] theorem Ko{o:Bool}:fv Ω (.ok (o,.non))=.ok .non Ω:=rfl
@[simp] theorem Kp:fv Ω .bad=.bad:=rfl
def vN(Ω:aI)(f:List D->Out Rs):Option (List D)->av D
 |some ds=>fv Ω (f ds)
 |none=>.bad
@[simp] theorem BD{f:List D->Out Rs}{ds:List D}:vN Ω f (some ds)=fv Ω (f ds):=rfl
@[simp] theorem j_{f:List D->Out Rs}{xs:List D}:bZ f xs Ω=vN Ω f (bH (dE Ω 8) xs):=by unfold bZ;cases bH (dE Ω 8) xs<;>rfl
def v1(Ω:aI)(f:D->Out Rs):Option D->av D
 |some d=>fv Ω (f d)
 |none=>.bad
@[simp] theorem Kq{f:D->Out Rs}:v1 Ω f (some d)=fv Ω (f d):=rfl
@[simp] theorem Kr{f:D->Out Rs}:uY f x Ω=v1 Ω f (dE Ω 8 x):=by unfold uY;cases dE Ω 8 x<;>rfl
def v2(Ω:aI)(f:D->D->Out Rs):Option D->Option D->av D
 |some d,some e=>fv Ω (f d e)
 |_,_=>.bad
@[simp] theorem oh{f:D->D->Out Rs}{e:D}:v2 Ω f (some d) (some e)=fv Ω (f d e):=rfl
@[simp] theorem oi{f:D->D->Out Rs}:gb f x y Ω=v2 Ω f (dE Ω 8 x) (dE Ω 8 y):=by unfold gb;cases dE Ω 8 x<;>cases dE Ω 8 y<;>rfl
@[simp] theorem HF{z:Str}:xu .len [.str z]=if small z.length=true then .ok (false,.int z.length)else .bad:=rfl
@[simp] theorem ym{xs:List D}:xu .all [.lst xs]=Bt (λbs=>bs.all id) (ic xs):=rfl
@[simp] theorem HG{i j:Int}:xu .min [.int i,.int j]=.ok (false,.int (if j<i then j else i)):=rfl
@[simp] theorem HH{i j:Int}:xu .max [.int i,.int j]=.ok (false,.int (if j>i then j else i)):=rfl
@[simp] theorem HI{F:b_}{xs:List D}:cm F xs Ω=FN (F xs Ω):=rfl
@[simp] theorem Mv:FN (.ok d Ω)=.ok d Ω:=rfl
@[simp] theorem tT{op:CmpOp}:eH op x y Ω=v2 Ω (λx y=>do let r ←bN op x y;Out.ok (false,D.bl r)) (dE Ω 8 x) (dE Ω 8 y):=by unfold eH;rw[oi]
@[simp] theorem oj:bg .Eq x y Ω=eH .Eq x y Ω:=rfl
@[simp] theorem om:bg .NotEq x y Ω=eH .NotEq x y Ω:=rfl
@[simp] theorem Ks:bg .Lt x y Ω=eH .Lt x y Ω:=rfl
@[simp] theorem Kt:bg .LtE x y Ω=eH .LtE x y Ω:=rfl
@[simp] theorem Ku:bg .Gt x y Ω=eH .Gt x y Ω:=rfl
@[simp] theorem Kv:bg .GtE x y Ω=eH .GtE x y Ω:=rfl
@[simp] theorem Kw:bg .In x y Ω=eH .In x y Ω:=rfl
@[simp] theorem ER:bg .NotIn x y Ω=eH .NotIn x y Ω:=rfl
@[simp] theorem Kx:bg .Is x y Ω=eH .Is x y Ω:=rfl
@[simp] theorem ES:bg .IsNot x y Ω=eH .IsNot x y Ω:=rfl
@[simp] theorem qm:aJ .Add x y Ω=nM (rC x y Ω) (gb (dk .Add) x y Ω):=rfl
@[simp] theorem HJ:aJ .Sub x y Ω=gb (dk .Sub) x y Ω:=rfl
@[simp] theorem FR:aJ .Mult x y Ω=gb (dk .Mult) x y Ω:=rfl
@[simp] theorem HK:aJ .Mod x y Ω=gb (dk .Mod) x y Ω:=rfl
@[simp] theorem Ky:aJ .FloorDiv x y Ω=gb (dk .FloorDiv) x y Ω:=rfl
@[simp] theorem Kz{i:Int}:cN Ω (.int i)=none:=rfl
@[simp] theorem KA{z:Str}:cN Ω (.str z)=none:=rfl
@[simp] theorem KC{ds:List D}:cN Ω (.tup ds)=none:=rfl
@[simp] theorem KD{ds:List D}:cN Ω (.lst ds)=some ds:=rfl
theorem bf{k:Nat}{ds:List D}(h:Ω[k]?=some (.lst ds)):cN Ω (.ref k)=some ds:=by simp only[cN,h]
theorem tU{k:Nat}{ds:List D}(h:Ω[k]?=some (.lst ds)):vw Ω (.ref k)=some (k,ds):=by simp only[vw,h]
theorem fV{k:Nat}{C:Str}{fs:List (Str×D)}(h:Ω[k]?=some (.ins C fs)):lP Ω (.ref k)=some (k,C,fs):=by simp only[lP,h]
def ct(Ω:aI):Option (List D)->Option (List D)->av D
 |some xs,some ys=>if small (xs.length+ys.length)then .ok (.ref Ω.length) (Ω++[.lst (xs++ys)])else .bad
 |_,_=>.bad
@[simp] theorem tV{xs a:List D}:ct Ω (some xs) (some a)=if small (xs.length+a.length)then .ok (.ref Ω.length) (Ω++[.lst (xs++a)])else .bad:=rfl
@[simp] theorem Pu{o:Option (List D)}:ct Ω none o=.bad:=rfl
@[simp] theorem BE:rC x y Ω=ct Ω (cN Ω x) (cN Ω y):=by unfold rC;cases cN Ω x<;>cases cN Ω y<;>rfl
@[simp] theorem BF{ds:List D}:fw Ω (.tup ds)=some ds:=rfl
@[simp] theorem cf{k:Nat}:fw Ω (.ref k)=cN Ω (.ref k):=rfl
@[simp] theorem KG{ds:List D}:fw Ω (.lst ds)=some ds:=rfl
def ixs(Ω:aI):Option (List D)->D->av D
 |some ds,.int i=>match L2.gN ds i with
  |some d=>.ok d Ω
  |none=>.bad
 |_,_=>.bad
theorem gY:Ax x y Ω=ixs Ω (fw Ω x) y:=by unfold Ax;cases fw Ω x<;>cases y<;>rfl
theorem rT{ds:List D}{i:Int}(h:L2.gN ds i=some d):ixs Ω (some ds) (.int i)=.ok d Ω:=by simp only[ixs,h]
theorem cg{k:Nat}{ds:List D}{i:Int}(h:Ω[k]?=some (.lst ds))(a:L2.gN ds i=some d):aZ (.ref k) (.int i) Ω=.ok d Ω:=by
 unfold aZ;rw[dJ,gY,cf,bf h,rT a];rfl
theorem fF{ds:List D}{i:Int}(a:L2.gN ds i=some d):aZ (.tup ds) (.int i) Ω=.ok d Ω:=by
 unfold aZ;rw[dJ,gY,BF,rT a];rfl
@[simp] theorem KH{xs:List D}:dm xs Ω=if small xs.length then .ok (.ref Ω.length) (Ω++[.lst xs])else .bad:=rfl
@[simp] theorem KI{xs:List D}:lK xs Ω=if small xs.length then .ok (.tup xs) Ω else .bad:=rfl
def fl(Ω:aI)(Cs:List Str)(f:Str):Option (Nat×Str×List (Str×D))->av D
 |some (_,C,fs)=>if Cs.contains C then (match fs.lookup f with
  |some d=>.ok d Ω
  |none=>.bad)else .bad
 |none=>.bad
theorem tW{Cs:List Str}{f C:Str}{k:Nat}{fs:List (Str×D)}(h:Ω[k]?=some (.ins C fs))(a:Cs.contains C=true)(b:fs.lookup f=some d):kW Cs f (.ref k) Ω=.ok d Ω:=by
 unfold kW;rw[fV h];simp only[a,if_true,b]
noncomputable def sq(r:fS)(b:SM):fS:=match r with
 |.nx a c=>b a c
 |r=>r
@[simp] theorem aQ:sq (.nx ρ Ω) b=b ρ Ω:=rfl
@[simp] theorem Pw:sq (.rt d Ω) b=.rt d Ω:=rfl
@[simp] theorem Px:sq (.bk ρ Ω) b=.bk ρ Ω:=rfl
@[simp] theorem Py:sq (.ct ρ Ω) b=.ct ρ Ω:=rfl
@[simp] theorem Mw:sq (.exc d Ω) b=.exc d Ω:=rfl
@[simp] theorem Mx:sq .bad b=.bad:=rfl
@[simp] theorem ax:ao a b ρ Ω=sq (a ρ Ω) b:=by unfold ao;cases a ρ Ω<;>rfl
@[simp] theorem HL:au ρ Ω=.nx ρ Ω:=rfl
@[simp] theorem ka{i:Nat}:aU i ma ρ Ω=cF (ma ρ Ω) λd a=>.nx (ρ.set i (some d)) a:=rfl
@[simp] theorem tX:gF ma ρ Ω=cF (ma ρ Ω) λ_ a=>.nx ρ a:=rfl
@[simp] theorem oo:cu ma ρ Ω=cF (ma ρ Ω) λd a=>.rt d a:=rfl
@[simp] theorem My:eJ ma a b ρ Ω=cF (eF (ma ρ Ω)) λt c=>if t=true then a ρ c else b ρ c:=rfl
@[simp] theorem KJ{c:List Nat}:pX c ma ρ Ω=cF (ma ρ Ω) λd a=>match mJ c d ρ with|some b=>.nx b a|none=>.bad:=rfl
@[simp] theorem FT{a:List Nat}{ds:List D}:mJ a (.tup ds) ρ=if ds.length=a.length then some (dH a ds ρ)else none:=rfl
@[simp] theorem BG{i:Nat}{a:List Nat}{ds:List D}:dH (i::a) (d::ds) ρ=dH a ds (ρ.set i (some d)):=rfl
@[simp] theorem CT{ds:List D}:dH [] ds ρ=ρ:=by cases ds<;>rfl
@[simp] theorem KL:cG (.rt d Ω)=.ok d Ω:=rfl
@[simp] theorem KN:cG (.nx ρ Ω)=.ok .non Ω:=rfl
theorem bo{n k:Nat}{c:SM}{ds:List D}(h:ds.length=k):bh n k c ds Ω=cG (c (aP n ds) Ω):=by unfold bh;rw[if_pos h]
@[simp] theorem KO:dZ ma ρ Ω=(ma ρ Ω).bind λx a=>srcOf a x:=rfl
theorem fG{ds:List D}(h:fw Ω x=some ds):srcOf Ω x=.ok (.seq x) Ω:=by unfold srcOf;rw[h]
@[simp] theorem HM:eU as ρ Ω=(as ρ Ω).bind tr:=rfl
@[simp] theorem KP{j:Int}:tr [.int j] Ω=if jN j then .ok (.ints 0 j.toNat) Ω else .bad:=rfl
@[simp] theorem gZ:hG (.seq x) Ω=fw Ω x:=rfl
@[simp] theorem HN{a:Int}{n:Nat}:hG (.ints a n) Ω=some (intsFrom a n):=rfl
@[simp] theorem fW{a:D->aS->Option aS}{mi:IM}:hI a mi b ρ Ω=cF (mi ρ Ω) λs c=>fy a s b fuel 0 ρ c:=rfl
def lb(r:fS)(I:aS->aI->Prop)(R:fS->Prop):Prop:=match r with
 |.nx a b=>I a b
 |.ct a b=>I a b
 |.bk a b=>R (.nx a b)
 |r=>R r
theorem dY{k:D->aS->Option aS}{src:Src}{b:SM}{ds:List D}(I:Nat->aS->aI->Prop){R:fS->Prop}(l:∀i ρ Ω,I i ρ Ω->hG src Ω=some ds)
  (h:∀(i:Nat) (d:D) ρ Ω,ds[i]?=some d->I i ρ Ω->∃e,k d ρ=some e/\lb (b e Ω) (I (i+1)) R) (p:∀ρ Ω,I ds.length ρ Ω->R (.nx ρ Ω)) :
  ∀(f i:Nat) ρ Ω,ds.length - i<f->i<=ds.length->I i ρ Ω->R (fy k src b f i ρ Ω):=by
 intro f
 induction f with
 |zero=>intro i ρ Ω r;omega
 |succ f o=>
  intro i ρ Ω r t n;simp only[fy,l i ρ Ω n]
  by_cases j:i<ds.length
  .have m:ds[i]?=some ds[i]:=List.getElem?_eq_getElem j
   rw[m];dsimp only;obtain⟨e,s,c⟩:=h i ds[i] ρ Ω m n;rw[s];dsimp only;cases q:b e Ω with
   |nx g a=>rw[q]at c;exact o (i+1) g a (by omega) j c
   |ct g a=>rw[q]at c;exact o (i+1) g a (by omega) j c
   |bk g a=>rw[q]at c;exact c
   |rt d a=>rw[q]at c;exact c
   |exc x a=>rw[q]at c;exact c
   |bad=>rw[q]at c;exact c
  .have m:ds[i]?=none:=List.getElem?_eq_none (by omega)
   rw[m];have:i=ds.length:=by omega
   subst this;exact p ρ Ω n
theorem BH{nc:Bool}{mc me:EM}{c:aS}{src:Src}{ds:List D}{p:D->Bool}{g:D->D}(k:hG src Ω=some ds)(l:∀d∈ds,pU nc mc ([some d]++c) Ω=.ok (p d) Ω)(m:∀d∈ds,p d=true->me ([some d]++c) Ω=.ok (g d) Ω) :
  ∀(f i:Nat) (a:List D),ds.length - i<f->i<=ds.length->a.length+ds.length<=100000+i->zv nc mc me 0 c src f i a Ω=.ok (a++((ds.drop i).filter p).map g) Ω:=by
 intro f
 induction f with
 |zero=>intro i a o;omega
 |succ f h=>
  intro i a o s t;simp only[zv,k]
  by_cases b:i<ds.length
  .have e:ds[i]?=some ds[i]:=List.getElem?_eq_getElem b
   have j:ds[i]∈ds:=List.getElem_mem b;rw[e];have q:pS 0 ds[i]=some [some ds[i]]:=rfl;simp only[q];rw[if_pos (az (n:=a.length+1) (by omega)),l _ j,List.drop_eq_getElem_cons b,List.filter_cons]
   cases r:p ds[i]with
   |true=>
    dsimp only;rw[m _ j r];dsimp only;rw[h (i+1) _ (by omega) b (by rw[List.length_append];simp;omega)]
    simp
   |false=>
    dsimp only;rw[h (i+1) _ (by omega) b (by omega)]
    simp
  .have e:ds[i]?=none:=List.getElem?_eq_none (by omega)
   rw[e,List.drop_of_length_le (by omega)]
   simp
theorem fH{me mc:EM}{nc:Bool}{mi:IM}{cap:List Nat}{src:Src}{ds:List D}{p:D->Bool}{g:D->D}(a:mi ρ Ω=.ok src aD)(b:hG src aD=some ds)(c:∀d∈ds,pU nc mc ([some d]++gg cap ρ) aD=.ok (p d) aD)(e:∀d∈ds,p d=true->me ([some d]++gg cap ρ) aD=.ok (g d) aD)(f:ds.length<=90000) :
  er me nc mc mi 0 cap ρ Ω=.ok (.ref aD.length) (aD++[.lst ((ds.filter p).map g)]):=by
 unfold er;rw[a];dsimp only;rw[BH b c e fuel 0 [] (by unfold fuel;omega) (Nat.zero_le _) (by simp;omega)]
 rfl
theorem aE{k:Nat}{c:Cell}{l:aI}(h:Ω[k]?=some c):(Ω++l)[k]?=some c:=by rw[List.getElem?_append_left (List.getElem?_eq_some_iff.mp h).1];exact h
theorem a_{c:Cell}{l:aI}:(Ω++c::l)[Ω.length]?=some c:=by rw[List.getElem?_append_right (Nat.le_refl _)];simp
theorem aj{j k:Nat}{c e:Cell}(h:Ω[k]?=some c)(a:k≠j):(Ω.set j e)[k]?=some c:=by rw[List.getElem?_set_ne (Ne.symm a)];exact h
theorem aV{k:Nat}{c e:Cell}(h:Ω[k]?=some c):(Ω.set k e)[k]?=some e:=List.getElem?_set_self (List.getElem?_eq_some_iff.mp h).1
theorem fX{k:Nat}{c:Cell}(h:Ω[k]?=some c):k<Ω.length:=(List.getElem?_eq_some_iff.mp h).1
structure aL(fp:List Nat)(Ω aD:aI):Prop where
 len:Ω.length<=aD.length
 get:∀k c,Ω[k]?=some c->k∉fp->aD[k]?=some c
theorem aL.refl{fp:List Nat}:aL fp Ω Ω:=⟨Nat.le_refl _,λ_ _ h _=>h⟩
theorem aL.trans{fp:List Nat}{a b d:aI}(h:aL fp a b)(h':aL fp b d):aL fp a d:=⟨Nat.le_trans h.len h'.len,λk c q n=>h'.get k c (h.get k c q n) n⟩
theorem aL.app{fp:List Nat}{l:aI}:aL fp Ω (Ω++l):=⟨by simp,λk c h _=>aE h⟩
theorem aL.set{fp:List Nat}{j:Nat}{c:Cell}(h:j∈fp):aL fp Ω (Ω.set j c):=⟨by simp,λk e q n=>aj q λz=>n (z▸h)⟩
theorem aL.sub{fp a:List Nat}(h:aL fp Ω aD)(b:∀k∈fp,k∈a):aL a Ω aD:=⟨h.len,λk c q n=>h.get k c q λz=>n (b k z)⟩
end
section
variable{Ω aD:aI}{ρ:aS}{d x y:D}{k:Nat}{ws:List Str}{w:Str}{L:List (List Str)}{rs:List Nat}
theorem yn{y:D}{b:List Key}{a:List (List Key×D)}(h:Ω[k]?=some (.dT a))(c:kK y=some b):nQ Ω (.ref k) y=some (aT a b):=by simp only[nQ,h,c,Option.map_some]
theorem oq{ds:List D}(h:Ω[k]?=some (.lst ds)):dc .len [.ref k] Ω=.ok (.int ds.length) Ω:=by
 show nM (vq [.ref k] Ω) _=_
 simp only[vq,cf,bf h];rfl
theorem dB{ds:List D}{d:D}(h:Ω[k]?=some (.lst ds))(a:ds.length<=1000):cX (.ref k) [d] Ω=.ok .non (Ω.set k (.lst (ds++[d]))):=by
 simp only[cX,tU h];rw[if_pos (az (by omega))]
theorem fY{ds:List D}(h:Ω[k]?=some (.lst ds)):pM Ω (.ref k)=true:=by simp only[pM,bf h];rfl
theorem yo{ds:List D}(h:Ω[k]?=some (.lst ds))(a:ds.length<=1000):dc .list [.ref k] Ω=.ok (.ref Ω.length) (Ω++[.lst ds]):=by
 show nM (jF [.ref k] Ω) (kN [.ref k] Ω)=_
 simp only[jF,cf,bf h];rfl
theorem BI{C m:Str}{F:b_}{b:EM}{as:AM}{fs:List (Str×D)}(c:b ρ Ω=.ok (.ref k) aD)(d:aD[k]?=some (.ins C fs))(e:fs.lookup m=none):cO C m F b as ρ Ω=(as ρ aD).bind λxs a=>FN (F (.ref k::xs) a):=by
 unfold cO;rw[c]
 show(match lP aD (.ref k)with|some (_,f,fs)=>_|none=>_)=_
 rw[fV d];simp only[e,and_self,if_true];rfl
theorem ou{a:aI->D->Bool}{f:D->List D->aI->av D}{c:EM}{as:AM}(d:c ρ Ω=.ok x aD)(h:a aD x=true):cL a f c as ρ Ω=(as ρ aD).bind λxs b=>f x xs b:=by
 unfold cL;rw[d]
 show(if a aD x=true then _ else _)=_
 rw[if_pos h]
end
def tY(F:List D->Out Rs):Prop:=∀(a:List Int) (k m:Int),a.length<=63->0<=k->k<100000->0<m->∃r,0<=r/\r<m/\F [SC a,.int k,.int m]=.ok (false,.int r)
def eM(b:List Int->Int->Int->Int)(F:List D->Out Rs):Prop:=∀(a:List Int) (k m:Int),a.length<=63->0<=k->k<100000->0<m->0<=b a k m/\b a k m<m/\F [SC a,.int k,.int m]=.ok (false,.int (b a k m))
theorem EU{F:List D->Out Rs}(h:tY F):∃i,eM i F:=by
 have g:∀(e:List Int) (k m:Int),∃r,e.length<=63->0<=k->k<100000->0<m->0<=r/\r<m/\F [SC e,.int k,.int m]=.ok (false,.int r):=λe k m=>by
  by_cases f:e.length<=63/\0<=k/\k<100000/\0<m
  .obtain⟨r,j⟩:=h e k m f.1 f.2.1 f.2.2.1 f.2.2.2
   exact⟨r,λ_ _ _ _=>j⟩
  .exact⟨0,λa b c d=>absurd ⟨a,b,c,d⟩ f⟩
 exact⟨λe k m=>(g e k m).choose,λe k m=>(g e k m).choose_spec⟩
variable [aw]
section
variable{Ω aD vb JM:aI}{ρ:aS}{k q:Nat}{x y:D}
theorem aL.new{fp:List Nat}(h:aL [] Ω vb)(h':aL fp vb JM)(a:∀j∈fp,Ω.length<=j):aL [] Ω JM:=⟨Nat.le_trans h.len h'.len,λk c e _=>h'.get k c (h.get k c e (by simp)) λz=>by have:=a k z;have:=fX e;omega⟩
theorem HP.up{fp:List Nat}(h:aL [] Ω aD):aL fp Ω aD:=h.sub (by simp)
@[simp] theorem HQ{z:Str}:aZ (.str z) y Ω=v2 Ω ko (some (.str z)) (dE Ω 8 y):=by
 unfold aZ;rw[dJ,dJ,gY,oi];simp[fw,cN,ixs,xl,nQ]
@[simp] theorem HR{z:Str}{l h:Option Int}:va (.str z) l h Ω=fv Ω (wJ (.str z) l h):=rfl
@[simp] theorem HS{d e f:EM}{g i:Bool}:gC d g e i f ρ Ω=(d ρ Ω).bind λx a=>(f_ g e ρ a).bind λl b=>(f_ i f ρ b).bind λh c=>va x l h c:=rfl
@[simp] theorem KQ{m:EM}:f_ true m ρ Ω=.ok none Ω:=rfl
noncomputable def Pz(Ω:aI):D->av (Option Int)
 |.int i=>.ok (some i) Ω
 |_=>.bad
@[simp] theorem KR{m:EM}:f_ false m ρ Ω=(m ρ Ω).bind λd a=>Pz a d:=by
 simp only[f_,Bool.false_eq_true,if_false]
 congr 1
@[simp] theorem KS{i:Int}:Pz Ω (.int i)=.ok (some i) Ω:=rfl
theorem qo{ds:List D}(h:Ω[k]?=some (.lst ds)):cW (.ref k) [] Ω=.ok .non (Ω.set k (.lst ds.reverse)):=by
 simp only[cW,tU h]
end
def nB:SM:=(ao (aU 11 (m2 aZ (af 3) (m2 (aJ .Mod) (m2 (aJ .Add) (m2 (aJ .Add) (af 4) (m2 (aJ .Mult) (af 8) (af 5))) (af 10)) (ag (.int 26)))))
 (ao (gF (cL pM cX (af 9) (aa (m2 (aJ .Add) (m2 (aJ .Add) (gC (af 6) true (ag .non) false (af 8)) (af 11)) (gC (af 6) false (m2 (aJ .Add) (af 8) (ag (.int 1))) false (af 7))) aq)))
 au))
def nC:EM:=er (m2 aZ (af 2) (m2 (aJ .Mod) (m2 (aJ .Add) (af 1) (m2 (aJ .Mult) (af 0) (af 3))) (ag (.int 26)))) true (ag .non) (eU (aa (ag (.int 8)) aq)) 0 [4,3,5]
def nD:EM:=er (gC (af 1) true (ag .non) false (m2 (aJ .Add) (af 0) (ag (.int 1)))) true (ag .non) (eU (aa (af 2) aq)) 0 [6]
section
variable{Ω:aI}{F:List D->Out Rs}{δ:List Int->Int->Int->Int}{ns:List Int}
def Mz(x:Str):Prop:=x.length<=17/\∃c∈x.cps.toList,97<=c
theorem HU(a c1 c2 b c d e f:Nat):∃S:Str,S.length=8/\S.cps.toList.head?=some a/\DW .join (.str "") (.tup [.lst [.str (aR a),.str (aR c1),.str (aR c2),.str (aR b),.str (aR c),.str (aR d),.str (aR e),.str (aR f)]])=.ok (false,.str S):=
 ⟨⟨#[a,c1,c2,b,c,d,e,f]⟩,rfl,rfl,rfl⟩
theorem HV{f st:Int}(m:0<=f)(w:f<26)(n:1<=st)(y:st<26){a0 a1 a2 a6 a7 a8 a9 a10 a11:Option D}:∃S:Str,S.length=8/\(∃c,S.cps.toList.head?=some c/\97<=c) /\
  cL xB kS (ag (.str "")) (aa nC aq) [a0,a1,a2,some (.str abc),some (.int f),some (.int st),a6,a7,a8,a9,a10,a11] Ω=.ok (.str S) (Ω++[.lst ((intsFrom 0 8).map λd=>match d with|.int j=>.str (aR (97+((f+j*st)%26).toNat))|_=>.non)]):=by
 have i1:g_ st=true:=dI (by omega) (by omega)
 have a:jN 8=true:=gW (by omega) (by omega)
 have h:=fH (Ω:=Ω) (aD:=Ω) (ρ:=[a0,a1,a2,some (.str abc),some (.int f),some (.int st),a6,a7,a8,a9,a10,a11]) (me:=m2 aZ (af 2) (m2 (aJ .Mod) (m2 (aJ .Add) (af 1) (m2 (aJ .Mult) (af 0) (af 3))) (ag (.int 26)))) (nc:=true) (mc:=ag .non) (mi:=eU (aa (ag (.int 8)) aq)) (cap:=[4,3,5]) (src:=.ints 0 8) (ds:=intsFrom 0 8) (p:=λ_=>true)
  (g:=λd=>match d with|.int j=>.str (aR (97+((f+j*st)%26).toNat))|_=>.non) (by simp[a]) rfl (λd k=>rfl) (λd k _=>by
   obtain⟨i,o⟩:=List.mem_iff_getElem?.mp k;obtain⟨rfl,r⟩:=gX o;generalize l:(0:Int)+(i:Int)=j;have s:g_ j=true:=dI (by omega) (by omega)
   have b:=tN (q:=(f+j*st)%26) (by omega) (by omega)
   simp[gg,i1,s,b]) (by rw[cY];omega)
 rw[List.filter_eq_self.mpr (by simp)]at h
 obtain⟨S,t,e,l⟩:=HU (97+((f+0*st)%26).toNat) (97+((f+1*st)%26).toNat) (97+((f+2*st)%26).toNat) (97+((f+3*st)%26).toNat) (97+((f+4*st)%26).toNat) (97+((f+5*st)%26).toNat) (97+((f+6*st)%26).toNat) (97+((f+7*st)%26).toNat);refine⟨S,t,⟨_,e,Nat.le_add_right _ _⟩,?_⟩;rw[ou (x:=.str "") (aD:=Ω) rfl rfl]
 have u:dE (Ω++[.lst ((intsFrom 0 8).map λd=>match d with|.int j=>.str (aR (97+((f+j*st)%26).toNat))|_=>.non)]) 8 (.ref Ω.length)=some (.lst [.str (aR (97+((f+0*st)%26).toNat)),.str (aR (97+((f+1*st)%26).toNat)),.str (aR (97+((f+2*st)%26).toNat)),.str (aR (97+((f+3*st)%26).toNat)),.str (aR (97+((f+4*st)%26).toNat)),.str (aR (97+((f+5*st)%26).toNat)),.str (aR (97+((f+6*st)%26).toNat)),.str (aR (97+((f+7*st)%26).toNat))]):=
  fU a_ rfl
 unfold nC;rw[dX,h];simp only[hZ,fT,kS,oi,tS,u,oh,l,BC]
abbrev EN(ns:List Int)(a:Int)(n:Nat)(f st:Int)(S:Str)(b pl:Int)(q:Nat)(a10 a11:Option D):aS:=
 [some (SC ns),some (.int a),some (.int n),some (.str abc),some (.int f),some (.int st),some (.str S),some (.int b),some (.int pl),some (.ref q),a10,a11]
def MA(S:Str)(f st a pl:Int)(k:Nat):Str:=((⟨(cE S.cps.toList none (some pl)).toArray⟩:Str)++aR (97+((f+pl*st+(k:Int))%26).toNat))++(⟨(cE S.cps.toList (some (pl+1)) (some a)).toArray⟩:Str)
theorem EX{S:Str}{f st d pl:Int}{n:Nat}(j:n<=20):((List.range n).map (MA S f st d pl)).Nodup:=by
 refine List.pairwise_map.mpr (List.Pairwise.imp_of_mem (λ{a b} e g c h=>c ?_) (List.nodup_range (n:=n)))
 have k:=List.mem_range.mp e;have l:=List.mem_range.mp g;have i:=congrArg (λz:Str=>z.cps.toList) h
 simp[MA,Str.cps_append,aR]at i;omega
theorem BJ{j:aI}{a f st g pl:Int}{n q:Nat}{S:Str}(G:S.length=8)(H:0<=f)(Y:f<26)(I:1<=st)(Z:st<26)(J:1<=g)(hz:g<9)(L:0<=pl)(hp:pl<9)(M:n<=20)(N:j[q]?=some (.lst []))
  {R:fS->Prop} (O:∀(xs:List Str) a10 a11 aD,xs.length=n->(∀x∈xs,Mz x)->xs.Nodup->aD[q]?=some (.lst (xs.map .str))->aL [q] j aD->R (.nx (EN ns a n f st S g pl q a10 a11) aD)) :
  R (fy (dR 10) (.ints 0 n) nB fuel 0 (EN ns a n f st S g pl q none none) j):=by
 have i1:g_ st=true:=dI (by omega) (by omega)
 have P:g_ pl=true:=dI (by omega) (by omega)
 have w:small S.length=true:=az (by omega)
 have m:∀l h:Option Int,(⟨(cE S.cps.toList l h).toArray⟩:Str).length<=8:=λl h=>by
  have:=pe S.cps.toList l h;have h2:S.cps.toList.length=8:=by simpa[Str.length]using G
  show(cE S.cps.toList l h).toArray.size<=8
  simp;omega
 refine dY (ds:=intsFrom 0 n) (λi y b=>∃(xs:List Str) (a10 a11:Option D),y=EN ns a n f st S g pl q a10 a11/\xs.length=i/\(∀x∈xs,Mz x)/\xs=(List.range i).map (MA S f st g pl)/\b[q]?=some (.lst (xs.map .str))/\aL [q] j b) (λ_ _ _ _=>rfl) ?_ ?_ fuel 0 _ _ (by rw[cY];unfold fuel;omega) (Nat.zero_le _) ⟨[],none,none,rfl,rfl,by simp,rfl,N,aL.refl⟩
 .rintro i d y b Q ⟨xs,a10,a11,rfl,s,o,k,p,K⟩
  obtain⟨rfl,T⟩:=gX Q;refine⟨_,rfl,?_⟩;rw[show(0:Int)+(i:Int)=(i:Int)by omega]
  have r:=tN (q:=(f+pl*st+(i:Int))%26) (by omega) (by omega)
  generalize U:(97+((f+pl*st+(i:Int))%26).toNat)=c at r;have l1:=m none (some pl);have l2:=m (some (pl+1)) (some g);have one:(aR c).length=1:=rfl;have z:small ((⟨(cE S.cps.toList none (some pl)).toArray⟩:Str).length+(aR c).length)=true:=az (by omega)
  have A:small (((⟨(cE S.cps.toList none (some pl)).toArray⟩:Str)++aR c).length+(⟨(cE S.cps.toList (some (pl+1)) (some g)).toArray⟩:Str).length)=true:=az (by rw[Str.length_append];omega)
  have t:(((⟨(cE S.cps.toList none (some pl)).toArray⟩:Str)++aR c)++(⟨(cE S.cps.toList (some (pl+1)) (some g)).toArray⟩:Str)).length<=17:=by rw[Str.length_append,Str.length_append];omega
  have F:(m2 (aJ .Add) (m2 (aJ .Add) (gC (af 6) true (ag .non) false (af 8)) (af 11)) (gC (af 6) false (m2 (aJ .Add) (af 8) (ag (.int 1))) false (af 7))) (EN ns a n f st S g pl q (some (.int i)) (some (.str (aR c)))) b=.ok (.str (((⟨(cE S.cps.toList none (some pl)).toArray⟩:Str)++aR c)++(⟨(cE S.cps.toList (some (pl+1)) (some g)).toArray⟩:Str))) b:=by
   simp[EN,w,z,A,-Str.length_append]
  have t:Mz (((⟨(cE S.cps.toList none (some pl)).toArray⟩:Str)++aR c)++(⟨(cE S.cps.toList (some (pl+1)) (some g)).toArray⟩:Str)):=⟨t,c,by simp[Str.cps_append,aR],by omega⟩
  generalize B:((⟨(cE S.cps.toList none (some pl)).toArray⟩:Str)++aR c)++(⟨(cE S.cps.toList (some (pl+1)) (some g)).toArray⟩:Str)=u at F t;have C:=dB (d:=.str u) p (by simp;omega)
  have V:cL pM cX (af 9) (aa (m2 (aJ .Add) (m2 (aJ .Add) (gC (af 6) true (ag .non) false (af 8)) (af 11)) (gC (af 6) false (m2 (aJ .Add) (af 8) (ag (.int 1))) false (af 7))) aq) (EN ns a n f st S g pl q (some (.int i)) (some (.str (aR c)))) b=.ok .non (b.set q (.lst (xs.map .str++[.str u]))):=by
   rw[ou (x:=.ref q) (aD:=b) (by simp[EN]) (fY p),dX,F]
   simp[C]
  have e:nB (EN ns a n f st S g pl q (some (.int i)) a11) b=.nx (EN ns a n f st S g pl q (some (.int i)) (some (.str (aR c)))) (b.set q (.lst (xs.map .str++[.str u]))):=by
   have X:(aU 11 (m2 aZ (af 3) (m2 (aJ .Mod) (m2 (aJ .Add) (m2 (aJ .Add) (af 4) (m2 (aJ .Mult) (af 8) (af 5))) (af 10)) (ag (.int 26))))) (EN ns a n f st S g pl q (some (.int i)) a11) b=.nx (EN ns a n f st S g pl q (some (.int i)) (some (.str (aR c)))) b:=by
    simp[EN,i1,P,r]
   unfold nB;rw[ax,X,aQ,ax,tX,V];rfl
  show lb (nB (EN ns a n f st S g pl q (some (.int i)) a11) b) _ _
  rw[e];refine⟨xs++[u],_,_,rfl,by simp[s],λx E=>?_,?_,?_,K.trans (aL.set (by simp))⟩
  .rcases List.mem_append.mp E with h|h
   .exact o x h
   .rw[List.mem_singleton.mp h];exact t
  .rw[List.range_succ,List.map_append,←k,←B,←U];rfl
  .rw[List.map_append];exact aV p
 .rintro y b ⟨xs,a10,a11,rfl,s,o,k,p,K⟩
  rw[cY]at s;rw[cY]at k;exact O xs a10 a11 b s o (by rw[k];exact EX M) p K
end
section
variable{κ β:Type}[DecidableEq κ]
theorem bP{p:κ×β}{a:List (κ×β)}{k:κ}:aT (p::a) k=if p.1=k then some p.2 else aT a k:=by
 unfold aT;rw[List.find?_cons]
 by_cases h:p.1=k<;>simp[h]
theorem qq{k k':κ}{v:c}:∀{a:List (κ×c)},aT (a.map λb=>if b.1=k then (b.1,v)else b) k'=if k'=k then (aT a k).map λ_=>v else aT a k'
 |[]=>by simp[aT]
 |p::a=>by
  rw[List.map_cons,bP,bP,bP,qq]
  by_cases h:p.1=k
  .rw[if_pos h]
   by_cases h':k'=k
   .subst h';simp[h]
   .have:¬ k=k':=λe=>h' e.symm
    simp[h,h',this]
  .rw[if_neg h]
   by_cases h':k'=k
   .subst h';simp[h]
   .simp[h']
theorem qr{k k':κ}{v:b}:∀{a:List (κ×b)},aT (a++[(k,v)]) k'=match aT a k' with|some d=>some d|none=>if k'=k then some v else none
 |[]=>by
  rw[List.nil_append,bP]
  by_cases h:k=k'
  .subst h;simp[aT]
  .have:¬ k'=k:=λe=>h e.symm
   simp[aT,h,this]
 |p::a=>by
  rw[List.cons_append,bP,bP,qr]
  by_cases h:p.1=k'<;>simp[h]
theorem qu{k:κ}:∀{a:List (κ×c)},(a.any λb=>decide (b.1=k))=(aT a k).isSome
 |[]=>rfl
 |p::a=>by
  rw[List.any_cons,bP,qu]
  by_cases h:p.1=k<;>simp[h]
theorem c_{a:List (κ×β)}{k k':κ}{v:β}:aT (bE a k v) k'=if k'=k then some v else aT a k':=by
 unfold bE;rw[qu];cases h:aT a k with
 |none=>
  rw[Option.isSome_none,if_neg (by simp),qr]
  by_cases b:k'=k
  .subst b;simp[h]
  .cases q:aT a k'<;>simp[b]
 |some d=>
  rw[Option.isSome_some,if_pos rfl,qq,h]
  by_cases b:k'=k<;>simp[b]
theorem qv{a:List (κ×β)}{k:κ}{v:β}:(bE a k v).length<=a.length+1:=by
 unfold bE;split<;>simp
end
abbrev eQ(x w:Str):List Key:=[.inr x,.inr w]
abbrev cU(x w:Str):D:=.tup [.str x,.str w]
section
variable{Ω aD:aI}{F:List D->Out Rs}{δ:List Int->Int->Int->Int}{ns:List Int}{t:Nat}{kvs:List (List Key×D)}
theorem EY(h:Ω[t]?=some (.dT kvs)):dc .len [.ref t] Ω=.ok (.int kvs.length) Ω:=by
 simp only[dc,tR,vq,fw,cN,h,AU];rfl
theorem eW{x w:Str}:kK (cU x w)=some (eQ x w):=rfl
theorem EZ{x w:Str}{d:D}(h:Ω[t]?=some (.dT kvs))(a:aT kvs (eQ x w)=some d):aZ (.ref t) (cU x w) Ω=.ok d Ω:=by
 unfold aZ;rw[dJ,dJ,gY];simp only[xl,yn h eW,a,cf,cN,h];rfl
def tB(F:List D->Out Rs):SM:=(ao (aU 8 (mN (bZ F) (aa (af 0) (aa (m2 (aJ .Add) (m2 (aJ .Add) (af 1) (ag (.int 1))) (mN (dc .len) (aa (af 4) aq))) (aa (m2 (aJ .Mult) (ag (.int 2)) (af 5)) aq)))))
 (ao (dS (af 4) (mN lK (aa (af 6) (aa (af 7) aq))) (m2 aZ (mN dm (aa (ag (.int 1)) (aa (ag (.int 2)) (aa (ag (.int 0)) aq)))) (mN (dc .min) (aa (ag (.int 2)) (aa (af 8) aq)))))
 au))
def iZ(F:List D->Out Rs):SM:=
 (ao (aU 4 d_)
 (ao (aU 5 (m2 aZ (mN dm (aa (ag (.int 2)) (aa (ag (.int 4)) (aa (ag (.int 9)) aq)))) (mN (bZ F) (aa (af 0) (aa (af 1) (aa (ag (.int 3)) aq))))))
 (ao (hI (dR 6) (dZ (af 2))
 (ao (hI (dR 7) (dZ (af 3)) (tB F))
 au))
 (ao (cu (af 4))
 au))))
theorem min2{p:Int}(a:0<=p):dc .min [.int 2,.int p] Ω=.ok (.int (if p<2 then p else 2)) Ω:=by
 simp[dc,lN]
theorem HW(g:eM δ F)(l:ns.length<=63){a c:Int}{kx kw:Nat}{x w:Str}{a8:Option D}(z:0<=a)(A:a<10000)(d0:1<=c)(d1:c<=9)(k:Ω[t]?=some (.dT kvs))(B:kvs.length<=1000) :
  ∃(v:Int) (i:Option D) (aD:aI),0<=v/\v<=2/\tB F [some (SC ns),some (.int a),some (.ref kx),some (.ref kw),some (.ref t),some (.int c),some (.str x),some (.str w),a8] Ω=.nx [some (SC ns),some (.int a),some (.ref kx),some (.ref kw),some (.ref t),some (.int c),some (.str x),some (.str w),i] aD /\
   aD[t]?=some (.dT (bE kvs (eQ x w) (.int v)))/\aL [t] Ω aD:=by
 obtain⟨m,C,n⟩:=g ns (a+1+kvs.length) (2*c) l (by omega) (by omega) (by omega)
 generalize δ ns (a+1+kvs.length) (2*c)=p at *;have d:=EY k;have i1:g_ c=true:=dI (by omega) (by omega)
 have o:(Ω++[Cell.lst [.int 1,.int 2,.int 0]])[Ω.length]?=some (.lst [.int 1,.int 2,.int 0]):=a_;have q:=min2 (Ω:=Ω++[Cell.lst [.int 1,.int 2,.int 0]]) m
 obtain⟨v,r,v1,s⟩:∃v:Int,0<=v/\v<=2/\L2.gN [D.int 1,.int 2,.int 0] (if p<2 then p else 2)=some (.int v):=by
  have:p=0\/p=1\/2<=p:=by omega
  rcases this with rfl|rfl|h
  .exact⟨1,by omega,by omega,rfl⟩
  .exact⟨2,by omega,by omega,rfl⟩
  .rw[if_neg (by omega)];exact⟨0,by omega,by omega,rfl⟩
 have u:=cg o s;have e:(Ω++[Cell.lst [.int 1,.int 2,.int 0]])[t]?=some (.dT kvs):=aE k;generalize f:Ω++[Cell.lst [.int 1,.int 2,.int 0]]=b at *;have y:aL [] Ω b:=by rw[←f];exact aL.app
 have j:fA (.ref t) (cU x w) (.int v) b=some (b.set t (.dT (bE kvs (eQ x w) (.int v)))):=by
  simp only[fA,e,eW];rw[if_pos (az (by omega))]
 refine⟨v,some (.int p),b.set t (.dT (bE kvs (eQ x w) (.int v))),r,v1,?_,aV e,(HP.up y).trans (aL.set (by simp))⟩
 simp[tB,d,i1,n,dS,az,f,q,u,j]
def i_(a:List (List Key×D))(P:Str->Str->Prop):Prop:=∀x w,P x w->∃v:Int,0<=v/\v<=2/\aT a (eQ x w)=some (.int v)
theorem i_.put{P:Str->Str->Prop}(h:i_ kvs P){x w:Str}{v:Int}(v0:0<=v)(v1:v<=2):i_ (bE kvs (eQ x w) (.int v)) λy u=>P y u\/(y=x/\u=w):=λy u a=>by
 rw[c_]
 by_cases e:eQ y u=eQ x w
 .rw[if_pos e];exact⟨v,v0,v1,rfl⟩
 .rw[if_neg e]
  rcases a with a|⟨rfl,rfl⟩
  .exact h y u a
  .exact absurd rfl e
theorem i_.imp{P Q:Str->Str->Prop}(h:i_ kvs P)(a:∀x w,Q x w->P x w):i_ kvs Q:=λx w q=>h x w (a x w q)
abbrev ET(ns:List Int)(a:Int)(kx kw t:Nat)(b:Int)(a6 a7 a8:Option D):aS:=[some (SC ns),some (.int a),some (.ref kx),some (.ref kw),some (.ref t),some (.int b),a6,a7,a8]
theorem rV{xs:List Str}{i:Nat}{d:D}(h:(xs.map D.str)[i]?=some d):∃x,xs[i]?=some x/\d=.str x:=by
 rw[List.getElem?_map]at h;obtain⟨x,a,b⟩:=Option.map_eq_some_iff.mp h;exact⟨x,a,b.symm⟩
theorem qw{xs:List Str}{i:Nat}{x z:Str}(h:xs[i]?=some x)(hz:z∈xs.take (i+1)):z∈xs.take i\/z=x:=by
 rw[List.take_succ,h]at hz;simpa using hz
end
end Mir
namespace Mir
open PySem PySem.Spec PyProof.Rows L2
def CU:D->Bool
 |.lst ds=>ds.all ey
 |d=>ey d
section
variable{α:List Addr}{Z Z1:Addr->Prop}{H H1:Hp}
theorem tZ{d:D}{v:V}(a:ey d=true)(r:Rep Z H d v):ah α Z1 H1 d v:=by
 cases d with
 |lst _=>cases a
 |tup _=>cases a
 |ref _=>cases a
 |dct _ _=>cases a
 |_=>simp only[Rep]at r;simp only[ah];exact r
theorem vK{d:D}{v:V}(a:ey d=true)(r:ah α Z1 H1 d v):Rep Z H d v:=by
 cases d with
 |lst _=>cases a
 |tup _=>cases a
 |ref _=>cases a
 |dct _ _=>cases a
 |_=>simp only[ah]at r;simp only[Rep];exact r
theorem qy:∀{ds:List D}{vs:List V},ds.all ey=true->aO Z H ds vs->dO α Z1 H1 ds vs
 |[],vs,_,r=>by simp only[aO]at r;simp only[dO];exact r
 |d::ds,vs,h,r=>by
  simp only[List.all_cons,Bool.and_eq_true]at h;simp only[aO]at r;obtain⟨v,a,e,h1,h2⟩:=r;simp only[dO];exact⟨v,a,e,tZ h.1 h1,qy h.2 h2⟩
theorem HX{d:D}{v:V}(h:CU d=true)(r:Rep Z H d v):ah α Z H d v:=by
 cases d with
 |lst g=>
  simp only[Rep]at r;obtain⟨a,b,e,z,c,f⟩:=r;simp only[ah];exact⟨a,b,e,z,c,qy h f⟩
 |tup _=>cases h
 |ref _=>cases h
 |dct _ _=>cases h
 |_=>exact tZ rfl r
theorem yp:∀{ds:List D}{vs:List V},ds.all CU=true->aO Z H ds vs->aG (ah α Z H) ds vs
 |[],vs,_,r=>by simp only[aO]at r;subst r;exact .nil
 |d::ds,vs,h,r=>by
  simp only[List.all_cons,Bool.and_eq_true]at h;simp only[aO]at r;obtain⟨v,a,rfl,h1,h2⟩:=r;exact .cons (HX h.1 h1) (yp h.2 h2)
end
variable [aw]
def pureOf(O:b_):List D->Out Rs:=λa=>if a.all CU=true then (match O a []with
  |.ok d _=>if ey d=true then .ok (false,d)else .bad
  |_=>.bad)else .bad
section
variable{P:Program}{w:World}{K:PySem.W.Frag}{mg:Str->Option Value}{base:Heap}{k:Nat}{f:Addr}{fd:FuncData}{ps:List Str}{O:b_}
theorem ja(h:bF P w K mg base ek k f fd ps (dq (bO mg) O)):bF P w K mg base ek k f fd ps (kD (pureOf O)):=h.imp λC H Q E q=>by
 obtain⟨Z,i,t,d,c,r,e,g⟩:=q;unfold pureOf at e
 by_cases j:i.all CU=true
 .rw[if_pos j]at e
  refine⟨[],Z,[],i,⟨List.nodup_nil,.nil,λa l=>by simp at l,c⟩,yp j r,?_⟩
  cases m:O i []with
  |exc x u=>rw[m]at e;cases e
  |bad=>rw[m]at e;cases e
  |ok d1 u=>
   rw[m]at e;dsimp only at e
   by_cases n:ey d1=true
   .rw[if_pos n]at e
    cases e;intro v y z D p F A;refine g v y Z ⟨λb o B=>p.frm b o B (by simp),λ_ h=>h,λ_ h=>.inl h,λa l=>?_⟩ (.rep (vK n A))
    cases s:H a with
    |none=>exact absurd s (c a l)
    |some o=>rw[p.frm a o s (by simp)];simp
   .rw[if_neg n]at e;cases e
 .rw[if_neg j]at e;cases e
end
end Mir
namespace Mir
open PySem L2
variable [aw]
theorem dC{O:b_}{ds:List D}{d:D}{aD:aI}(a:ds.all CU=true)(h:O ds []=.ok d aD)(b:ey d=true):pureOf O ds=.ok (false,d):=by
 unfold pureOf;rw[if_pos a,h];dsimp only;rw[if_pos b]
def HY:SM:=(ao (aU 3 (m2 (aJ .FloorDiv) (af 3) (ag (.int 840)))) au)
def HZ:SM:=(eJ (fQ (m2 (bg .Eq) (m2 (aJ .Mod) (af 0) (ag (.int 2))) (ag (.int 1))) (m2 (bg .Gt) (af 0) (m2 (aJ .Pow) (ag (.int 10)) (ag (.int 18)))))
 (ao (hI (dR 4) (eU (aa (af 1) aq)) HY)
 (ao (cu (m2 (aJ .Mod) (m2 (aJ .Mod) (af 3) (ag (.int 840))) (af 2)))
 au))
 au)
def PB:SM:=(ao (aU 5 (mN dm (aa (ag (.int 48271)) (aa (ag (.int 69621)) (aa (ag (.int 40692)) (aa (ag (.int 39373)) (aa (ag (.int 16807)) (aa (ag (.int 30323)) (aa (ag (.int 21403)) (aa (ag (.int 62089)) (aa (ag (.int 45742)) (aa (ag (.int 37907)) (aa (ag (.int 53611)) (aa (ag (.int 28411)) (aa (ag (.int 59393)) (aa (ag (.int 33391)) aq))))))))))))))))
 (ao (aU 6 (m2 (aJ .Mod) (m2 (aJ .Mult) (m2 (aJ .Add) (m2 (aJ .Mod) (af 0) (ag (.int 1000000007))) (ag (.int 11))) (m2 aZ (af 5) (m2 (aJ .Mod) (af 1) (ag (.int 14))))) (ag (.int 2147483629))))
 (ao (aU 7 (m2 (aJ .Mod) (m2 (aJ .Mult) (af 6) (m2 (aJ .Add) (af 6) (af 1))) (ag (.int 1999999973))))
 (ao (cu (m2 (aJ .Mod) (m2 (aJ .FloorDiv) (m2 (aJ .Mod) (m2 (aJ .Mult) (af 7) (ag (.int 16807))) (ag (.int 998244353))) (ag (.int 1000))) (af 2)))
 au))))
def qz:SM:=
 (ao (aU 3 (m2 (aJ .FloorDiv) (af 0) (ag (.int 2))))
 (ao HZ PB))
def t_(M:List D->Out Rs):SM:=
 (ao (aU 3 (m2 (aJ .Mult) (ag (.int 2)) (m2 (aJ .Add) (m2 (aJ .Mult) (ag (.int 7919)) (af 1)) (ag (.int 13)))))
 (ao (eJ (m2 (bg .Lt) (m2 (aJ .Mod) (af 1) (ag (.int 63))) (mN (dc .len) (aa (af 0) aq)))
 (ao (aU 3 (m2 aZ (af 0) (m2 (aJ .Mod) (af 1) (ag (.int 63)))))
 au)
 au)
 (ao (cu (mN (bZ M) (aa (af 3) (aa (m2 (aJ .FloorDiv) (af 1) (ag (.int 63))) (aa (af 2) aq)))))
 au)))
@[simp] theorem H_{x y:D}{Ω:aI}:aJ .Pow x y Ω=gb (dk .Pow) x y Ω:=rfl
theorem BK{c t m:Int}(J:0<=t)(u:t<100000)(g:0<m):∃r,0<=r/\r<m/\pureOf (bh 8 3 qz) [.int c,.int t,.int m]=.ok (false,.int r):=by
 have j:∃r b,0<=r/\r<m/\bh 8 3 qz [.int c,.int t,.int m] []=.ok (.int r) b:=by
  rw[bo (by rfl)]
  have w:aP 8 [D.int c,.int t,.int m]=[some (.int c),some (.int t),some (.int m),none,none,none,none,none]:=rfl;rw[w];unfold qz;have y:(aU 3 (m2 (aJ .FloorDiv) (af 0) (ag (.int 2)))) [some (.int c),some (.int t),some (.int m),none,none,none,none,none] []=.nx [some (.int c),some (.int t),some (.int m),some (.int (c / 2)),none,none,none,none] []:=by simp
  rw[ax,y,aQ,ax]
  by_cases k:c%2=1/\1000000000000000000<c
  .have l:jN t=true:=gW (by omega) (by omega)
   have n:∃x a,fy (dR 4) (.ints 0 t.toNat) HY fuel 0 [some (.int c),some (.int t),some (.int m),some (.int (c / 2)),none,none,none,none] []=.nx [some (.int c),some (.int t),some (.int m),some (.int x),a,none,none,none] []:=by
    refine dY (R:=λr=>∃x a,r=.nx [some (.int c),some (.int t),some (.int m),some (.int x),a,none,none,none] []) (ds:=intsFrom 0 t.toNat) (λ_ o p=>∃x a,o=[some (.int c),some (.int t),some (.int m),some (.int x),a,none,none,none]/\p=[]) (λ_ _ _ _=>rfl) ?_ ?_ fuel 0 _ _ (by rw[cY];unfold fuel;omega) (Nat.zero_le _) ⟨_,_,rfl,rfl⟩
    .rintro i d o p q ⟨x,a,rfl,rfl⟩
     refine⟨_,rfl,?_⟩;have e:HY [some (.int c),some (.int t),some (.int m),some (.int x),some d,none,none,none] []=.nx [some (.int c),some (.int t),some (.int m),some (.int (x / 840)),some d,none,none,none] []:=by simp[HY]
     show lb (HY [some (.int c),some (.int t),some (.int m),some (.int x),some d,none,none,none] []) _ _
     rw[e];exact⟨_,_,rfl,rfl⟩
    .rintro o p ⟨x,a,rfl,rfl⟩
     exact⟨x,a,rfl⟩
   obtain⟨x,a,n⟩:=n;refine⟨x%840%m,[],Int.emod_nonneg _ (by omega),Int.emod_lt_of_pos _ g,?_⟩
   simp[HZ,k.1,k.2,l,n,g]
  .obtain⟨d,q,e⟩:=yk (xs:=[D.int 48271,.int 69621,.int 40692,.int 39373,.int 16807,.int 30323,.int 21403,.int 62089,.int 45742,.int 37907,.int 53611,.int 28411,.int 59393,.int 33391]) (i:=t%14) (Int.emod_nonneg _ (by omega)) (Int.emod_lt_of_pos _ (by omega))
   obtain⟨v,rfl⟩:∃v,d=.int v:=by
    simp only[List.mem_cons,List.not_mem_nil,or_false]at q;rcases q with h|h|h|h|h|h|h|h|h|h|h|h|h|h<;>exact⟨_,h⟩
   have A:([]++[Cell.lst [D.int 48271,.int 69621,.int 40692,.int 39373,.int 16807,.int 30323,.int 21403,.int 62089,.int 45742,.int 37907,.int 53611,.int 28411,.int 59393,.int 33391]]:aI)[0]?=some (.lst [D.int 48271,.int 69621,.int 40692,.int 39373,.int 16807,.int 30323,.int 21403,.int 62089,.int 45742,.int 37907,.int 53611,.int 28411,.int 59393,.int 33391]):=rfl;have s:=cg A e;have i1:g_ (c%1000000007+11)=true:=dI (by omega) (by omega)
   have B:g_ ((c%1000000007+11)*v%2147483629)=true:=dI (by omega) (by omega)
   have C:g_ ((c%1000000007+11)*v%2147483629*((c%1000000007+11)*v%2147483629+t)%1999999973)=true:=dI (by omega) (by omega)
   have rI:HZ [some (.int c),some (.int t),some (.int m),some (.int (c / 2)),none,none,none,none] []=.nx [some (.int c),some (.int t),some (.int m),some (.int (c / 2)),none,none,none,none] []:=by
    by_cases f:c%2=1
    .have E:¬ 1000000000000000000<c:=λz=>k ⟨f,z⟩
     simp[HZ,f,E]
    .have F:(c%2==1)=false:=by simpa using f
     simp[HZ,F]
   refine⟨(c%1000000007+11)*v%2147483629*((c%1000000007+11)*v%2147483629+t)%1999999973*16807%998244353 / 1000%m,([]++[Cell.lst [D.int 48271,.int 69621,.int 40692,.int 39373,.int 16807,.int 30323,.int 21403,.int 62089,.int 45742,.int 37907,.int 53611,.int 28411,.int 59393,.int 33391]]:aI),Int.emod_nonneg _ (by omega),Int.emod_lt_of_pos _ g,?_⟩
   rw[rI,aQ];have G:(aU 5 (mN dm (aa (ag (.int 48271)) (aa (ag (.int 69621)) (aa (ag (.int 40692)) (aa (ag (.int 39373)) (aa (ag (.int 16807)) (aa (ag (.int 30323)) (aa (ag (.int 21403)) (aa (ag (.int 62089)) (aa (ag (.int 45742)) (aa (ag (.int 37907)) (aa (ag (.int 53611)) (aa (ag (.int 28411)) (aa (ag (.int 59393)) (aa (ag (.int 33391)) aq)))))))))))))))) [some (.int c),some (.int t),some (.int m),some (.int (c / 2)),none,none,none,none] []=.nx [some (.int c),some (.int t),some (.int m),some (.int (c / 2)),none,some (.ref 0),none,none] ([]++[Cell.lst [D.int 48271,.int 69621,.int 40692,.int 39373,.int 16807,.int 30323,.int 21403,.int 62089,.int 45742,.int 37907,.int 53611,.int 28411,.int 59393,.int 33391]]):=rfl;unfold PB;rw[ax,G,aQ];generalize ([]++[Cell.lst [D.int 48271,.int 69621,.int 40692,.int 39373,.int 16807,.int 30323,.int 21403,.int 62089,.int 45742,.int 37907,.int 53611,.int 28411,.int 59393,.int 33391]]:aI)=H at s;simp[s,i1,B,C,g]
 obtain⟨r,b,I,f,e⟩:=j;exact⟨r,I,f,dC rfl e rfl⟩
theorem vL{M:List D->Out Rs}(o:∀c t m:Int,0<=t->t<100000->0<m->∃r,0<=r/\r<m/\M [.int c,.int t,.int m]=.ok (false,.int r)):tY (pureOf (bh 4 3 (t_ M))):=by
 intro a k m s y z p;have i0:g_ k=true:=dI (by omega) (by omega)
 have i1:g_ (7919*k+13)=true:=dI (by omega) (by omega)
 have g:[SC a,D.int k,.int m].all CU=true:=by
  have:(a.map D.int).all ey=true:=by
   induction a with
   |nil=>rfl
   |cons n a u=>
    rw[List.map_cons,List.all_cons,u (by simp at s;omega)];rfl
  simp only[List.all_cons,List.all_nil,Bool.and_true]
  show((a.map D.int).all ey&&(true&&true))=true
  rw[this];rfl
 have q:aP 4 [SC a,D.int k,.int m]=[some (SC a),some (.int k),some (.int m),none]:=rfl
 have b:dc .len [SC a] []=.ok (.int a.length) []:=by
  show av.ok (D.int ((a.map D.int).length:Nat)) []=_
  rw[List.length_map]
 by_cases f:k%63<(a.length:Int)
 .obtain⟨d,w,e⟩:=yk (xs:=a.map D.int) (i:=k%63) (Int.emod_nonneg _ (by omega)) (by simpa using f)
  obtain⟨c,_,rfl⟩:=List.mem_map.mp w;obtain⟨r,h,j,l⟩:=o c (k / 63) m (by omega) (by omega) p
  have x:aZ (SC a) (.int (k%63)) []=.ok (.int c) []:=by
   unfold aZ;rw[dJ,dJ,gY]
   show nM (ixs [] (some (a.map D.int)) (.int (k%63))) _=_
   rw[rT e];rfl
  refine⟨r,h,j,dC (aD:=[]) g ?_ rfl⟩;rw[bo (by rfl),q]
  simp[t_,i0,i1,b,f,x,l]
 .obtain⟨r,h,j,l⟩:=o (2*(7919*k+13)) (k / 63) m (by omega) (by omega) p
  refine⟨r,h,j,dC (aD:=[]) g ?_ rfl⟩;rw[bo (by rfl),q]
  simp[t_,i0,i1,b,f,l]
end Mir
namespace L2
open PySem PySem.Spec PyProof.Rows
noncomputable def qK(B:Addr->Prop)[DecidablePred B](H:Hp):Hp:=λb=>if B b then (match H b with|some (.cw _ u)=>some u|x=>x)else H b
noncomputable def E_:HO->Bool
 |.dK _=>true
 |.dT _=>true
 |_=>false
structure MB(B:Addr->Prop)(H H':Hp):Prop where
 MC:∀b,B b->∃o u,E_ u=true/\H' b=some (.cw o u)
 was:∀b,B b->∃u,E_ u=true/\H b=some u
section
variable{B:Addr->Prop}[DecidablePred B]{H H':Hp}{b:Addr}{o:Obj}{u:HO}{P:Program}{w:World}{h h':Heap}{fs ex:List Addr}
theorem ow(a:B b)(q:H b=some (.cw o u)):qK B H b=some u:=by unfold qK;rw[if_pos a,q]
theorem bT(a:¬ B b):qK B H b=H b:=by unfold qK;rw[if_neg a]
theorem yq{x:Option HO}(c:∀b,B b->∃o u,E_ u=true/\H b=some (.cw o u))(q:H b=x)(a:∀o u,x≠some (.cw o u)):qK B H b=x:=by
 rw[bT,q];intro d;obtain⟨o,u,_,z⟩:=c b d;exact a o u (q.symm.trans z)
theorem yr(ok:ff P w H h)(e:H b=some (.cw o u))(i:E_ u=true):∃es c,o.data=.dict es c:=by
 cases u with
 |dK d=>
  obtain⟨f,_,_,j,_,k,es,c,a,_,g,_⟩:=ok _ _ e;rw[f]at a;cases a
  exact⟨_,_,g⟩
 |dT d=>
  obtain⟨f,_,_,j,_,k,es,c,a,_,g,_⟩:=ok _ _ e;rw[f]at a;cases a
  exact⟨_,_,g⟩
 |_=>cases i
theorem ff.yt(x:ff P w H h)(c:∀b,B b->∃o u,E_ u=true/\H b=some (.cw o u)):ff P w (qK B H) h:=λa j e=>by
 have f:∀b y,H b=some (.own y)->qK B H b=some (.own y):=λb y q=>yq c q (λ_ _ z=>by cases z)
 have g:∀b i,H b=some (.tup i)->qK B H b=some (.tup i):=λb y q=>yq c q (λ_ _ z=>by cases z)
 by_cases d:B a
 .obtain⟨k,u,_,q⟩:=c a d
  rw[ow d q]at e;cases e;obtain⟨_,y⟩:=x a _ q;exact bQ.stay y (λ_ _ _ z=>z) (λb q=>f b _ q) g
 .rw[bT d]at e
  exact(x a j e).stay (λ_ _ _ z=>z) (λb q=>f b _ q) g
theorem Un.yt(a:Un fs ex H H' h h')(t:MB B H H'):Un fs ex H (qK B H') h h' where
 keep:=a.keep
 slot:=a.slot
 free:=λb o e n f=>by
  rw[bT,a.free b o e n f];intro c;obtain⟨_,_,z⟩:=t.was b c;rw[n]at z;cases z
 there:=a.there
 tups:=λb g e=>by
  rw[bT,a.tups b g e];intro c;obtain⟨_,d,z⟩:=t.was b c;rw[e]at z;cases z;cases d
 eX:=λb o u e=>by
  rw[bT,a.eX b o u e];intro c;obtain⟨_,d,z⟩:=t.was b c;rw[e]at z;cases z;cases d
 fK:=λb i e=>by
  rw[bT]
  .exact a.fK b i e
  intro c;obtain⟨_,d,z⟩:=t.was b c;rw[e]at z;cases z;cases d
end
open Classical in
def spT(P:Program)(w:World)(sp:Sp):Sp:=λb H Q E=>sp b H (λv a=>∀h,ff P w a h->∃B:Addr->Prop,MB B H a/\Q v (qK B a)) E
open Classical in
theorem bF.yt{P:Program}{w:World}{K:PySem.W.Frag}{a:Str->Option Value}{base:Heap}{CX:oR}{k:Nat}{f:Addr}{b:FuncData}{ps:List Str}{sp:Sp}(F:bF P w K a base CX k f b ps sp) :
  bF P w K a base CX k f b ps (spT P w sp):=
 ⟨λc H Q E q=>F.len _ _ _ _ q,λA outer s H args g c Q E h i j l m=>codeAny_mono (F.run A outer s H args g c _ E h i j l m) λr C z=>by
  cases r with
  |error e=>exact z
  |ok f=>
   cases f with
   |ret u=>
    obtain⟨v,n,o,p,x,d,y,q⟩:=z;obtain⟨B,t,q⟩:=q _ d;exact⟨v,qK B n,o,p,x.yt t,d.yt t.MC,y,q⟩
   |_=>exact z⟩
section
variable{X:Cx}{pins:List (Addr×Obj)}{σ σ':St}{H H':Hp}{s s':Shared}{B:Addr->Prop}[DecidablePred B]
end
end L2
namespace Mir
open PySem PySem.Spec PyProof.Rows L2
variable [aw]
noncomputable def jQ(c:Cell)(b:Option Cell):Cell:=match c,b with
 |.dF a,some (.dK _)=>.dK a
 |.dG a,some (.dT _)=>.dT a
 |c,_=>c
def jb(Ω aD:aI):aI:=aD.mapIdx λk c=>jQ c Ω[k]?
def dr(F:b_):b_:=λc b=>match F c b with
 |.ok d a=>.ok d (jb b a)
 |r=>r
theorem aG.of_get{c d:Type}{R:c->d->Prop}:∀{as:List c}{bs:List d},bs.length=as.length->(∀(i:Nat) (a:c) (b:d),as[i]?=some a->bs[i]?=some b->R a b)->aG R as bs
 |[],[],_,_=>.nil
 |a::as,b::bs,h,k=>.cons (k 0 a b rfl rfl) (aG.of_get (by simpa using h) λi a b e f=>k (i+1) a b (by simpa using e) (by simpa using f))
 |[],_::_,h,_=>by simp at h
 |_::_,[],h,_=>by simp at h
section
variable{X:Cx}{κ:Str->Addr->Prop}{Φ:fg}{α α' ck:List Addr}{Z Z' Z0:Addr->Prop}{Ω aD:aI}{H H' H0:Hp}
open Classical in
theorem yu(S:bb κ α Z Ω H)(g:bU α Z H α' Z' H')(M:bb κ α' Z' aD H'){P:Program}{w:World}{h:Heap}(ok:ff P w H' h):∃B:Addr->Prop,MB B H H'/\bU α Z H α' Z' (qK B H')/\bb κ α' Z' (jb Ω aD) (qK B H')/\∀d v,ah α' Z' H' d v->ah α' Z' (qK B H') d v:=by
 let Cd:Cell->Cell->Prop:=λc G=>(∃l m,c=.dK l/\G=.dF m)\/∃l m,c=.dT l/\G=.dG m
 let B:Addr->Prop:=λb=>∃(k:Nat) (c G:Cell),α'[k]?=some b/\Ω[k]?=some c/\aD[k]?=some G/\Cd c G
 have hw:∀b,B b->b∈α/\∃u,E_ u=true/\H b=some u:=λb ⟨k,c,G,J,Y,F,T⟩=>by
  obtain⟨a,I,E⟩:=S.cell Y;have:=g.pre k a I;rw[J]at this;cases this
  refine⟨List.mem_of_getElem? I,?_⟩;rcases T with ⟨l,m,rfl,rfl⟩|⟨l,m,rfl,rfl⟩
  .obtain⟨s,E,_⟩:=E;exact⟨_,rfl,E⟩
  .obtain⟨s,E,_⟩:=E;exact⟨_,rfl,E⟩
 have hc:∀b,B b->∃o u,E_ u=true/\H' b=some (.cw o u):=λb ⟨k,c,G,J,Y,F,T⟩=>by
  obtain⟨a,I,E⟩:=M.cell F;rw[J]at I;cases I
  rcases T with ⟨l,m,rfl,rfl⟩|⟨l,m,rfl,rfl⟩
  .obtain⟨o,s,E,_⟩:=E;exact⟨o,_,rfl,E⟩
  .obtain⟨o,s,E,_⟩:=E;exact⟨o,_,rfl,E⟩
 have hz:∀b,Z' b->¬ B b:=λb z ⟨k,_,_,J,_⟩=>M.sep b (List.mem_of_getElem? J) z
 have nd:∀b o u,H' b=some (.cw o u)->(∀U V,o.data≠.dict U V)->¬ B b:=λb o u e hd A=>by
  obtain⟨o',u',hu,e'⟩:=hc b A;rw[e]at e';cases e'
  obtain⟨U,V,z⟩:=yr ok e hu;exact hd U V z
 have K:∀d v,ah α' Z' H' d v->ah α' Z' (qK B H') d v:=λd v r=>r.mono (λ_ _ e=>e) (λa o z e=>by rw[bT (hz a z)];exact e) λ_ z=>z
 have fz:∀a o u,H a=some (.cw o u)->qK B H' a=some (.cw o u):=λa o u e=>by
  rw[bT λA=>by obtain⟨_,u,hu,z⟩:=hw a A;rw[e]at z;cases z;cases hu];exact g.cw a o u e
 refine⟨B,⟨hc,λb A=>(hw b A).2⟩,⟨g.pre,g.sub,g.new,g.zu,λa o e ha=>?_,λa ha=>?_,fz⟩,⟨M.jT,?_,M.sep,λa z=>by rw[bT (hz a z)];exact M.dom a z⟩,K⟩
 .rw[bT λA=>ha (hw a A).1];exact g.frm a o e ha
 .by_cases A:B a
  .obtain⟨o,u,_,e⟩:=hc a A;rw[ow A e];simp
  .rw[bT A];exact g.has a ha
 .refine aG.of_get (by unfold jb;rw[List.length_mapIdx];exact M.ti.length) λi c a e f=>?_
  unfold jb at e;rw[List.getElem?_mapIdx]at e;obtain⟨G,J,rfl⟩:=Option.map_eq_some_iff.mp e;obtain⟨a',Y,F⟩:=M.cell J;rw[f]at Y;cases Y
  have Q:B a->∃c,Ω[i]?=some c/\Cd c G:=λ⟨k,c,N,D,y,p3,p4⟩=>by
   have:k=i:=by
    have l1:=(List.getElem?_eq_some_iff.mp D);have l2:=(List.getElem?_eq_some_iff.mp f)
    exact(List.getElem_inj M.jT).mp (l1.2.trans l2.2.symm)
   subst this;rw[J]at p3;cases p3
   exact⟨c,y,p4⟩
  have X:(∀c,¬ Cd c G)->¬ B a:=λq A=>by
   obtain⟨c,_,h⟩:=Q A;exact q c h
  cases G with
  |lst ds=>
   have n:=X λc h=>by rcases h with ⟨_,_,_,h⟩|⟨_,_,_,h⟩<;>cases h
   obtain⟨s,D,y⟩:=F;exact⟨s,by rw[bT n];exact D,y.imp K⟩
  |dK l=>
   have n:=X λc h=>by rcases h with ⟨_,_,_,h⟩|⟨_,_,_,h⟩<;>cases h
   obtain⟨s,D,y⟩:=F;exact⟨s,by rw[bT n];exact D,y.imp K⟩
  |dT l=>
   have n:=X λc h=>by rcases h with ⟨_,_,_,h⟩|⟨_,_,_,h⟩<;>cases h
   obtain⟨s,D,y⟩:=F;exact⟨s,by rw[bT n];exact D,y.imp K⟩
  |ins C fs=>
   have n:=X λc h=>by rcases h with ⟨_,_,_,h⟩|⟨_,_,_,h⟩<;>cases h
   obtain⟨Ca,dx,s,p0,D,y⟩:=F;exact⟨Ca,dx,s,p0,by rw[bT n];exact D,y.imp K⟩
  |tb j p b=>
   have n:=X λc h=>by rcases h with ⟨_,_,_,h⟩|⟨_,_,_,h⟩<;>cases h
   refine⟨F.1,?_⟩;have T:=F.2;cases b with
   |false=>exact(bT n).trans T
   |true=>
    obtain⟨N,oc,u,s,t,L,q2,q3,q4⟩:=T;refine⟨N,oc,u,s,t,(bT n).trans L,?_,q3,q4⟩;rw[bT (nd _ _ _ q2 λU V z=>by rw[q3]at z;cases z)];exact q2
  |dF l=>
   obtain⟨o,s,D,y⟩:=F
   by_cases R:∃k0,Ω[i]?=some (.dK k0)
   .obtain⟨k0,L⟩:=R
    show e_ κ _ _ a (jQ (.dF l) Ω[i]?)
    rw[L];exact⟨s,ow ⟨i,_,_,f,L,J,.inl ⟨_,_,rfl,rfl⟩⟩ D,y.imp K⟩
   .have I:jQ (.dF l) Ω[i]?=.dF l:=by
     unfold jQ;split
     .rename_i z1 z2 z3;exact absurd ⟨_,z3⟩ R
     .rename_i z _;cases z
     .rfl
    rw[I];refine⟨o,s,?_,y.imp K⟩;rw[bT λA=>?_]
    .exact D
    .obtain⟨c,N,c2⟩:=Q A
     rcases c2 with ⟨_,_,rfl,_⟩|⟨_,_,_,h⟩
     .exact R ⟨_,N⟩
     .cases h
  |dG l=>
   obtain⟨o,s,D,y⟩:=F
   by_cases R:∃k0,Ω[i]?=some (.dT k0)
   .obtain⟨k0,L⟩:=R
    show e_ κ _ _ a (jQ (.dG l) Ω[i]?)
    rw[L];exact⟨s,ow ⟨i,_,_,f,L,J,.inr ⟨_,_,rfl,rfl⟩⟩ D,y.imp K⟩
   .have I:jQ (.dG l) Ω[i]?=.dG l:=by
     unfold jQ;split
     .rename_i z _;cases z
     .rename_i z1 z2 z3;exact absurd ⟨_,z3⟩ R
     .rfl
    rw[I];refine⟨o,s,?_,y.imp K⟩;rw[bT λA=>?_]
    .exact D
    .obtain⟨c,N,c2⟩:=Q A
     rcases c2 with ⟨_,_,_,h⟩|⟨_,_,rfl,_⟩
     .cases h
     .exact R ⟨_,N⟩
  |fn j dh=>
   have n:=X λc h=>by rcases h with ⟨_,_,_,h⟩|⟨_,_,_,h⟩<;>cases h
   obtain⟨N,cl,cv,⟨⟨a0,pm,b0,u,L⟩,oc,u1,s,t,q2,q3,q4⟩,O,q5⟩:=F;refine⟨N,cl,cv,⟨⟨a0,pm,b0,u,(bT n).trans L⟩,oc,u1,s,t,(bT (nd _ _ _ q2 λU V z=>by rw[q3]at z;cases z)).trans q2,q3,q4⟩,⟨O.len,λj x v I E=>?_,O.only,O.inj⟩,q5.imp K⟩
   obtain⟨c,o,u2,c0,D,y,p3,p4⟩:=O.get j x v I E;exact⟨c,o,u2,c0,D,(bT (nd _ _ _ y λU V z=>by rw[p3]at z;cases z)).trans y,p3,p4⟩
theorem ua{P:Program}{w:World}{K:PySem.W.Frag}{c:Str->Option Value}{base:Heap}{CX:oR}{k:Nat}{f:Addr}{e:FuncData}{ps:List Str}{F:b_}(h:bF P w K c base CX k f e ps (dq κ F)):bF P w K c base CX k f e ps (dq κ (dr F)):=
 h.yt.imp λz H Q E ⟨l,Z,i,j,S,r,g⟩=>⟨l,Z,i,j,S,r,by
  unfold dr at g;cases q:F j i with
  |ok d a=>
   rw[q]at g;intro v A b m n o p h ok;obtain⟨B,s,t,u,y⟩:=yu S n o ok;exact⟨B,s,g v _ b m t u (y d v p)⟩
  |exc x a=>rw[q]at g;exact g
  |bad=>rw[q]at g;exact g⟩
end
end Mir
namespace L2
open PySem PySem.Spec PyProof.Rows
section
variable{prog:Program}{w:World}{A:Around}{R:Result->Shared->Prop}{h:Heap}{g:Array GenState}{d:Drawn}{t:Nat}{os:OsState}
variable{nm q:Str}{C N f:Addr}{bs bm bmB:List Value}{hdct:Bool}{sn:List Str}{sub:List Value}{ab:Bool}{col:Option Bool}{dd:Option Addr}{k0 k1 k2 k3 k5:Option Value}{B newId initId:String}
abbrev eu(h:Heap)(C:Addr)(rest:List Value):Heap:=(h.push {cls:=.type "tuple",data:=.seq rest.toArray}).push {cls:=.ref C,data:=.fields #[.ref h.objs.size,.none,.none,.none,.bool false,.none]}
theorem lQ(F:ExcBaseFacts B newId initId bmB)(T:OwnTail h bmB bm){mN:Str->Option Value}{rest:List Value}
  (j:h.get? C=some (excClassObj nm q C N bs bm hdct sn sub ab col dd k0 k1 k2 k3 k5 newId)) (u:h.Ns N mN) (n:mN "__init__"=some (.ref f))
  (x:∀self,PySem.W.Looks (model prog w) h (bindSpecial (.ref f) self) (.ref f,[self])) (c:rest.length<=sizeLine)
  {Q:Fin->Shared->Prop}{E:Value->Shared->Prop}
  (y:codeAny (model prog w) A (.call (.ref f) ⟨.ref (h.objs.size+1)::rest,[]⟩) (λr p=>match r with|.ok (.ret v)=>v=.none/\Q (.done (.ret (.ref (h.objs.size+1)))) p|.ok _=>False|.error e=>E e p) ⟨eu h C rest,g,d,t,os⟩) :
  wpAny (model prog w) A (Builtin.«type.__call__» ⟨.ref C::rest,[]⟩) Q E ⟨h,g,d,t,os⟩:=by
 repeat (first|with_reducible refine wpAny_loadPart_at j ?_|with_reducible refine wpAny_madeBy_exc j ?_|wp_step)
 refine codeAny_call_builtin_code (Code.quiet_builtin _ F.quiet) (wpAny_check_new_subT F T j ?_);refine codeAny_exc_new_subT F T j ?_ c
 show wpAny _ _ _ _ _ _
 have k:∀b o,h.get? b=some o->(eu h C rest).get? b=some o:=λb o e=>Heap.get?_push_of_some _ (Heap.get?_push_of_some _ e)
 have a:=k _ _ j;have i:(eu h C rest).Ns N mN:=let ⟨o,es,ep,e,r⟩:=u;⟨o,es,ep,k _ _ e,r⟩
 have l:(eu h C rest).get? (h.objs.size+1)=some {cls:=.ref C,data:=.fields #[.ref h.objs.size,.none,.none,.none,.bool false,.none]}:=by heap_get
 have s:(Value.ref C::bm).contains (.ref C)=true:=by simp
 have m:=T.keeps k;have D:=(x (.ref (h.objs.size+1))).keeps k;unfold isInstance
 repeat (first|with_reducible refine wpAny_loadPart_at l ?_ | (with_reducible refine wpAny_isSubtype_exc a ?_;rw[s])|wp_step)
 show wpAny _ _ (typeLookup (.ref C) _) _ _ _
 refine wpAny_typeLookup_tail a i m F.mroIs F.init.lookup ?_;rw[n];refine wpAny_holding (wpAny_bind (D.at ?_));refine wpAny_bind (wpAny_call (codeAny_mono y λr p z=>?_))
 rcases r with e | (v|_|_|_)<;>first|exact z|exact z.elim|skip
 obtain⟨rfl,z⟩:=z;exact wpAny_pure (wpAny_pure z)
theorem yv(F:ExcBaseFacts B newId initId bmB)(T:OwnTail h bmB bm){mN:Str->Option Value}{rest:List Value}
  (b:h.get? C=some (excClassObj nm q C N bs bm hdct sn sub ab col dd k0 k1 k2 k3 k5 newId)) (e:h.Ns N mN) (c:mN "__init__"=some (.ref f))
  (i:∀self,PySem.W.Looks (model prog w) h (bindSpecial (.ref f) self) (.ref f,[self])) (a:rest.length<=sizeLine)
  (j:codeAny (model prog w) (A.under (.builtin "type.__call__" ⟨.ref C::rest,[]⟩)) (.call (.ref f) ⟨.ref (h.objs.size+1)::rest,[]⟩) (PySem.W.InitBack (h.objs.size+1) R) ⟨eu h C rest,g,d,t,os⟩) :
  codeAny (model prog w) A (.call (.ref C) ⟨rest,[]⟩) R ⟨h,g,d,t,os⟩:=by
 have k:=tc_lookup;have l:=tc_bind (.ref C);have m:(⟨h,g,d,t,os⟩:Shared).TypeIs (.ref C) "type":=⟨_,b,rfl⟩;refine codeAny_of_tree ?_
 show wpAny _ _ (callAny (.ref C) _) _ _ _
 repeat (any_goals (first|assumption|with_reducible refine wpAny_loadPart_at b ?_|wp_step))
 refine⟨rfl,?_⟩;refine codeAny_call_builtin_at (Code.quiet_builtin _ (by decide +kernel)) entry_typeCall (wpAny_check_type_call_sub b (lQ F T b e c i a ?_))
 exact j
end
end L2
namespace L2
open PySem PySem.Spec PyProof.Rows
open PySem.W (clsIn findIn takerIn InstAt)
open PySem.Builtin PySem.Builtin.ObjectAttr PySem.Builtin.Getset_descriptor
section
variable{K:PySem.W.Frag}{prog:Program}{w:World}{A:Around}{E:Value->Shared->Prop}{s:Shared}{x C:Addr}{name:Str}{v:Value}{R:Result->Shared->Prop}
abbrev iu:List Value:=[.type "ValueError",.type "Exception",.type "BaseException",.type "object"]
noncomputable def fe:List Value->Bool
 |.ref _::r=>fe r
 |l=>l==iu
theorem mM(self:Value):∀{l:List Value},fe l=true->refuseLoop self "__setattr__" l=pure ()
 |[],e=>by simp[fe]at e
 |a::r,e=>by
  cases a with
  |ref c=>rw[refuseLoop_ref];exact mM self e
  |_=>rw[eq_of_beq (show(_==iu)=true from e)];exact PySem.F.store_ValueError.passes self
theorem yw:∀{l:List Value},fe l=true->l.contains (.type "object")=true
 |[],e=>by simp[fe]at e
 |a::r,e=>by
  cases a with
  |ref c=>rw[List.contains_cons,yw (l:=r) e,Bool.or_true]
  |_=>rw[eq_of_beq (show(_==iu)=true from e)];decide
theorem BL{ox:Obj}{od:Option Obj}{tk:Tok}{d:ClassData}(X:K.In s.heap)(I:InstAt s.heap x ox C od)(m:clsIn K C=some d)(i:fe d.mro=true)(o:takerIn K C name=some none)
  (h:∀b,wpAny (model prog w) A.in1 (storeInOwnDict (.ref x) (.ref C) (.str name tk) name v b) (λk j=>match k with|.done f=>R (.ok f) j|.again n=>n.quiet=true/\codeAny (model prog w) A n R j) (λe j=>R (.error e) j) s) :
  codeAny (model prog w) A (.call (.builtin "object.__setattr__") ⟨[.ref x,.str name tk,v],[]⟩) R s:=by
 have g:=PySem.F.store_object
 have p:d.mro.isEmpty=false:=by cases q:d.mro with
  |nil=>rw[q]at i;simp[fe]at i
  |cons _ _=>rfl
 have l:PySem.W.Looks (model prog w) s.heap (isInstance (.ref x) (.type "object")) true:=I.type.andThen (PySem.W.looks_mroIn X (by unfold PySem.W.mroIn;rw[m,Option.bind_some,if_neg (by rw[p];decide),yw i]))
 refine codeAny_call_builtin g.slot.plain g.entry (@PySem.W.check_slot (model prog w) _ _ s _ _ _ (.ref x) [.str name tk,v] [] _ g.kind g.split l (g.args _ _ _) ?_);obtain⟨c,r,t⟩:=Option.bind_eq_some_iff.mp o;have u:PySem.W.Looks (model prog w) s.heap (mroOf (.ref C)) d.mro:=(PySem.W.looks_clsIn X m).andThen .now
 have y:PySem.W.Looks (model prog w) s.heap (storeTaker? c) none:=by
  cases c with
  |none=>exact .now
  |some a=>
   obtain⟨b,z,e⟩:=Option.map_eq_some_iff.mp t;refine(PySem.W.looks_takesIn X z).andThen ?_;cases b with
   |true=>cases e
   |false=>exact .now
 rw[PySem.W.osa_eq,refuse_eq];refine wpAny_bind (wpAny_bind (I.type.here (wpAny_bind (u.here ?_))));rw[mM _ i];refine wpAny_pure (wpAny_bind (I.type.here (wpAny_bind ((PySem.W.looks_findIn X r).here (wpAny_bind (y.here ?_))))));exact h _
theorem BN{vs:Array Value}{c:Array (Option Value)}{j:ClassData}{Q:Unit->Shared->Prop}(X:K.In s.heap)(i:s.heap.get? x=some ⟨.ref C,none,.fields vs,c⟩)(u:clsIn K C=some j)(z:fe j.mro=true)(B:j.hasDict=true)
  (D:findIn K (.ref C) "__setattr__"=some (some (.builtin "object.__setattr__"))) (F:takerIn K C name=some none)
  (h:∀h' t',h'.get? x=some ⟨.ref C,some s.heap.objs.size,.fields vs,c⟩->h'.Ns1 s.heap.objs.size (λy=>if y=name then some v else none)->(∀b o,b≠x->s.heap.get? b=some o->h'.get? b=some o)->Q () {s with heap:=h',toks:=t' }) :
  wpAny (model prog w) A (setAttr (.ref x) name v) Q E s:=by
 have I:InstAt s.heap x ⟨.ref C,none,.fields vs,c⟩ C none:=⟨i,rfl,rfl,trivial⟩;refine PySem.W.set_plain X I D (BL (s:={s with toks:=s.toks+1}) X I u z F λb=>?_)
 have a:(s.heap.push {cls:=.type "dict",data:=.dict #[]}).get? x=some ⟨.ref C,none,.fields vs,c⟩:=Heap.get?_push_of_some _ i;have d:x≠s.heap.objs.size:=Nat.ne_of_lt (Heap.lt_size i);refine wpAny_bind (wpAny_pure (wpAny_bind (wpAny_bind (wpAny_loadPart i (wpAny_bind (PySem.W.Looks.here (s:={s with toks:=s.toks+1}) (PySem.W.looks_clsIn X u) ?_))))));rw[B];refine wpAny_bind (wpAny_alloc' (wpAny_bind (wpAny_update' a (wpAny_pure ?_))))
 have k:((s.heap.push {cls:=.type "dict",data:=.dict #[]}).update x λo=>{o with dict:=some s.heap.objs.size}).get? s.heap.objs.size=some {cls:=.type "dict",data:=.dict #[]}:=
  (Heap.get?_update_ne _ _ _ _ d.symm).trans (Heap.get?_push_at rfl rfl)
 have l:((s.heap.push {cls:=.type "dict",data:=.dict #[]}).update x λo=>{o with dict:=some s.heap.objs.size}).Ns s.heap.objs.size (λ_=>none):=
  ⟨_,#[],_,k,rfl,λe G=>absurd G (by simp),λ_=>rfl⟩
 have m:((s.heap.push {cls:=.type "dict",data:=.dict #[]}).update x λo=>{o with dict:=some s.heap.objs.size}).get? x=some ⟨.ref C,some s.heap.objs.size,.fields vs,c⟩:=Heap.get?_update_self _ a rfl
 have n:∀b o,b≠x->s.heap.get? b=some o->((s.heap.push {cls:=.type "dict",data:=.dict #[]}).update x λo=>{o with dict:=some s.heap.objs.size}).get? b=some o:=λb o p e=>
  (Heap.get?_update_ne _ _ _ _ p).trans (Heap.get?_push_of_some _ e)
 show wpAny _ _ (storeInDict s.heap.objs.size (.str name s.toks) name v) _ _ _
 unfold storeInDict newKeyGuard;refine wpAny_bind (wpAny_pure (wpAny_bind (wpAny_nsSet1 (Heap.Ns1.of_empty l) λh' f g=>?_)))
 obtain⟨L,H,J,q,r,t⟩:=f.count (Within.cons name v Within.nil);refine wpAny_bind (wpAny_lookBehind q (by rw[r];exact pastItsLine_dict (Nat.le_trans t (by rw[List.length_cons,List.length_nil,sizeLine_eq];omega))) ?_)
 refine wpAny_pure (h h' _ ((g.2 x d).trans m) f λb o p e=>(g.2 b (Nat.ne_of_lt (Heap.lt_size e))).trans (n b o p e))
end
end L2
namespace L2
open PySem PySem.Spec PyProof.Rows
section
variable{prog:Program}{w:World}{A:Around}{R:Result->Shared->Prop}{h:Heap}{g:Array GenState}{d:Drawn}{t:Nat}{os:OsState}
variable{nm q:Str}{C N e:Addr}{bs bm bmB:List Value}{hdct:Bool}{sn:List Str}{sub:List Value}{ab:Bool}{col:Option Bool}{dd od:Option Addr}{k0 k1 k2 k3 k5:Option Value}{B newId initId:String}{a0:Addr}{sl:Array (Option Value)}
theorem lR(F:ExcBaseFacts B newId initId bmB)(T:OwnTail h bmB bm){rest:List Value}
  (j:h.get? C=some (excClassObj nm q C N bs bm hdct sn sub ab col dd k0 k1 k2 k3 k5 newId)) (a:h.get? e=some ⟨.ref C,od,.fields #[.ref a0,.none,.none,.none,.bool false,.none],sl⟩) (c:rest.length<=sizeLine)
  (k:∀h',h'.get? e=some ⟨.ref C,od,.fields #[.ref h.objs.size,.none,.none,.none,.bool false,.none],sl⟩->h'.get? h.objs.size=some {cls:=.type "tuple",data:=.seq rest.toArray}->(∀b o,b≠e->h.get? b=some o->h'.get? b=some o)->R (.ok (.ret .none)) ⟨h',g,d,t,os⟩) :
  codeAny (model prog w) A (.call (.builtin initId) ⟨.ref e::rest,[]⟩) R ⟨h,g,d,t,os⟩:=by
 refine codeAny_call_builtin F.init.plain F.initEntry (wpAny_check_init_subT F T j a rfl ?_);have f:=Heap.get?_push_of_some (h:=h) {cls:=.type "tuple",data:=.seq rest.toArray} a;have i:h.objs.size≠e:=Nat.ne_of_gt (Heap.lt_size a)
 wp_walk
 refine k _ ?_ ?_ λb o l m=>?_
 .exact Heap.get?_update_self _ f rfl
 .rw[Heap.get?_update_other _ _ (Ne.symm i)]
  exact Heap.get?_push_at rfl rfl
 .rw[Heap.get?_update_other _ _ (Ne.symm l)]
  exact Heap.get?_push_of_some _ m
end
end L2
namespace L2
open PySem PySem.Spec PyProof.Rows
open PySem.W (clsIn findIn takerIn InstAt Looks mroIn)
structure rW(K:PySem.W.Frag)(C:Addr):Prop where
 ga:findIn K (.ref C) "__getattribute__"=some (some (.builtin "BaseException.__getattribute__"))
 gn:findIn K (.ref C) "__getattr__"=some none
 be:mroIn K C (.type "BaseException")=some true
section
variable{prog:Program}{w:World}{A:Around}{E:Value->Shared->Prop}{h:Heap}{g:Array GenState}{d:Drawn}{t:Nat}{os:OsState}{K:PySem.W.Frag}{x C:Addr}{ox:Obj}{od:Option Obj}{FU:Value}
theorem yx{Q:Unit->Shared->Prop}(X:K.In h)(I:InstAt h x ox C od)(G:rW K C)(c:Q () ⟨h,g,d,t,os⟩):wpAny (model prog w) A (checkBuiltinCall "BaseException.__getattribute__" ⟨[.ref x,FU],[]⟩) Q E ⟨h,g,d,t,os⟩:=by
 have b:builtinKind "BaseException.__getattribute__"=some .slot:=by decide +kernel
 have a:splitId "BaseException.__getattribute__"=some ("BaseException","__getattribute__"):=by decide +kernel
 have e:=F.args_bexc_ga (.ref x) FU;have L:Looks (model prog w) h (isInstance (.ref x) (.type "BaseException")) true:=(I.type).andThen (PySem.W.looks_mroIn X G.be);simp only[checkBuiltinCall,b,a];refine wpAny_bind (L.at ?_)
 repeat (any_goals (first|assumption|wp_step))
theorem BO{v:Value}{t':Nat}{R:Result->Shared->Prop}(X:K.In h)(I:InstAt h x ox C od)(G:rW K C)(a:∀(Q:Fin->Shared->Prop) (E:Value->Shared->Prop),Q (.done (.ret v)) ⟨h,g,d,t',os⟩->wpAny (model prog w) A.in1 (Builtin.«object.__getattribute__» ⟨[.ref x,FU],[]⟩) Q E ⟨h,g,d,t,os⟩)
  (b:R (.ok (.ret v)) ⟨h,g,d,t',os⟩):codeAny (model prog w) A (.call (.builtin "BaseException.__getattribute__") ⟨[.ref x,FU],[]⟩) R ⟨h,g,d,t,os⟩:=
 codeAny_call_builtin F.attr_ValueError.ga.plain F.entry_bexc_ga (yx X I G (a _ _ b))
theorem CV{v:Value}{t':Nat}{fill a:Bool}{Q:Value->Shared->Prop}(X:K.In h)(I:InstAt h x ox C od)(G:rW K C)(c:∀(A:Around) (Q:Fin->Shared->Prop) (E:Value->Shared->Prop),Q (.done (.ret v)) ⟨h,g,d,t',os⟩->wpAny (model prog w) A (Builtin.«object.__getattribute__» ⟨[.ref x,FU],[]⟩) Q E ⟨h,g,d,t,os⟩)
  (e:handedOut v=pure v) (f:Q v ⟨h,g,d,t',os⟩):wpAny (model prog w) A (getAttrBy (.ref x) FU fill a) Q E ⟨h,g,d,t,os⟩:=by
 have i:=I.type (M:=model prog w);have L1:=PySem.W.looks_findIn (M:=model prog w) X G.ga;have L2:=PySem.W.looks_findIn (M:=model prog w) X G.gn;have k:=F.attr_ValueError.ga.bind (.ref x);have j:(a&&onTheHeap (Value.builtin "BaseException.__getattribute__"))=false:=by cases a<;>rfl
 have b:(Value.builtin "BaseException.__getattribute__"==Value.builtin "object.__getattribute__")=false:=by decide +kernel
 unfold getAttrBy;refine wpAny_holding (wpAny_bind (i.at (wpAny_bind (L1.at ?_))))
 show wpAny _ _ (if (onTheHeap (.ref C)&&Value.builtin "BaseException.__getattribute__"==Value.builtin "object.__getattribute__")=true then _ else _) _ _ _
 rw[if_neg (by rw[b];simp)]
 unfold getAttrByItsOwn hookBefore;rw[if_pos (by rfl)]
 refine wpAny_bind (L2.at ?_)
 repeat (any_goals (first|assumption|wp_step))
 refine BO X I G (c _) ?_
 show wpAny _ _ (handedOut v) _ _ _
 rw[e];exact wpAny_pure f
theorem BP{v:Value}{name:Str}{a:Bool}{Q:Value->Shared->Prop}(X:K.In h)(I:InstAt h x ox C od)(G:rW K C)(b:PySem.W.findObj K C od name=some (.value v))(c:PySem.W.handedIn v=true)(e:Q v ⟨h,g,d,t+1,os⟩) :
  wpAny (model prog w) A (getAttr (.ref x) name a) Q E ⟨h,g,d,t,os⟩:=by
 unfold getAttr;refine wpAny_bind (wpAny_mkText (CV X I G (λi j k q=>?_) (PySem.W.handedOut_of c) e))
 have f:=I.type (M:=model prog w);have L1:=PySem.W.looks_find (M:=model prog w) X I b;unfold Builtin.«object.__getattribute__»;refine wpAny_bind (wpAny_pure (wpAny_bind (wpAny_pure (wpAny_bind (f.at (wpAny_bind (L1.at ?_)))))));exact wpAny_pure q
theorem vM{od:Obj}{Q:Option Value->Shared->Prop}(X:K.In h)(I:InstAt h x ox C (some od))(G:rW K C)(hdct:PySem.W.hasDictIn K C=true)(b:findIn K (.ref C) "__class__"=some (some (.builtin "object.__class__")))
  (c:PySem.W.specialIn K (.builtin "object.__class__") "__get__"=some (some (.builtin "getset_descriptor.__get__"))) (a:PySem.W.takesIn K (.builtin "object.__class__")=some true) (e:mroIn K C (.type "object")=some true)
  (f:Q (some (.ref C)) ⟨h,g,d,t+1,os⟩):wpAny (model prog w) A (getAttr? (.ref x) "__class__") Q E ⟨h,g,d,t,os⟩:=by
 have i:PySem.W.findObj K C (some od) "__class__"=some (.bind (.builtin "getset_descriptor.__get__") (.builtin "object.__class__")):=PySem.W.findObj_data (by obtain⟨l,j,_⟩:=PySem.W.any_some hdct;rw[j];rfl) b c a
 unfold getAttr? getAttrBy?;refine wpAny_bind (wpAny_mkText (wpAny_bind (wpAny_attempt (CV (t':=t+1) X I G (λm n o q=>?_) rfl (wpAny_pure f)))))
 have k:=I.type (M:=model prog w);have L1:=PySem.W.looks_find (M:=model prog w) X I i;unfold Builtin.«object.__getattribute__»;refine wpAny_bind (wpAny_pure (wpAny_bind (wpAny_pure (wpAny_bind (k.at (wpAny_bind (L1.at ?_)))))))
 show wpAny _ _ (holding [.builtin "object.__class__"] (call (.builtin "getset_descriptor.__get__") [.builtin "object.__class__",.ref x,.ref C]) >>= ret) _ _ _
 exact wpAny_bind (wpAny_holding (wpAny_call (PySem.W.class_get (s:=⟨h,g,d,t+1,os⟩) (ox:=ox) (od:=some od) X I e (wpAny_pure q))))
theorem qA{ox od:Obj}(G:rW K C)(hdct:PySem.W.hasDictIn K C=true)(m:findIn K (.ref C) "__class__"=some (some (.builtin "object.__class__")))
  (o:PySem.W.specialIn K (.builtin "object.__class__") "__get__"=some (some (.builtin "getset_descriptor.__get__"))) (b:PySem.W.takesIn K (.builtin "object.__class__")=some true) (p:mroIn K C (.type "object")=some true) :
  PySem.W.KitX K (.ref x) (.ref C) (λh=>InstAt h x ox C (some od)) where
 ty:=λ_ _ _ I=>I.type
 it:=λ_ _ X _=>by
  obtain⟨c,a,_⟩:=PySem.W.any_some hdct;unfold PySem.W.clsIn at a;split at a
  .rename_i r u f i j
   intro A B D E k q;unfold isType loadHead;exact wpAny_bind (wpAny_loadPart (k _ _ (X _ _ j)) (wpAny_pure q))
  .cases a
 ne:=λh w F y n H X l=>by
  obtain⟨c,a,_⟩:=PySem.W.any_some hdct;refine Bool.eq_false_iff.mpr λq=>?_
  have e:C=w:=Value.ref.inj (beq_iff_eq.mp q);subst e;unfold PySem.W.clsIn at a;split at a
  .rename_i r u f i j
   have z:=(X _ _ j).symm.trans l;cases z
  .cases a
 ca:=λ{_ _ _ _ _ s} X I k=>by
  obtain⟨h,g,d,t,J⟩:=s;exact vM X I G hdct m o b p k
end
end L2
namespace L2
open PySem PySem.Spec PyProof.Rows
open PySem.W (clsIn findIn takerIn InstAt)
structure qB(K:PySem.W.Frag)(C N fI:Addr):Prop where
 ex:∃(nm q:Str) (bs bm:List Value) (sn:List Str) (sub:List Value) (ab:Bool) (col:Option Bool) (dd:Option Addr) (k0 k1 k2 k3 k5:Option Value),
  K.lookup C=some (excClassObj nm q C N bs bm true sn sub ab col dd k0 k1 k2 k3 k5 "ValueError.__new__")/\(∀h:Heap,K.In h->OwnTail h iu bm)
 cd:∃cd,clsIn K C=some cd/\fe cd.mro=true/\cd.hasDict=true
 sa:findIn K (.ref C) "__setattr__"=some (some (.builtin "object.__setattr__"))
 xg:rW K C
 hd:PySem.W.hasDictIn K C=true
 ns:∀h:Heap,K.In h->∃mN,h.Ns N mN/\mN "__init__"=some (.ref fI)
 kp:PySem.W.keepIn K (.ref C)=true
 fn:PySem.W.typeIn K (.ref fI)=some (.type "function")
noncomputable def cC(C:Addr)(od:Option Addr)(t:Addr):Obj:=⟨.ref C,od,.fields #[.ref t,.none,.none,.none,.bool false,.none],#[]⟩
section
variable{X:Cx}{pins:List (Addr×Obj)}{σ:St}{H:Hp}{s:Shared}{e C N fI t:Addr}{fld:Str}
theorem Inv.yy(I:Inv X [] σ H s){o:Obj}(h:s.heap.get? e=some o)(a:H e=none)(b:e≠X.env.locals)(c:e∉X.fs)(d:∀v,o.data≠.cell v):Inv X [(e,o)] σ H s:=
 ⟨I.ok,I.os,I.bare,I.base,I.loc,I.cell,I.free,I.cD,λp f=>by
  rcases List.mem_append.mp f with q|q
  .exact I.pin p (by simp[q])
  .rw[List.mem_singleton.mp q];exact⟨h,a,b,c,d⟩,I.hok,I.len⟩
theorem Inv.CW(I:Inv X pins σ H s):Inv X [] σ H s:=
 ⟨I.ok,I.os,I.bare,I.base,I.loc,I.cell,I.free,I.cD,λp a=>I.pin p (by rw[List.append_nil]at a;simp[a]),I.hok,I.len⟩
theorem BQ{Q:Unit->Shared->Prop}{E:Value->Shared->Prop}{A:Around}{v:V}{u:Value}(I:Inv X [(e,cC C none t)] σ H s)(T:qB X.K C N fI)(R:cK X.K C fld)(S:e∈X.ex\/X.s₀.heap.objs.size<=e)(l:∀x c,X.env.cells.lookup x=some c->c≠e)(n:∀p∈X.pn,p.1≠e)(r:RelV v u)
  (h:∀dd G,H dd=none->dd≠e->Inv X [(e,cC C (some dd) t)] σ (upd H dd (.xd [(fld,v)])) G->Q () G):wpAny (model X.prog X.w) A (setAttr (.ref e) fld u) Q E s:=by
 obtain⟨cd,U,Y,Z⟩:=T.cd;obtain⟨y,j,k,L,p5⟩:=I.pin (e,cC C none t) (by simp)
 dsimp only at y j k L p5;have d:H s.heap.objs.size=none:=I.hok.fresh (Nat.le_refl _);have B:=Heap.lt_size y;have i:s.heap.objs.size≠e:=Nat.ne_of_gt B;refine BN I.eg y U Y Z T.sa R.taker λM t' g1 g2 g3=>h s.heap.objs.size _ d i ?_
 have I0:=I.CW;have keep:∀b o,b∉[e]->s.heap.get? b=some o->M.get? b=some o:=λb o hb q=>g3 b o (by simpa using hb) q
 have J:Inv X [] σ (upd H s.heap.objs.size (.xd [(fld,v)])) {s with heap:=M,toks:=t' }:=by
  refine I0.step (ch:=[e]) (λb hb=>?_) (λb o _ _ hb q _=>keep b o hb q) (λb o _ _ hb q _=>⟨o.slots,keep b o hb q⟩) (λb o hb q D=>?_) (λb o hb q=>⟨o,keep b o hb q⟩) (λb xs q=>?_) (λb o O q=>?_) (λb ps q=>?_) (λm D=>?_) ?_ I.bare
  .rw[List.mem_singleton.mp hb]
   exact⟨S,k,l,λp hp=>n p (by simpa using hp)⟩
  .rw[ai (Nat.ne_of_lt (Heap.lt_size q))];exact D
  .rw[ai (λz=>by rw[z,d]at q;cases q)];exact q
  .rw[ai (λz=>by rw[z,d]at q;cases q)];exact q
  .exact⟨#[],by rw[ai (λz=>by rw[z,d]at q;cases q),q];simp⟩
  .obtain⟨o,es,ep,e1,e2⟩:=D
   exact⟨o,es,ep,keep _ o (by simp[Ne.symm k]) e1,e2⟩
  .intro a o q
   by_cases P:a=s.heap.objs.size
   .subst P
    rw[aF]at q;cases q;refine⟨_,g2,λf=>?_⟩
    show fh ([(fld,v)].lookup f) (if f=fld then some u else none)
    by_cases F:f=fld
    .rw[F,if_pos rfl];simp[List.lookup];exact r
    .rw[if_neg F]
     have:(f==fld)=false:=by simpa using F
     simp[List.lookup,this];exact trivial
   .rw[ai P]at q
    refine(I.hok a o q).stay (λb O hb g=>keep b O (λz=>?_) g) (λb g=>?_) λb xs g=>?_
    .rw[List.mem_singleton.mp z]at hb
     rcases hb with hb|hb
     .rw[←hb,j]at q;cases q
     .rw[j]at hb;cases hb
    .rw[ai (λz=>by rw[z,d]at g;cases g)];exact g
    .rw[ai (λz=>by rw[z,d]at g;cases g)];exact g
 exact J.yy g1 (by rw[ai (Ne.symm i)];exact j) k L (λv=>by simp[cC])
theorem ub{Q:Value->Shared->Prop}{E:Value->Shared->Prop}{A:Around}{v:V}{b:Bool}{dd:Addr}{o:Obj}{fs:List (Str×V)}(I:Inv X pins σ H s)(T:qB X.K C N fI)(f:cK X.K C fld)(i:s.heap.get? e=some o)(j:o.cls=.ref C)(a:o.dict=some dd)(c:PySem.W.notCls o=true)
  (k:H dd=some (.xd fs)) (m:fs.lookup fld=some v) (h:∀u,RelV v u->Inv X pins σ H {s with toks:=s.toks+1}->Q u {s with toks:=s.toks+1}):wpAny (model X.prog X.w) A (getAttr (.ref e) fld b) Q E s:=by
 obtain⟨p,n,r⟩:=I.hok dd _ k;obtain⟨u,q,d⟩:=fh.some_of (v:=v) (o:=p fld) (by rw[←m];exact r fld)
 obtain⟨t,g,l⟩:=gM n;have J:InstAt s.heap e o C (some t):=⟨i,j,c,by rw[a];exact g⟩
 have x:=h u d (I.tok _);have y:=I.eg;obtain⟨z,B,D,F,G⟩:=s;exact BP y J T.xg (PySem.W.findObj_own T.hd f (by rfl) (by rw[l,q])) (lV d) x
end
end L2
namespace L2
open PySem PySem.Spec PyProof.Rows
open PySem.W (clsIn findIn takerIn InstAt)
section
variable{X:Cx}{pins:List (Addr×Obj)}{σ:St}{H:Hp}{s:Shared}{e C N fI t dd:Addr}{fld:Str}{o o':Obj}{h':Heap}
structure yz(X:Cx)(e:Addr):Prop where
 new:e∈X.ex\/X.s₀.heap.objs.size<=e
 cell:∀x c,X.env.cells.lookup x=some c->c≠e
 pn:∀p∈X.pn,p.1≠e
theorem Inv.QO{t':Nat}(I:Inv X [(e,o)] σ H s)(F:yz X e)(j:h'.get? e=some o')(k:∀b ob,b≠e->s.heap.get? b=some ob->h'.get? b=some ob)(l:∀v,o'.data≠.cell v):Inv X [(e,o')] σ H {s with heap:=h',toks:=t' }:=by
 obtain⟨n,d,f,h,r⟩:=I.pin (e,o) (by simp)
 dsimp only at n d f h r;have t:=I.CW;have keep:∀b o,b∉[e]->s.heap.get? b=some o->h'.get? b=some o:=λb o hb q=>k b o (by simpa using hb) q
 have J:Inv X [] σ H {s with heap:=h',toks:=t' }:=by
  refine t.step (ch:=[e]) (λb hb=>?_) (λb o _ _ hb q _=>keep b o hb q) (λb o _ _ hb q _=>⟨o.slots,keep b o hb q⟩) (λb o hb q g=>g) (λb o hb q=>⟨o,keep b o hb q⟩) (λb w q=>q) (λb o i q=>q) (λb D q=>⟨#[],by rw[q];simp⟩) (λm g=>?_) ?_ I.bare
  .rw[List.mem_singleton.mp hb]
   exact⟨F.new,f,F.cell,λp x=>F.pn p (by simpa using x)⟩
  .obtain⟨o,y,A,B,C⟩:=g
   exact⟨o,y,A,keep _ o (by simp[Ne.symm f]) B,C⟩
  .intro a u q
   refine(I.hok a u q).stay (λb i hb c=>keep b i (λz=>?_) c) (λb c=>c) λb w c=>c
   rw[List.mem_singleton.mp z]at hb;rcases hb with hb|hb
   .rw[←hb,d]at q;cases q
   .rw[d]at hb;cases hb
 exact J.yy j d f h l
structure XBase(K:PySem.W.Frag)(mg:Str->Option Value)(bn:Str)(B0:Addr):Prop where
 mg:mg bn=some (.ref B0)
 ga:PySem.W.specialIn K (.ref B0) "__getattribute__"=some (some (.builtin "type.__getattribute__"))
 rd:PySem.W.readsIn K B0 (.type "type")=true
 ini:PySem.W.findCls K (.ref B0) (.type "type") "__init__"=some (.val (.builtin "ValueError.__init__"))
theorem yA{bn:Str}{r:Addr}{v:V}{fs:List (Str×V)}{i:Nat}{a:Str}{p1 p2 p3 j apos pos:Pos}{pl:Sem Bool}{Q:Value->Shared->Prop}(I:Inv X [(e,cC C (some dd) t)] σ H s)(F:yz X e)(T:qB X.K C N fI)(B:XBase X.K X.mg bn r)(x:cK X.K C fld)
  (y:H dd=some (.xd fs)) (z:fs.lookup fld=some v) (m:X.N[i]?=some a) (n:uB X.env.scope a) (b:σ[i]?=some (some (.ref e))) (D:Gl X bn)
  (E:eval (.Call (.Attribute (.Name bn p1) "__init__" apos) [.Name a p2,.Attribute (.Name a p3) fld j] [] pos) X.env=(do
   let o ←eval (.Name bn p1) X.env
   standAt apos.atName
   let (f,first) ←holding [o] (getMethod o "__init__" pl)
   callWith pos f first (backTo pos (starEach [.Name a p2,.Attribute (.Name a p3) fld j] X.env)) (backToKw pos (keywordEach [] X.env))))
  (h:∀t' p,Inv X [(e,cC C (some dd) t')] σ H p->Q .none p) (k:(bn==("__debug__":Str))=false:=by decide) (c:(a==("__debug__":Str))=false:=by decide) (d:(a==("__classdict__":Str))=false:=by decide) :
  wpAny (model X.prog X.w) X.A (eval (.Call (.Attribute (.Name bn p1) "__init__" apos) [.Name a p2,.Attribute (.Name a p3) fld j] [] pos) X.env) Q X.xe s:=by
 refine PySem.W.methodCall_KW (pl:=pl) (eh I D B.mg ?_ k) E;refine PySem.W.method_cls I.eg B.ga (PySem.W.cls_value I.eg B.rd B.ini (by decide +kernel) ?_)
 have G:=I.tok (s.toks+1);refine PyProof.Rows.callWith_builtin1 ?_ rfl rfl;refine Calls.spliced_cons (bM (eY (pos:=p2) m n c d _ _ σ H (λw l=>w=.ref e/\l=H) G ⟨.ref e,b,rfl,rfl⟩) λu s1 ⟨w,H1,J1,J,hw,hH⟩=>?_)
 subst hw hH;cases (show u=Value.ref e from J)
 refine Calls.spliced_cons (m_ rfl (bM (eY (pos:=p3) m n c d _ _ σ H1 (λw l=>w=.ref e/\l=H1) J1 ⟨.ref e,b,rfl,rfl⟩) λu s2 ⟨w,H2,J2,L,hw,hH⟩=>?_))
 subst hw hH;cases (show u=Value.ref e from L)
 obtain⟨M,_,_,_,_⟩:=J2.pin (e,cC C (some dd) t) (by simp)
 refine ub J2 T x M rfl rfl rfl y z λu ru g=>?_
 refine Calls.spliced_nil ?_;obtain⟨nm,q,bs,bm,sn,O,ab,P,R,k0,k1,k2,k3,k5,S,U⟩:=T.ex;obtain⟨Y,_,_,_,_⟩:=g.pin (e,cC C (some dd) t) (by simp)
 refine wpAny_call (lR PySem.F.excBase_ValueError (U _ g.eg) (g.eg _ _ S) Y (by show 1<=sizeLine;decide) λh' Z g2 g3=>?_)
 exact h _ _ (g.QO F Z g3 (λv=>by simp[cC]))
end
end L2
namespace L2
open PySem PySem.Spec PyProof.Rows
section
variable{X:Cx}{pins:List (Addr×Obj)}{σ:St}{H:Hp}{s:Shared}{e:Addr}
noncomputable def Cx.mk1(X:Cx)(e:Addr):Cx:={X with ex:=[e]}
theorem Inv.mk1(I:Inv X pins σ H s)(d:X.ex=[])(f:e≠X.env.locals)(g:∀x c,X.env.cells.lookup x=some c->c≠e)(i:∀o,X.base.get? e≠some o)(j:e∉X.fs):Inv (X.mk1 e) pins σ H s:=
 ⟨⟨I.ok.mod,I.ok.kind,I.ok.glob,I.ok.blt,I.ok.above,I.ok.inj,I.ok.has,I.ok.cab,I.ok.hd,I.ok.frames,I.ok.zr,λb a=>by rw[List.mem_singleton.mp a];exact⟨f,g⟩,I.ok.bs,I.ok.qJ,λb o q a=>by rw[List.mem_singleton.mp a]at q;exact i o q,λb a=>by rw[List.mem_singleton.mp a];exact j,I.ok.fi,I.ok.so⟩,
  I.os,I.bare,I.base.mono (λ_ h=>h) (by rw[d];simp),I.loc,I.cell,I.free,I.cD,I.pin,I.hok,I.len⟩
end
section
variable{P:Program}{w:World}{K:PySem.W.Frag}{mg:Str->Option Value}{base:Heap}
theorem BR{x qual a g bn fld:Str}{st:Stmt}{f c C N0 B0:Addr}{fd:FuncData}{k:Nat}{ve:Expr}{a1 a2 p1 p2 p3 p4 apos pos a3 p5:Pos}{pl:Env->Sem Bool}{gG:VK}
  (F:vY K x qual st f fd) (a0:fd.code=.ref c) (S:eR [a,g] [a,g] (ae st)) (T:qB K C N0 f) (B:XBase K mg bn B0) (na:cK K C fld)
  (b0:ay st=[.Assign [.Attribute (.Name a a1) fld a2] ve a3,.Expr (.Call (.Attribute (.Name bn p1) "__init__" apos) [.Name a p2,.Attribute (.Name a p3) fld p4] [] pos) p5])
  (hg:(ae st).names.lookup bn=some .globalImplicit) (c0:(ae st).names.lookup a=some .local)
  (f0:∀env,swapsWith ve (some (.Attribute (.Name a a1) fld a2)) a3.line env=pure false) (hl:(apos.endLine==pos.line)=true)
  (ht:∀env:Env,eval (.Call (.Attribute (.Name bn p1) "__init__" apos) [.Name a p2,.Attribute (.Name a p3) fld p4] [] pos) env=(do
   let ov ←eval (.Name bn p1) env
   standAt apos.atName
   let (f,first) ←holding [ov] (getMethod ov "__init__" (pl env))
   callWith pos f first (backTo pos (starEach [.Name a p2,.Attribute (.Name a p3) fld p4] env)) (backToKw pos (keywordEach [] env))))
  {A:Around}{outer:List Env}{s:Shared}{H:Hp}{u:Value}{v0:V}{e t0:Addr}{R:Result->Shared->Prop}
  (g0:∀E,∃tv,PE ((cx ek P w K mg base [a,g] qual (ae st) f (.ref c) A outer s H E).hP.mk1 e) ve tv/\tv (start [a,g] [.ref e,v0]) H gG)
  (hr:br (k+1) A) (D:ni P w K mg base A outer s H) (hb:BindsTo s fd ⟨[.ref e,u],[]⟩ [(a,.ref e),(g,u)]) (rv:RelV v0 u)
  (he:s.heap.get? e=some (cC C none t0)) (j0:base.objs.size<=e) (m0:H e=none) (G:e∉frs outer)
  (h:∀v d dd t' i,gG v d->i.os=s.os->AllBare i.gens->Un (frs outer) [e] H (upd d dd (.xd [(fld,v)])) s.heap i.heap->ff P w (upd d dd (.xd [(fld,v)])) i.heap->d dd=none->dd≠e ->
   i.heap.get? e=some (cC C (some dd) t')->upd d dd (.xd [(fld,v)]) e=none->R (.ok (.ret (.ref e))) i)
  (n0:(bn==("__debug__":Str))=false:=by decide) (L:(a==("__debug__":Str))=false:=by decide) (M:(a==("__classdict__":Str))=false:=by decide) :
  codeAny (model P w) A (.call (.ref f) ⟨[.ref e,u],[]⟩) (PySem.W.InitBack e R) s:=by
 obtain⟨oc,od,kV,y0,pm,an,o0,ct,z0,rfl,lk,p0⟩:=F.ex;obtain rfl:o0=.ref c:=a0;have KX:K.In s.heap:=D.mod.zC.keeps λb o e=>(D.bs b o e).1
 have q0:s.heap.NoLimit:=D.mod.nolimit.keeps λb o e=>(D.bs b o e).1
 have m:∀y∈[a,g].zip [.ref e,u],(ae st).names.lookup y.1=some .local\/((ae st).names.lookup y.1=some .cell/\((cellsFrom (s.heap.objs.size+1) (ae st).names []).lookup y.1).isSome=true):=λ⟨n,v⟩ hy=>by
  rcases S.par n (List.of_mem_zip hy).1 with q|q
  .exact .inl q
  .exact .inr ⟨q,PySem.W.cellsFrom_some _ _ _ (.inl q)⟩
 refine codeAny_call_function hr.depth (KX _ _ lk) rfl S.co S.gen rfl (PySem.W.codeRec_of KX p0) (hb _ _ _ _ ?_);refine wpAny_newFunctionEnv_cells S.kind m λenv r0 s1 x=>?_
 subst r0;refine⟨q0.keeps x.toInCall.keep,codeAny_func ?_⟩;have E:XK:=λ_ _ _=>False
 have I:Inv (cx ek P w K mg base [a,g] qual (ae st) f (.ref c) A outer s H E) [] (start [a,g] [.ref e,v0]) H s1:=jk (us:=[.ref e,u]) S hr.hd D rfl (.cons rfl (.cons rv .nil)) x;have O:=Heap.lt_size he;have l:e≠s.heap.objs.size:=Nat.ne_of_lt O
 have Q:∀(y:Str) (U:Addr),(envOfC qual (ae st) s.heap.objs.size f (.ref c)).cells.lookup y=some U->U≠e:=λy U hy z=>by
  have:=I.ok.cab y U rfl hy;rw[z]at this;exact absurd (Nat.lt_of_lt_of_le O this) (Nat.lt_irrefl _)
 have I1:=(I.wish (λ_ _=>False)).mk1 (e:=e) rfl l Q (λo q=>absurd (Nat.lt_of_lt_of_le (Heap.lt_size q) j0) (Nat.lt_irrefl _)) G
 have I2:=I1.yy (x.toInCall.keep _ _ he) m0 l G (λv=>by simp[cC])
 obtain⟨tv,s0,u0⟩:=g0 E
 have w0:wpAny (model P w) (A.deeper (envOfC qual (ae st) s.heap.objs.size f (.ref c))) (execs (ay st) (envOfC qual (ae st) s.heap.objs.size f (.ref c)))
   (λfl i=>fl=.next/\∃v d dd t',gG v d/\d dd=none/\dd≠e/\Inv ((cx ek P w K mg base [a,g] qual (ae st) f (.ref c) A outer s H E).hP.mk1 e) [(e,cC C (some dd) t')] (start [a,g] [.ref e,v0]) (upd d dd (.xd [(fld,v)])) i) (λ_ _=>False) s1:=by
  generalize j:(cx ek P w K mg base [a,g] qual (ae st) f (.ref c) A outer s H E).hP.mk1 e=X at *;have Y:X.env=envOfC qual (ae st) s.heap.objs.size f (.ref c):=by rw[←j];rfl
  have xN:X.N=[a,g]:=by rw[←j];rfl
  have xA:X.A=A.deeper (envOfC qual (ae st) s.heap.objs.size f (.ref c)):=by rw[←j];rfl
  have xK:X.K=K:=by rw[←j];rfl
  have xm:X.mg=mg:=by rw[←j];rfl
  have xp:X.prog=P:=by rw[←j];rfl
  have xw:X.w=w:=by rw[←j];rfl
  have xx:X.xe=λ_ _=>False:=by rw[←j];rfl
  have Z:yz X e:=⟨.inl (by rw[←j];simp[Cx.mk1]),by rw[Y];exact Q,by rw[←j];intro p hp;cases hp⟩
  rw[←xA,←Y,←xp,←xw,←xx,b0];rw[←xK]at T B na;rw[←xm]at B;have hN:X.N[0]?=some a:=by rw[xN];rfl
  have hv:uB X.env.scope a:=.inl (by rw[Y];exact c0)
  have x0:Gl X bn:=by show X.env.scope.names.lookup bn=_;rw[Y];exact hg
  refine wpAny_execs_cons (plainObj_wpAny_Assign_Attribute (bM (s0 _ s1 _ H gG I2 u0) λu1 s2 ⟨v,d,J2,r2,q2⟩=>?_) (f0 _))
  refine bM (eY (pos:=a1) hN hv L M _ _ _ d (λz H'=>z=.ref e/\H'=d) J2 ⟨.ref e,rfl,rfl,rfl⟩) λu2 s3 ⟨z,H3,J3,r3,hz,hH⟩=>?_
  subst hz hH;cases (show u2=Value.ref e from r3)
  refine BQ J3 T na Z.new Z.cell Z.pn r2 λdd s4 r t J4=>?_
  refine wpAny_execs_cons (wpAny_Expr_any (yA (v:=v) (fs:=[(fld,v)]) J4 Z T B na aF (by simp[List.lookup]) hN hv rfl x0 (ht X.env) (λt' s5 J5=>?_) n0 L M) J4.quiet (by rfl))
  exact wpAny_execs_nil ⟨rfl,v,_,dd,t',q2,r,t,J5⟩
 refine wpAny_mono w0 (λfl i hs=>?_) λ_ _ z=>z.elim
 obtain⟨rfl,v,d,dd,t',q2,r,t,J⟩:=hs;obtain⟨g1,g2,_,_,_⟩:=J.pin (e,cC C (some dd) t') (by simp)
 exact⟨rfl,h v d dd t' i q2 J.os J.bare J.base J.hok r t g1 g2⟩
end
section
variable{M:Model}{A:Around}{E:Value->Shared->Prop}{s:Shared}
structure ud(l:List Env)(e:Addr)(oe:Obj)(T:Addr)(h h':Heap):Prop where
 keep:∀b o,b≠e->b∉frs l->h.get? b=some o->h'.get? b=some o
 slot:∀b o,b≠e->h.get? b=some o->∃sl,h'.get? b=some {o with slots:=sl}
 at_:h'.get? e=some (oe.mapFields (·.setIfInBounds 1 (.ref T)))
 tb:∃oT ts,h'.get? T=some oT/\oT.data=.fields ts/\ts[3]?=some .none
 new:h.objs.size<=T
def rX(h:Heap)(vs:Array Value):Prop:=vs[1]?=some .none\/∃c a b,vs[1]?=some (.ref c)/\h.get? c=some a/\a.data=.fields b/\b[3]?=some .none
theorem ue{base:Heap}{env:Env}{outer:List Env}{L e:Addr}{B:Obj}{vs:Array Value}{head:Value}{g:Bool}{Q:Unit->Shared->Prop}
  (D:A.frames=some (env::outer)) (K:s.heap.FunFrames base (env::outer)) (O:env.frame=some L) (N:s.heap.get? e=some B) (F:B.data=.fields vs) (hsz:1<vs.size)
  (h:∀h' T,ud (env::outer) e B T s.heap h'->Q () {s with heap:=h' }) :
  wpAny M A (do let a ←frameOf env;let p ←entryPlaceOf L g;let b ←EntryCells.newEntry head a .none (rawInt L) .none p;setField (.ref e) 1 b) (λ_ P=>wpAny M A (setFlight (.ref e) none) Q E P) E s:=by
 have u:e∉frs (env::outer):=λR=>by
  obtain⟨_,o,C,G⟩:=K.mem R;rw[N]at C;injection C with C;subst C;exact G vs F
 refine wpAny_bind (wpAny_frameOf_fun D K O λc d=>?_)
 refine wpAny_bind (wpAny_entryPlaceOf λp H=>?_)
 unfold EntryCells.newEntry newFields;refine wpAny_bind (wpAny_newObj_type ?_ (H.sizeOk5 _ _ _ _ _));have i:c.get? e=some B:=(d.2.1 e u).trans N;generalize w:({cls:=.type "traceback",dict:=none,data:=.fields ([head,.ref L,.none,rawInt L,.none]++(if p.isEmpty then List.replicate 6 Value.none else p)).toArray}:Obj)=r at *
 have j:r.data=.fields ([head,.ref L,.none,rawInt L,.none]++(if p.isEmpty then List.replicate 6 Value.none else p)).toArray:=by rw[←w]
 have y:r.isFreed=false:=by rw[←w];rfl
 have k:=Heap.get?_push_of_some (h:=c) r i;have z:c.objs.size≠e:=Nat.ne_of_gt (Heap.lt_size i);refine wpAny_setField k F hsz ?_;have l:=Obj.data_mapFields F (·.setIfInBounds 1 (Value.ref c.objs.size));have m:=Heap.get?_update_self (Obj.mapFields (·.setIfInBounds 1 (Value.ref c.objs.size))) k (Obj.isFreed_of_fields l);have n:((c.push r).update e (Obj.mapFields (·.setIfInBounds 1 (Value.ref c.objs.size)))).get? c.objs.size=some r:=(Heap.get?_update_other _ _ (Ne.symm z)).trans (Heap.get?_push_size c y);unfold setFlight;refine wpAny_bind (wpAny_field m l (x:=.ref c.objs.size) (by simp[hsz]) ?_)
 rw[if_pos (show(Value.ref c.objs.size != Value.none)=true from by simp)]
 refine wpAny_setField n j (by simp) (h _ c.objs.size ?_)
 have keep:∀b o,b≠e->c.get? b=some o->(((c.push r).update e (Obj.mapFields (·.setIfInBounds 1 (Value.ref c.objs.size)))).update c.objs.size (Obj.mapFields (·.setIfInBounds 3 ((none:Option Addr).elim Value.none λf=>rawInt f)))).get? b=some o:=λb o I t=>by
  have J:c.objs.size≠b:=Nat.ne_of_gt (Heap.lt_size t);rw[Heap.get?_update_other _ _ J,Heap.get?_update_other _ _ (Ne.symm I)];exact Heap.get?_push_of_some _ t
 refine⟨λb o t S q=>keep b o t ((d.2.1 b S).trans q),λb o t q=>?_,?_,?_,by rw[d.1];exact Nat.le_refl _⟩
 .obtain⟨U,V⟩:=d.2.2 b o q
  exact⟨U,keep b _ t V⟩
 .rw[Heap.get?_update_other _ _ z];exact m
 .exact⟨_,_,Heap.get?_update_self _ n (Obj.isFreed_of_fields (Obj.data_mapFields j _)),Obj.data_mapFields j _,by simp⟩
theorem yB{base:Heap}{env:Env}{outer:List Env}{L e:Addr}{f:Obj}{vs:Array Value}{Q:Unit->Shared->Prop}
  (b:A.frames=some (env::outer)) (n:s.heap.FunFrames base (env::outer)) (g:env.frame=some L) (c:s.heap.get? e=some f) (d:f.data=.fields vs) (a:rX s.heap vs)
  (h:∀h' T,ud (env::outer) e f T s.heap h'->Q () {s with heap:=h' }) :
  wpAny M A (noteFrame (.ref e) env) (λ_ p=>wpAny M A (setFlight (.ref e) none) Q E p) E s:=by
 unfold noteFrame;simp only[g];rcases a with a|⟨o,i,j,a,k,l,m⟩
 .refine wpAny_bind (wpAny_field c d a ?_)
  rw[if_neg (by decide)]
  exact ue b n g c d (Array.getElem?_eq_some_iff.mp a).1 h
 .refine wpAny_bind (wpAny_field c d a ?_)
  rw[if_pos (show(Value.ref o != Value.none)=true from by simp)]
  refine wpAny_bind (wpAny_field k l m ?_);rw[if_neg (show ¬ ((Value.none==rawInt L)=true)from by simp[rawInt])]
  refine wpAny_bind (wpAny_setField k l (Array.getElem?_eq_some_iff.mp m).1 ?_);rw[Heap.update_setField_same s.heap o i j 3 .none k l m];exact ue b n g c d (Array.getElem?_eq_some_iff.mp a).1 h
theorem vO{base:Heap}{env:Env}{outer:List Env}{L e:Addr}{a:Obj}{vs:Array Value}{Q:Unit->Shared->Prop}
  (b:A.frames=some (env::outer)) (c:s.heap.FunFrames base (env::outer)) (d:env.frame=some L) (f:s.heap.get? e=some a) (g:a.data=.fields vs) (i:rX s.heap vs)
  (h:∀h' T,ud (env::outer) e a T s.heap h'->Q () {s with heap:=h' }):wpAny M A (leaving env (.ref e)) Q E s:=by
 unfold leaving;exact wpAny_bind (yB b c d f g i h)
end
structure yC(K:PySem.W.Frag)(mg:Str->Option Value)(C N0 f c:Addr)(fd:FuncData)(st:Stmt)(qual fld sf pn:Str)(ve:Expr):Prop where
 fn:∃x,vY K x qual st f fd
 cv:fd.code=.ref c
 sc:eR [sf,pn] [sf,pn] (ae st)
 cls:qB K C N0 f
 bs:Binds K fd [sf,pn] []
 na:cK K C fld
 sl:(ae st).names.lookup sf=some .local
 d1:(sf==("__debug__":Str))=false
 d2:(sf==("__classdict__":Str))=false
 body:∃(bn:Str) (B0:Addr) (a1 a2 a3 p1 p2 p3 p4 p5 apos pos:Pos) (pl:Env->Sem Bool),XBase K mg bn B0/\(bn==("__debug__":Str))=false/\(ae st).names.lookup bn=some .globalImplicit /\
  ay st=[.Assign [.Attribute (.Name sf a1) fld a2] ve a3,.Expr (.Call (.Attribute (.Name bn p1) "__init__" apos) [.Name sf p2,.Attribute (.Name sf p3) fld p4] [] pos) p5] /\
  (∀env,swapsWith ve (some (.Attribute (.Name sf a1) fld a2)) a3.line env=pure false)/\(apos.endLine==pos.line)=true /\
  (∀env:Env,eval (.Call (.Attribute (.Name bn p1) "__init__" apos) [.Name sf p2,.Attribute (.Name sf p3) fld p4] [] pos) env=(do
   let ov ←eval (.Name bn p1) env
   standAt apos.atName
   let (f,first) ←holding [ov] (getMethod ov "__init__" (pl env))
   callWith pos f first (backTo pos (starEach [.Name sf p2,.Attribute (.Name sf p3) fld p4] env)) (backToKw pos (keywordEach [] env))))
section
variable{X:Cx}{pins:List (Addr×Obj)}{σ:St}{H:Hp}{s:Shared}{C N0 f c:Addr}{fd:FuncData}{st:Stmt}{qual fld sf pn:Str}{ve:Expr}{k:Nat}{v0:V}{u:Value}{gG:VK}
theorem Fb(D:yC X.K X.mg C N0 f c fd st qual fld sf pn ve)(I:Inv X pins σ H s)(S:br (k+2) X.A)(Y:RelV v0 u)
  (m:∀(A:Around) (d:Shared) (e:Addr) (E:XK),br k (A.deeper (envOfC qual (ae st) d.heap.objs.size f (.ref c)))->∃T,PE ((cx ek X.prog X.w X.K X.mg X.base [sf,pn] qual (ae st) f (.ref c) A X.stack d H E).hP.mk1 e) ve T/\T (start [sf,pn] [.ref e,v0]) H gG)
  {Q:Value->Shared->Prop} (h:∀e dd t v i d,gG v i->Inv X pins σ (upd i dd (.xd [(fld,v)])) d->d.heap.get? e=some (cC C (some dd) t)->s.heap.objs.size<=e->upd i dd (.xd [(fld,v)]) e=none->i dd=none->Q (.ref e) d) :
  wpAny (model X.prog X.w) X.A (call (.ref C) [u]) Q X.xe s:=by
 obtain⟨nm,q,bs,bm,sn,Z,ab,a0,b0,k0,k1,k2,k3,k5,hC,ot⟩:=D.cls.ex;obtain⟨mN,hn,p⟩:=D.cls.ns _ I.eg;obtain⟨x,F⟩:=D.fn;obtain⟨bn,B0,a1,a2,a3,p1,p2,p3,p4,p5,apos,c0,pl,B,r,hg,y,G,hl,ht⟩:=D.body;have j:∀b o,s.heap.get? b=some o->(eu s.heap C [u]).get? b=some o:=λb o e=>Heap.get?_push_of_some _ (Heap.get?_push_of_some _ e)
 have U:Inv X pins σ H {s with heap:=eu s.heap C [u]}:=I.kept (t':=s.toks) j
 have l:(eu s.heap C [u]).get? (s.heap.objs.size+1)=some (cC C none s.heap.objs.size):=by
  show(eu s.heap C [u]).get? (s.heap.objs.size+1)=some ({cls:=.ref C,data:=.fields #[.ref s.heap.objs.size,.none,.none,.none,.bool false,.none]}:Obj)
  heap_get
 have J:H (s.heap.objs.size+1)=none:=I.hok.fresh (Nat.le_succ _);have a:∀b o,s.heap.get? b=some o->b≠s.heap.objs.size+1:=λb o q=>Nat.ne_of_lt (Nat.lt_succ_of_lt (Heap.lt_size q))
 have L:s.heap.objs.size+1∉frs X.stack:=λz=>by
  obtain⟨_,o,M,_⟩:=I.stack.mem z;exact a _ _ M rfl
 refine wpAny_call ?_;have hz:[u].length<=sizeLine:=by show 1<=sizeLine;decide
 refine yv PySem.F.excBase_ValueError (ot _ I.eg) (I.eg _ _ hC) hn p (λself=>PySem.W.bind_fn I.eg self D.cls.fn) hz ?_
 refine BR (k:=k) (gG:=gG) (v0:=v0) F D.cv D.sc D.cls B D.na y hg D.sl G hl ht (λE=>m _ _ _ E ?_) (S.make C [u] []) (U.env0.make C [u] []) (D.bs _ [.ref (s.heap.objs.size+1),u] U.eg rfl) Y l ?_ J L (λv i dd t' d q2 M N g O P V g1 g2=>?_) r D.d1 D.d2
 .exact(S.make C [u] []).deeper _
 .exact Nat.le_trans (Nat.le_trans I.ok.qJ I.sz) (Nat.le_succ _)
 .refine h (s.heap.objs.size+1) dd t' v i d q2 (I.call' (ch:=[]) M ⟨λb o e n R _=>g.keep b o (j b o e) n R (by simpa using a b o e),λb o e n R _=>g.slot b o (j b o e) n R (by simpa using a b o e),λb o e n _=>g.free b o (j b o e) n (by simpa using a b o e),λb o e _=>g.there b o (j b o e) (by simpa using a b o e),g.tups,g.eX,g.fK⟩ O N (by simp)) g1 (Nat.le_succ _) g2 P
end
section
variable{M:Model}{A:Around}{E:Value->Shared->Prop}{s:Shared}{env:Env}
variable{nm q:Str}{C N:Addr}{bs bm:List Value}{hdct:Bool}{sn:List Str}{sub:List Value}{ab:Bool}{col:Option Bool}{dd:Option Addr}{k0 k1 k2 k3 k5:Option Value}{newId:String}
theorem lg{x:Sem Value}{Q:Flow->Shared->Prop}(b:bm.contains (.type "BaseException")=true)(k:A.handled=none)
  (h:wpAny M A x (λv a=>∃e od t,v=.ref e/\a.heap.get? C=some (excClassObj nm q C N bs bm hdct sn sub ab col dd k0 k1 k2 k3 k5 newId)/\a.heap.get? e=some (cC C od t)/\E (.ref e) a) E s) :
  wpAny M A (raiseStmt env (some x) none) Q E s:=by
 have f:(Value.ref C::bm).contains (.type "BaseException")=true:=by rw[List.contains_cons,b,Bool.or_true]
 unfold raiseStmt;refine wpAny_bind (wpAny_mono h (λv a c=>?_) λ_ _ x=>x)
 obtain⟨e,od,t,rfl,j,i,l⟩:=c;obtain⟨m,g,d,n,o⟩:=a;have i:m.get? e=some ⟨.ref C,od,.fields #[.ref t,.none,.none,.none,.bool false,.none],#[]⟩:=i
 repeat (first|with_reducible refine wpAny_loadPart_at i ?_|with_reducible refine wpAny_loadPart_at j ?_ | (with_reducible refine wpAny_isSubtype_exc j ?_;rw[f])|wp_step)
 exact wpAny_raiseNew_none k l
theorem vP{x:Expr}{pos:Pos}{Q:Flow->Shared->Prop}(b:bm.contains (.type "BaseException")=true)(d:A.handled=none)
  (h:wpAny M A (eval x env) (λv a=>∃e od t,v=.ref e/\a.heap.get? C=some (excClassObj nm q C N bs bm hdct sn sub ab col dd k0 k1 k2 k3 k5 newId)/\a.heap.get? e=some (cC C od t)/\E (.ref e) a) E s) :
  wpAny M A (exec (.Raise (some x) none pos) env) Q E s:=by
 rw[arm_exec_Raise]
 first
  |exact wpAny_bind (wpAny_standAt (lg b d (wpAny_bind (wpAny_mono h (λv a c=>wpAny_bind (wpAny_standAt (wpAny_pure c))) λ_ _ x=>x))))
  | (show wpAny M A (do standAt pos;raiseStmt env (some (do let v ←eval x env;standAt pos;pure v)) none) Q E s;exact wpAny_bind (wpAny_standAt (lg b d (wpAny_bind (wpAny_mono h (λv a c=>wpAny_bind (wpAny_standAt (wpAny_pure c))) λ_ _ x=>x)))))
end
structure rY(P:Program)(w:World)(outer:List Env)(H:Hp)(s:Shared)(e C d:Addr)(H':Hp)(s':Shared):Prop where
 os:s'.os=s.os
 bare:AllBare s'.gens
 un:Un (frs outer) [] H H' s.heap s'.heap
 hok:ff P w H' s'.heap
 new:s.heap.objs.size<=e
 free:H' e=none
 obj:∃oe vs,s'.heap.get? e=some oe/\oe.cls=.ref C/\oe.dict=some d/\oe.data=.fields vs/\rX s'.heap vs
noncomputable def oI(P:Program)(w:World):oR:=λouter H s E x b=>∃e C d a,x=.ref e/\rY P w outer H s e C d a b/\E (.ref C) (some d) a
section
variable{X:Cx}{pins:List (Addr×Obj)}{σ:St}{H:Hp}{s:Shared}{e C d t:Addr}
theorem yD(I:Inv X pins σ H s)(m:X.ex=[])(g:X.stack=X.env::X.outer)(i:X.env.frame=some X.env.locals)(J:s.heap.get? e=some (cC C (some d) t))(B:X.s₀.heap.objs.size<=e)(p:H e=none){Q:Unit->Shared->Prop}{E:Value->Shared->Prop}
  (h:∀D,rY X.prog X.w X.outer X.H₀ X.s₀ e C d H D->Q () D):wpAny (model X.prog X.w) X.A (leaving X.env (.ref e)) Q E s:=by
 have j:=I.ok.frames;rw[g]at j;have G:=I.stack;rw[g]at G;refine vO j G i J rfl (.inl rfl) λR T F=>h _ ?_
 have c:∀b u,H b=some u->b∉frs (X.env::X.outer):=λb u q z=>by
  have:=I.jS b (by rw[g];exact z)
  rw[this]at q;cases q
 have f:∀b o,X.s₀.heap.get? b=some o->b≠e/\b≠X.env.locals:=λb o q=>⟨λz=>by rw[z]at q;exact absurd (Nat.lt_of_lt_of_le (Heap.lt_size q) B) (Nat.lt_irrefl _),λz=>by rw[z]at q;exact absurd (Nat.lt_of_lt_of_le (Heap.lt_size q) I.ok.above) (Nat.lt_irrefl _)⟩
 have r:∀b o,X.s₀.heap.get? b=some o->b∉X.fs->b∉frs (X.env::X.outer):=λb o q hb z=>by
  unfold frs at z;rw[List.filterMap_cons,i]at z;rcases List.mem_cons.mp z with z|z
  .exact(f b o q).2 z
  .exact hb z
 refine⟨I.os,I.bare,⟨λb o q n hb _=>?_,λb o q n hb _=>?_,λb o q n _=>I.base.free b o q n (by rw[m];simp),λb o q _=>?_,I.base.tups,I.base.eX,I.base.fK⟩,λa u q=>?_,B,p,?_⟩
 .exact F.keep b o (f b o q).1 (r b o q hb) (I.base.keep b o q n hb (by rw[m];simp))
 .obtain⟨S,x⟩:=I.base.slot b o q n hb (by rw[m];simp)
  obtain⟨k,y⟩:=F.slot b _ (f b o q).1 x;exact⟨k,y⟩
 .obtain⟨U,x⟩:=I.base.there b o q (by rw[m];simp)
  obtain⟨k,y⟩:=F.slot b _ (f b o q).1 x;exact⟨_,y⟩
 .refine(I.hok a u q).stay (λb K hb l=>F.keep b K (λz=>?_) ?_ l) (λb l=>l) λb V l=>l
  .rw[z]at hb
   rcases hb with hb|hb
   .rw[←hb,p]at q;cases q
   .rw[p]at hb;cases hb
  .rcases hb with hb|hb
   .rw[hb];exact c a u q
   .exact c b _ hb
 .obtain⟨L,M,N,O,P⟩:=F.tb
  exact⟨_,_,F.at_,rfl,rfl,rfl,.inr ⟨T,L,M,by simp,N,O,P⟩⟩
end
def Fc(te:TE)(Arg:V->Hp->Prop)(gG:V->Hp->VK)(C:Addr)(fld:Str)(E:XK):TS:=λ_ e H=>te e H λc d=>Arg c d/\∀v a b,gG c d v a->a b=none->E (.ref C) (some b) (upd a b (.xd [(fld,v)]))
section
variable{P:Program}{w:World}{K:PySem.W.Frag}{mg:Str->Option Value}{base:Heap}{N:List Str}{qual:Str}{scope:Scope}{f:Addr}{cd:Value}{A:Around}{outer:List Env}{s0:Shared}{H0:Hp}{E:XK}
variable{C N0 fI c:Addr}{fd:FuncData}{st:Stmt}{yE fld sf pn cn:Str}{ve arg:Expr}{k:Nat}{te:TE}{Arg:V->Hp->Prop}{gG:V->Hp->VK}{np cpos pos:Pos}
theorem yF(D:yC K mg C N0 fI c fd st yE fld sf pn ve)(B:br (k+2) (A.deeper (envOfC qual scope s0.heap.objs.size f cd)))(F:Gl (cx (oI P w) P w K mg base N qual scope f cd A outer s0 H0 E) cn)(G:mg cn=some (.ref C))
  (d:PE (cx (oI P w) P w K mg base N qual scope f cd A outer s0 H0 E) arg te)
  (m:∀v0 a,Arg v0 a->∀(l:Around) (n:List Env) (g:Shared) (e:Addr) (o:XK),br k (l.deeper (envOfC yE (ae st) g.heap.objs.size fI (.ref c)))->∃y,PE ((cx ek P w K mg base [sf,pn] yE (ae st) fI (.ref c) l n g a o).hP.mk1 e) ve y/\y (start [sf,pn] [.ref e,v0]) a (gG v0 a))
  (i:starEach [arg] (envOfC qual scope s0.heap.objs.size f cd)=[(false,eval arg (envOfC qual scope s0.heap.objs.size f cd))]) (p:(cn==("__debug__":Str))=false:=by decide) :
  PS (cx (oI P w) P w K mg base N qual scope f cd A outer s0 H0 E) (.Raise (some (.Call (.Name cn np) [arg] [] cpos)) none pos) (Fc te Arg gG C fld E):=by
 intro pins s L H X I h;obtain⟨nm,q,bs,bm,sn,sub,ab,col,r,k0,k1,k2,k3,k5,M,n⟩:=D.cls.ex;have b:bm.contains (.type "BaseException")=true:=(n _ I.eg).hasType (by decide +kernel)
 refine vP (C:=C) (nm:=nm) (q:=q) (N:=N0) (bs:=bs) (bm:=bm) (hdct:=true) (sn:=sn) (sub:=sub) (ab:=ab) (col:=col) (dd:=r) (k0:=k0) (k1:=k1) (k2:=k2) (k3:=k3) (k5:=k5) (newId:="ValueError.__new__") b (I.ok.hd rfl) ?_;refine wpAny_Call_Name_kw (eh I F G ?_ p);refine PySem.W.callWith_K (h₀:=base) I.ok.mod.zC D.cls.kp ?_ i rfl
 have j:backTo cpos (starEach [arg] (cx (oI P w) P w K mg base N qual scope f cd A outer s0 H0 E).env)=(false,eval arg (cx (oI P w) P w K mg base N qual scope f cd A outer s0 H0 E).env)::[]:=by
  show backTo cpos (starEach [arg] (envOfC qual scope s0.heap.objs.size f cd))=_
  rw[i];rfl
 rw[j];refine Calls.spliced_cons (bM (d pins s L H _ I h) λu Y ⟨v0,a,I1,r1,ha,hq⟩=>Calls.spliced_nil ⟨I1.eg,?_⟩)
 refine Fb (k:=k) (gG:=gG v0 a) D I1 B r1 (λl g e o x=>m v0 a ha l _ g e o x) λe dd t v O g Q J z R S U=>⟨e,some dd,t,rfl,J.eg _ _ M,z,?_⟩
 exact yD J rfl rfl rfl z (Nat.le_trans I1.sz R) S λV T=>⟨e,C,dd,_,rfl,T,hq v O dd Q U⟩
end
section
variable{X:Cx}{pins:List (Addr×Obj)}{σ:St}{H H':Hp}{s s':Shared}{e C d:Addr}{h':Heap}
noncomputable def Cx.oy(X:Cx)(e:Addr):Cx:={X with A:=X.A.mark (some (.ref e)),calm:=false,xe:=λ_ _=>False}
theorem Inv.oy(I:Inv X pins σ H s):Inv (X.oy e) pins σ H s:=
 ⟨⟨I.ok.mod,I.ok.kind,I.ok.glob,I.ok.blt,I.ok.above,I.ok.inj,I.ok.has,I.ok.cab,(λz=>nomatch (show false=true from z)),I.ok.frames,I.ok.zr,I.ok.zD,I.ok.bs,I.ok.qJ,I.ok.lD,I.ok.lE,I.ok.fi,I.ok.so⟩,
  I.os,I.bare,I.base,I.loc,I.cell,I.free,I.cD,I.pin,I.hok,I.len⟩
theorem Inv.Ia(ok:X.Ok)(I:Inv (X.oy e) pins σ H s):Inv X [] σ H s:=
 ⟨ok,I.os,I.bare,I.base,I.loc,I.cell,I.free,I.cD,λp a=>I.pin p (by rw[List.append_nil]at a;simp[show p∈(X.oy e).pn from a]),I.hok,I.len⟩
theorem Inv.blank{t':Nat}{j:Str->Option Value}(ok:X.Ok)(I:Inv (X.oy e) pins σ H s)(t:h'.Ns X.env.locals j)(w:Heap.SameBut X.env.locals s.heap h'):Inv X [] (List.replicate X.N.length none) H {s with heap:=h',toks:=t' }:=by
 have k:∀b o,b≠X.env.locals->s.heap.get? b=some o->h'.get? b=some o:=λb o hb q=>(w.2 b hb).trans q
 have d:∀b o,X.s₀.heap.get? b=some o->b≠X.env.locals:=λb o q=>Nat.ne_of_lt (Nat.lt_of_lt_of_le (Heap.lt_size q) I.ok.above)
 refine⟨ok,I.os,I.bare,⟨λb o q n hb f=>k b o (d b o q) (I.base.keep b o q n hb f),λb o q n hb f=>?_,I.base.free,λb o q f=>?_,I.base.tups,I.base.eX,I.base.fK⟩,⟨j,t,λi x v _ z=>?_⟩,λx c q=>?_,I.free,I.cD,λp l=>?_,λa u q=>?_,by simp⟩
 .obtain⟨y,g⟩:=I.base.slot b o q n hb f
  exact⟨y,k b _ (d b o q) g⟩
 .obtain⟨A,g⟩:=I.base.there b o q f
  exact⟨A,k b _ (d b o q) g⟩
 .rw[List.getElem?_replicate]at z
  split at z<;>cases z
 .obtain⟨v,o,g,B⟩:=I.cell x c q
  exact⟨v,o,k c o (I.Gf x c q) g,B⟩
 .rw[List.append_nil]at l
  obtain⟨C,D,m,E,F⟩:=I.pin p (by simp[show p∈(X.oy e).pn from l])
  exact⟨k _ _ m C,D,m,E,F⟩
 .refine(I.hok a u q).stay (λb G hb h=>k b G (λz=>?_) h) (λ_ h=>h) λ_ _ h=>h
  have r:H X.env.locals=none:=I.free;rcases hb with hb|hb
  .rw[←hb,z,r]at q;cases q
  .rw[z,r]at hb;cases hb
theorem Inv.flown{l:Obj}{T:Addr}(I:Inv X [] σ H s)(F:ud X.stack e l T s.heap h')(g:yz X e)(j:e≠X.env.locals)(k:H e=none):Inv X [] σ H {s with heap:=h' }:=by
 have h:∀b,b∈frs X.stack->b=X.env.locals\/b∈X.fs:=λb z=>List.mem_cons.mp (I.mT b z)
 refine I.step (g':=s.gens) (d':=s.drawn) (t':=s.toks) (ch:=[e]) (λb hb=>?_) (λb o r hb c q n=>F.keep b o (by simpa using c) (λz=>(h b z).elim r hb) q) (λb o _ _ c q _=>F.slot b o (by simpa using c) q) (λ_ _ _ _ n=>n) (λb o c q=>?_) (λ_ _ q=>q) (λ_ _ _ q=>q) (λb G q=>⟨#[],by rw[q];simp⟩) (λm t=>?_) (λa u q=>?_) I.bare
 .rw[List.mem_singleton.mp hb]
  exact⟨g.new,j,g.cell,λp w=>g.pn p (by simpa using w)⟩
 .obtain⟨x,i⟩:=F.slot b o (by simpa using c) q
  exact⟨_,i⟩
 .obtain⟨o,y,A,B,C,D⟩:=t
  obtain⟨x,i⟩:=F.slot _ o (Ne.symm j) B;exact⟨_,y,A,i,C,D⟩
 .refine(I.hok a u q).stay (λb E hb d=>F.keep b E (λz=>?_) (λz=>?_) d) (λ_ d=>d) λ_ _ d=>d
  .rw[z]at hb
   rcases hb with hb|hb
   .rw[←hb,k]at q;cases q
   .rw[k]at hb;cases hb
  .have f:=I.jS b z
   rcases hb with hb|hb
   .rw[hb,q]at f;cases f
   .rw[hb]at f;cases f
theorem gH{M:Model}{A:Around}{E:Value->Shared->Prop}{Q:Unit->Shared->Prop}{d b:Obj}{vs c:Array Value}{T:Addr}(j:s.heap.get? e=some d)(k:d.data=.fields vs)(l:vs[1]?=some (.ref T))(g:s.heap.get? T=some b)(a:b.data=.fields c)(i:c[3]?=some .none)(h:Q () s) :
  wpAny M A (setFlight (.ref e) none) Q E s:=by
 unfold setFlight;refine wpAny_bind (wpAny_field j k l ?_);rw[if_pos (show(Value.ref T != Value.none)=true from by simp)]
 refine wpAny_setField g a (Array.getElem?_eq_some_iff.mp i).1 ?_;have:s.heap.update T (Obj.mapFields (·.setIfInBounds 3 ((none:Option Addr).elim Value.none λf=>rawInt f)))=s.heap:=Heap.update_setField_same s.heap T b c 3 .none g a i
 rw[this];exact h
end
section
variable{X:Cx}{σ:St}{H H':Hp}{s s':Shared}{e C d:Addr}
theorem yG{bn:Str}{nm:Option Str}{B0:Addr}{i:Nat}{b0:Stmt}{suite:List Stmt}{Z pos:Pos}{fs:List (Str×V)}{Q:Flow->Shared->Prop}{E:Value->Shared->Prop}(I:Inv X [] σ H s)(j:rY X.prog X.w X.stack H s e C d H' s')(t:X.stack=X.env::X.outer)(a0:X.env.frame=some X.env.locals)
  (c0:H' d=some (.xd fs)) (hg:Gl X bn) (hm:X.mg bn=some (.ref B0)) (e0:PySem.W.exmOne X.K (.ref C) (.ref B0)=some true) (hN:X.N.Nodup) (hi:∀n,nm=some n->X.N[i]?=some n) (L:∀n,nm=some n->X.env.scope.names.lookup n=some .local)
  (g:∀r s4,r.cls=.ref C->r.dict=some d->PySem.W.notCls r=true->Inv (X.oy e) [(e,r)] (if nm.isSome then σ.set i (some (.ref e))else σ) H' s4 ->
   wpAny (model X.prog X.w) (X.A.mark (some (.ref e))) (execs (b0::suite) X.env) (λf s5=>∃u U,Inv (X.oy e) [(e,r)] u U s5/\∀f0 s6,Inv X [] f0 U s6->Q f s6) (λ_ _=>False) s4)
  (g0:(bn==("__debug__":Str))=false:=by decide) :
  wpAny (model X.prog X.w) X.A (noteFrame (.ref e) X.env) (λ_ M=>wpAny (model X.prog X.w) X.A (setFlight (.ref e) none) (λ_ O=>wpAny (model X.prog X.w) X.A (handleBy (.ref e) X.env [.ExceptHandler (some (.Name bn Z)) nm (b0::suite) pos]) Q E O) E M) E s':=by
 have I':Inv X [] σ H' s':=I.call' (ch:=[]) j.os j.un j.hok j.bare (by simp)
 obtain⟨r,vs,g1,g2,g3,g4,g5⟩:=j.obj;have P:=I'.ok.frames;rw[t]at P;have hl:=I'.stack;rw[t]at hl;have y:∀b o,s.heap.get? b=some o->b≠e:=λb o q z=>by rw[z]at q;exact absurd (Nat.lt_of_lt_of_le (Heap.lt_size q) j.new) (Nat.lt_irrefl _)
 have k:e≠X.env.locals:=λz=>by
  obtain⟨m,⟨o,_,_,ho,_⟩,_⟩:=I.loc;exact y _ _ ho z.symm
 have fr:yz X e:=⟨.inr (Nat.le_trans I.sz j.new),λx c q=>by
  obtain⟨v,o,q1,_⟩:=I.cell x c q;exact y _ _ q1,λp Z=>by
  obtain⟨q1,_⟩:=I.pin p (by simp[Z])
  exact y _ _ q1⟩
 have R:e∉X.fs:=λz=>by
  obtain⟨_,o,ho,_⟩:=I.ok.fi.mem z;exact absurd (Nat.lt_of_lt_of_le (Heap.lt_size ho) (Nat.le_trans I.sz j.new)) (Nat.lt_irrefl _)
 refine yB P hl a0 g1 g4 g5 λY T F=>?_
 have J:Inv X [] σ H' {s' with heap:=Y}:=I'.flown (by rw[t];exact F) fr k j.free
 have l:=F.at_;obtain⟨oT,ts,t1,t2,t3⟩:=F.tb;have B:(r.mapFields (·.setIfInBounds 1 (.ref T))).cls=.ref C:=by rw[Obj.cls_mapFields];exact g2
 have a:=Obj.data_mapFields g4 (·.setIfInBounds 1 (Value.ref T))
 have D:(r.mapFields (·.setIfInBounds 1 (.ref T))).dict=some d:=by
  obtain⟨oc,od,dt,sl⟩:=r;cases dt<;>exact g3
 have S:1<vs.size:=by
  rcases g5 with z|⟨_,_,_,z,_⟩<;>exact(Array.getElem?_eq_some_iff.mp z).1
 generalize (r.mapFields (·.setIfInBounds 1 (.ref T)))=h at *;have G:PySem.W.notCls h=true:=by unfold PySem.W.notCls;rw[a]
 obtain⟨mA,nA,_⟩:=J.hok d _ c0;obtain⟨od,gd,_⟩:=gM nA;have j0:PySem.W.InstAt Y e h C (some od):=⟨l,B,G,by rw[D];exact gd⟩
 refine wpAny_handleBy_cons (codeAny_handlers_test ?_) (by intro q;cases q)
 refine eh (X:=X.oy e) J.oy hg hm ?_ g0;refine(PySem.W.exm_one (K:=X.K) J.eg j0.type e0).here ?_;cases nm with
 |none=>
  refine codeAny_handlers_suite ?_;refine gH l a (by simp[S]) t1 t2 t3 ?_
  have J1:Inv (X.oy e) [(e,h)] σ H' {s' with heap:=Y}:=J.oy.yy l j.free k R (λv=>by rw[a];simp)
  exact wpAny_mono (g h _ B D G J1) (λf s5 ⟨u,U,J5,q5⟩=>q5 _ _ (J5.Ia I.ok)) (λ_ _ z=>z.elim)
 |some n=>
 have hi:=hi n rfl;have L:=L n rfl;refine codeAny_handlers_suite_as ?_;refine gH l a (by simp[S]) t1 t2 t3 ?_
 have J1:Inv (X.oy e) [(e,h)] σ H' {s' with heap:=Y}:=J.oy.yy l j.free k R (λv=>by rw[a];simp)
 refine iw (X:=X.oy e) J1 hN hi (.inl L) (v:=.ref e) rfl (λs4 J4=>?_) (.inr L)
 refine wpAny_mono (g h s4 B D G J4) (λf s5 ⟨u,U,J5,q5⟩=>?_) (λ_ _ z=>z.elim)
 obtain⟨m,m0,_⟩:=J5.loc;exact wpAny_nameGoes L m0 (by rw[I.ok.kind];rfl) λh6 m6 n6 n0=>q5 _ _ (J5.blank I.ok n6 n0)
end
theorem Cx.nL(X:Cx):X.fz []=X:=by
 obtain⟨h,i,j,k,l,m,n,o,p,a,b,c,d,q,e,f,g⟩:=X;simp[Cx.fz]
section
variable{X:Cx}{σ:St}{H:Hp}{s:Shared}{C:Addr}{k:Nat}{f:Addr}{fd:FuncData}{ps:List Str}{sp:Sp}{ta:TA}{fs:List (Str×V)}{Rest:Hp->Prop}
end
section
variable{X:Cx}{pins:List (Addr×Obj)}{σ:St}{H:Hp}{s:Shared}{e C N fI:Addr}{oe:Obj}
noncomputable def Cx.BS(X:Cx)(e:Addr)(a:Obj):Cx:={X with pn:=X.pn++[(e,a)]}
theorem Inv.BS(I:Inv X [(e,oe)] σ H s):Inv (X.BS e oe) [] σ H s:=
 ⟨⟨I.ok.mod,I.ok.kind,I.ok.glob,I.ok.blt,I.ok.above,I.ok.inj,I.ok.has,I.ok.cab,I.ok.hd,I.ok.frames,I.ok.zr,I.ok.zD,I.ok.bs,I.ok.qJ,I.ok.lD,I.ok.lE,I.ok.fi,I.ok.so⟩,
  I.os,I.bare,I.base,I.loc,I.cell,I.free,I.cD,λp a=>I.pin p (by simpa[Cx.BS]using a),I.hok,I.len⟩
theorem Inv.Ib(I:Inv (X.BS e oe) [] σ H s):Inv X [(e,oe)] σ H s:=
 ⟨⟨I.ok.mod,I.ok.kind,I.ok.glob,I.ok.blt,I.ok.above,I.ok.inj,I.ok.has,I.ok.cab,I.ok.hd,I.ok.frames,I.ok.zr,I.ok.zD,I.ok.bs,I.ok.qJ,I.ok.lD,I.ok.lE,I.ok.fi,I.ok.so⟩,
  I.os,I.bare,I.base,I.loc,I.cell,I.free,I.cD,λp a=>I.pin p (by simpa[Cx.BS]using a),I.hok,I.len⟩
structure PC(K:PySem.W.Frag)(C:Addr):Prop where
 ha:PySem.W.findIn K (.ref C) "__class__"=some (some (.builtin "object.__class__"))
 hn:PySem.W.specialIn K (.builtin "object.__class__") "__get__"=some (some (.builtin "getset_descriptor.__get__"))
 ht:PySem.W.takesIn K (.builtin "object.__class__")=some true
 hm:PySem.W.mroIn K C (.type "object")=some true
structure Fd(X:Cx)(e C:Addr)(oe:Obj)(d:Addr)(N fI:Addr):Prop where
 pn:(e,oe)∈X.pn
 cls:oe.cls=.ref C
 dict:oe.dict=some d
 no:PySem.W.notCls oe=true
 txt:qB X.K C N fI
 is:PC X.K C
variable{d:Addr}
theorem Fd.inst(c:Fd X e C oe d N fI)(I:Inv X pins σ H s){fs:List (Str×V)}(a:H d=some (.xd fs)):∃od,PySem.W.InstAt s.heap e oe C (some od):=by
 obtain⟨g,b,_⟩:=I.hok d _ a;obtain⟨od,f,_⟩:=gM b;exact⟨od,(I.pin (e,oe) (by simp[c.pn])).1,c.cls,c.no,by rw[c.dict];exact f⟩
def gI(X:Cx)(z:Str×Pos)(a:Value):Prop:=∀(E:Value->Shared->Prop) (pins:List (Addr×Obj)) (s:Shared) (b:St) (H:Hp) (Q:Value->Shared->Prop),Inv X pins b H s->Q a s->wpAny (model X.prog X.w) X.A (eval (.Name z.1 z.2) X.env) Q E s
noncomputable def Ic(i:Nat)(e d:Addr)(b:Bool):TE:=λa H Q=>a[i]?=some (some (.ref e))/\(∃c,H d=some (.xd c))/\Q (.bl b) H
theorem yH{i:Nat}{n cn:Str}{p q r pos:Pos}{k:Value}{b:Bool}(c:Fd X e C oe d N fI)(m:X.N[i]?=some n)(o:uB X.env.scope n)(t:Gl X "isinstance")(x:X.mg "isinstance"=none)
  (a:gI X (cn,r) k)
  (y:PySem.W.kitOne X.K (.ref C) k=some b) (f:(n==("__debug__":Str))=false:=by decide) (g:(n==("__classdict__":Str))=false:=by decide) :
  PE X (.Call (.Name "isinstance" p) [.Name n q,.Name cn r] [] pos) (Ic i e d b):=by
 intro pins s l H Q I h;obtain⟨A,⟨L,B⟩,D⟩:=h;refine wpAny_Call_Name_kw (gi I t x boot_isinstance ?_ (by decide) (by decide))
 refine PyProof.Rows.callWith_builtin1 ?_ rfl rfl;refine Calls.spliced_cons (bM (eY (pos:=q) m o f g pins s l H (λw E=>w=.ref e/\E=H) I ⟨.ref e,A,rfl,rfl⟩) λu F ⟨w,H1,J1,G,hw,hH⟩=>?_)
 subst hw hH;cases (show u=Value.ref e from G)
 refine Calls.spliced_cons (a _ pins F l H1 _ J1 (Calls.spliced_nil ?_));obtain⟨od,j⟩:=c.inst J1 B;exact PySem.W.kia_one (qA (od:=od) c.txt.xg c.txt.hd c.is.ha c.is.hn c.is.ht c.is.hm) J1.eg j y (λz=>nomatch z) λJ=>⟨.bl b,H1,J1.tok J,rfl,D⟩
inductive Names (X:Cx):List (Str×Pos)->List Value->Prop
 |nil:Names X [] []
 |cons {z:Str×Pos}{cv:Value}{ns:List (Str×Pos)}{cs:List Value} (h:gI X z cv) (t:Names X ns cs):Names X (z::ns) (cv::cs)
theorem h_{pos:Pos}{E:Value->Shared->Prop}:∀{ns:List (Str×Pos)}{a:List Value},Names X ns a ->
  ∀{pins:List (Addr×Obj)}{s:Shared}{b:St}{H:Hp}{Q:List Value->Shared->Prop},Inv X pins b H s->Q a s->wpAny (model X.prog X.w) X.A (spliced (backTo pos (starEach (ns.map λz=>.Name z.1 z.2) X.env))) Q E s
 |[],_,.nil,_,_,_,_,_,_,h=>Calls.spliced_nil h
 |z::ns,c::a,.cons h1 h2,pins,s,b,H,Q,I,h=>Calls.spliced_cons (h1 E pins s b H _ I (h_ h2 I h))
theorem BU{i:Nat}{n:Str}{x1:Nat}{p q r pos:Pos}{ns:List (Str×Pos)}{a:List Value}{b:Bool}(c:Fd X e C oe d N fI)(y:X.N[i]?=some n)(A:uB X.env.scope n)(B:Gl X "isinstance")(D:X.mg "isinstance"=none)
  (f:Names X ns a) (hz:a.length<=100)
  (E:PySem.W.kitAny X.K (.ref C) a=some b) (g:(n==("__debug__":Str))=false:=by decide) (j:(n==("__classdict__":Str))=false:=by decide) :
  PE X (.Call (.Name "isinstance" p) [.Name n q,.Tuple (ns.map λz=>.Name z.1 z.2) x1 r] [] pos) (Ic i e d b):=by
 intro pins s m H Q I h;obtain⟨F,⟨P,G⟩,J⟩:=h;refine wpAny_Call_Name_kw (gi I B D boot_isinstance ?_ (by decide) (by decide))
 refine PyProof.Rows.callWith_builtin1 ?_ rfl rfl;refine Calls.spliced_cons (bM (eY (pos:=q) y A g j pins s m H (λw L=>w=.ref e/\L=H) I ⟨.ref e,F,rfl,rfl⟩) λu s1 ⟨w,t,x,M,hw,hH⟩=>?_)
 subst hw hH;cases (show u=Value.ref e from M)
 refine Calls.spliced_cons (wpAny_Tuple_spliced (x1:=x1) (h_ f x ⟨Nat.le_trans hz (by decide),Calls.spliced_nil ?_⟩))
 have k:Inv X pins m t {s1 with heap:=s1.heap.push {cls:=.type "tuple",data:=.seq a.toArray} }:=x.kept (t':=s1.toks) λb o z=>Heap.get?_push_of_some _ z
 obtain⟨od,l⟩:=c.inst k G;exact PySem.W.kia_tup (qA (od:=od) c.txt.xg c.txt.hd c.is.ha c.is.hn c.is.ht c.is.hm) k.eg l (Heap.get?_push_size _ rfl) E (λz=>nomatch z) λO=>⟨.bl b,t,k.tok O,rfl,J⟩
noncomputable def QP(i:Nat)(e d:Addr)(fld:Str):TE:=λb H Q=>b[i]?=some (some (.ref e))/\∃a v,H d=some (.xd a)/\a.lookup fld=some v/\Q v H
theorem CY{i:Nat}{n fld:Str}{q p:Pos}(c:Fd X e C oe d N fI)(f:cK X.K C fld)(g:X.N[i]?=some n)(j:uB X.env.scope n)(a:(n==("__debug__":Str))=false:=by decide)(b:(n==("__classdict__":Str))=false:=by decide) :
  PE X (.Attribute (.Name n q) fld p) (QP i e d fld):=by
 intro pins s k H Q I h;obtain⟨l,A,v,m,o,r⟩:=h;refine m_ rfl (bM (eY (pos:=q) g j a b pins s k H (λw t=>w=.ref e/\t=H) I ⟨.ref e,l,rfl,rfl⟩) λu B ⟨w,H1,J1,x,hw,hH⟩=>?_)
 subst hw hH;cases (show u=Value.ref e from x)
 exact ub J1 c.txt f (J1.pin (e,oe) (by simp[c.pn])).1 c.cls c.dict c.no m o λD y z=>⟨v,H1,z,y,r⟩
end
end L2
namespace Mir
open PySem PySem.Spec PyProof.Rows L2
variable [aw]
section
variable{P:Program}{w:World}{K:PySem.W.Frag}{mg:Str->Option Value}{base:Heap}{T:aK}{k:Nat}
end
section
variable{P:Program}{w:World}{K:PySem.W.Frag}{mg:Str->Option Value}{base:Heap}{k:Nat}
end
end Mir
namespace L2
open PySem PySem.Spec PyProof.Rows
section
variable{X:Cx}{e C N fI d:Addr}{oe:Obj}
theorem eO{cn:Str}{r:Pos}{u:Value}(a:Gl X cn)(b:X.mg cn=some u)(c:(cn==("__debug__":Str))=false):gI X (cn,r) u:=λE pins s d H Q I q=>eh I a b q c
theorem rZ{cn:Str}{r:Pos}{u:Value}(a:Gl X cn)(b:X.mg cn=none)(c:bootBuiltins cn=some u)(d:cn≠"__name__")(e:(cn==("__debug__":Str))=false):gI X (cn,r) u:=λE pins s f H Q I q=>gi I a b c q d e
end
end L2
namespace Mir
open PySem PySem.Spec PyProof.Rows L2
variable [aw]
section
variable{P:Program}{w:World}{K:PySem.W.Frag}{mg:Str->Option Value}{base:Heap}{k:Nat}
end
structure Fe(K:PySem.W.Frag)(x qual:Str)(st:Stmt)(dV:Value)(f:Addr)(fd:FuncData):Prop where
 ex:∃(oc:Value) (od:Option Addr) (kV doc pm:Value) (an:Option Addr) (cdv ct:Value) (osl:Array (Option Value)),
  fd=PySem.W.fnOf x qual (aN st) (ay st) (ae st) dV kV doc pm an cdv ct/\K.lookup f=some ⟨oc,od,.func fd,osl⟩/\PySem.W.codeIn K cdv qual=true
 kp:PySem.W.keepIn K (.ref f)=true
section
variable{P:Program}{w:World}{K:PySem.W.Frag}{mg:Str->Option Value}{base:Heap}{T:aK}{k:Nat}
theorem ug(W:aY P w K mg base T k){x qual:Str}{st:Stmt}{D:Value}{f:Addr}{y:FuncData}(F:Fe K x qual st D f y){N ps td:List Str}{c:SM}(I:bK N ps (ae st)=true)(J:cH T td st N=some c) :
    bF P w K mg base ek (k+1) f y ps (dq (bO mg) (bh N.length ps.length c)):=by
  obtain⟨oc,od,kV,L,pm,an,n,ct,M,rfl,O,o⟩:=F.ex;have p:=fP I;refine wy O o p (λR H Q E h=>?_) λA outer s H R Q E U h=>?_
  · obtain⟨e,Z,i,l,S,r,g⟩:=h
    rw[r.length];unfold bh at g;split at g
    · rename_i V;exact V
    · exact g.elim
  · obtain⟨e,Z,i,l,S,r,g⟩:=h
    have G:cZ (cx ek P w K mg base N qual (ae st) f n A outer s H E).hP (bO mg) T k (ae st) N:=
      { scope:=rfl,names:=rfl,calm:=rfl,room:=U,cM:=W.cM,own:=PassesOwn.never,EF:=λ_ _ _=>.inl rfl,jT:=p.nd,kind:=p.kind,hP:=λ_ _ _ h=>h,fld:=W.fld,cst:=W.cst
        gh:=λx F h=>⟨W.gh x F h⟩,fn:=λx F h=>⟨W.fn x F h⟩,met:=λm C F h=>⟨W.met m C F h⟩,cls:=λC F h=>let ⟨j,X,Y⟩:=W.cls C F h;⟨j,X,⟨Y⟩⟩,clo:=W.clo }
    refine⟨Et (bO mg) ji e Z H c (aP N.length l) i,(dU (gU G 30 60) J e Z H (aP N.length l) i).hP,e,Z,eL S r,?_⟩;unfold bh at g;split at g
    · cases q:c (aP N.length l) i with
      |rt d a=>rw[q]at g;exact λv t b u gr st r=>g v t b u gr st r
      |nx z a=>rw[q]at g;exact λσ t b u B=>g .non t b u B.gr B.st (aW rfl)
      |bk z a=>rw[q]at g;exact g.elim
      |ct z a=>rw[q]at g;exact g.elim
      |exc x a=>rw[q]at g;exact g
      |bad=>rw[q]at g;exact g.elim
    · exact g.elim
end
noncomputable def jR(C fld:Str)(d:D):D:=.tup [.str C,.str fld,d]
def lh(C fld:Str)(c:EM)(m:EM):SM:=λe f=>cF (m e f) λd a=>match c [none,some d] a with
 |.ok g b=>.exc (jR C fld g) b
 |_=>.bad
def oz(κ:Str->Addr->Prop)(E:XK):fg:=λx f e Z H=>∃C a d,x=jR C a d/\∀c v b,κ C c->ah e Z H d v->H b=none->E (.ref c) (some b) (upd H b (.xd [(a,v)]))
def yJ(κ:Str->Addr->Prop)(F:b_):Sp:=λd H Q E=>∃a Z b c,bb κ a Z b H/\aG (ah a Z H) c d/\bV κ (oz κ E) a Z H (F c b) Q
def uh(R:List Stmt->Option SM)(T:aK)(td:List Str)(k:Nat)(d:Scope)(N:List Str)(st:Stmt):Option SM:=match st with
 |.If c a b _=>o2 (bW T k d N c) (o2 (R a) (R b) Prod.mk) λx y=>eJ x y.1 y.2
 |.While c b [] _=>o2 (bW T k d N c) (R b) Hg
 |.For (.Name x _) e b [] _=>if isSet e then none else o2 (iW T d N x) (o2 (fC (bW T k d N) d e) (R b) Prod.mk) λi y=>hI (dR i) y.1 y.2
 |_=>iX T td k d N 1 st
def oA(a:Stmt->Option SM)(T:aK)(td:List Str)(k:Nat)(b:Scope)(N:List Str):Nat->Stmt->Option SM
 |0,_=>none
 |n+1,st=>match a st with
  |some c=>some c
  |none=>uh (cS (oA a T td k b N n)) T td k b N st
section
variable{X:Cx}{κ:Str->Addr->Prop}{Φ:fg}{T:aK}{k:Nat}{sc:Scope}{N td:List Str}{hk:Stmt->Option SM}
theorem BV(G:cZ X κ T k sc N)(z:∀st c,hk st=some c->jV X κ Φ st c):∀(n d:Nat) (st:Stmt) (c:SM),oA hk T td d sc N n st=some c->jV X κ Φ st c:=by
 intro n d;have E:∀e m,bW T d sc N e=some m->jY X κ e m:=λe m q=>iq d X sc N e m G.toGoodO q
 induction n with
 |zero=>intro st c h;cases h
 |succ n A=>
  intro st c h;have B:∀o c,cS (oA hk T td d sc N n) o=some c->lO X κ Φ o c:=λo c q=>dU A q
  have C:X.N.Nodup:=by rw[G.names];exact G.jT
  cases p:hk st with
  |some L=>
   replace h:(match hk st with|some c=>some c|none=>uh (cS (oA hk T td d sc N n)) T td d sc N st)=some c:=h
   rw[p]at h;cases h;exact z _ _ p
  |none=>
   have D:iX T td d sc N 1 st=some c->jV X κ Φ st c:=λq=>gU G 1 d st c q
   replace h:(match hk st with|some c=>some c|none=>uh (cS (oA hk T td d sc N n)) T td d sc N st)=some c:=h
   rw[p]at h;replace h:uh (cS (oA hk T td d sc N n)) T td d sc N st=some c:=h;cases st with
   |If r a b f=>
    obtain⟨m,y,g,j,rfl⟩:=bt h;obtain⟨F,l,s,t,rfl⟩:=bt j;exact xM ((E r m g).2.1 Φ) (B a F s) (B b l t)
   |While r b e f=>
    cases e with
    |nil=>
     obtain⟨m,l,g,j,rfl⟩:=bt h;exact vA G.own ((E r m g).2.1 Φ) (B b l j)
    |cons _ _=>exact D h
   |For u w b e f=>
    cases e with
    |nil=>
     cases u with
     |Name x M=>
      replace h:(if isSet w=true then none else o2 (iW T sc N x) (o2 (fC (bW T d sc N) sc w) (cS (oA hk T td d sc N n) b) Prod.mk) λi y=>hI (dR i) y.1 y.2)=some c:=h
      split at h
      .cases h
      .rename_i H
       obtain⟨i,y,g,j,rfl⟩:=bt h;obtain⟨O,l,s,t,rfl⟩:=bt j;obtain⟨I,J,K⟩:=fD G g;exact tE G.own G.calm (oa G.toGoodO E s Φ _) (gK C I J K) (xP i) (B b l t) (iL (by simpa using H))
     |_=>exact D h
    |cons _ _=>cases u<;>exact D h
   |_=>exact D h
end
section
variable{P:Program}{w:World}{K:PySem.W.Frag}{mg:Str->Option Value}{base:Heap}{T:aK}{k:Nat}
theorem aY.toXt(W:aY P w K mg base T k):aY P w K mg base {T with xt:=true} k:=⟨W.cM,W.gh,W.fn,W.cst,W.met,W.cls,W.fld,W.clo⟩
theorem vQ{κ:Str->Addr->Prop}{N:List Str}{qual:Str}{scope:Scope}{f:Addr}{y:Value}{A:Around}{outer:List Env}{z:Shared}{H0:Hp}{E:XK}
  {C N0 U c:Addr}{V:FuncData}{stI:Stmt}{h fld sf pn cn:Str}{ve p:Expr}{np F pos:Pos}{m L:EM} (D:yC K mg C N0 U c V stI h fld sf pn ve) (hr:br (k+2) (A.deeper (envOfC qual scope z.heap.objs.size f y)))
  (hg:Gl (cx (oI P w) P w K mg base N qual scope f y A outer z H0 E) cn) (hm:mg cn=some (.ref C)) (X:κ cn C)
  (G:bc (cx (oI P w) P w K mg base N qual scope f y A outer z H0 E) κ (oz κ E) p m)
  (Y:∀(M:Around) (ot:List Env) (O:Shared) (e:Addr) (o:Hp) (E':XK),br k (M.deeper (envOfC h (ae stI) O.heap.objs.size U (.ref c)))->bc ((cx ek P w K mg base [sf,pn] h (ae stI) U (.ref c) M ot O o E').hP.mk1 e) κ ji ve L)
  (a0:starEach [p] (envOfC qual scope z.heap.objs.size f y)=[(false,eval p (envOfC qual scope z.heap.objs.size f y))]) (b0:(cn==("__debug__":Str))=false) :
  jV (cx (oI P w) P w K mg base N qual scope f y A outer z H0 E) κ (oz κ E) (.Raise (some (.Call (.Name cn np) [p] [] F)) none pos) (lh cn fld L m):=by
 intro q Q r ρ Ω pins s σ H Dn I hF;obtain⟨α,Z,S,hF⟩:=hF
 refine yF (k:=k) (te:=tO κ (oz κ E) q Q r m ρ Ω) (Arg:=λR o=>∃d j t b g u,L [none,some d] j=.ok t b/\bU q Q r g u o/\bb κ g u j o/\ah g u o d R/\(∀n a l,bU q Q r a l n->bb κ a l b n->oz κ E (jR cn fld t) b a l n))
  (gG:=λR o v n=>∃t b a l,bb κ a l b n/\ah a l n t v/\oz κ E (jR cn fld t) b a l n) D hr hg hm (G q Q r ρ Ω) (λR o hA M ot O e E' c0=>?_) a0 b0 pins s σ H Dn I ⟨α,Z,S,?_⟩
 .obtain⟨d,j,t,b,g,u,e1,g1,s1,r1,h1⟩:=hA
  refine⟨_,Y M ot O e o E' c0 g u o [none,some d] j,g,u,⟨s1,bU.refl s1.has,rfl,λi dd hi=>?_⟩,?_⟩
  .match i with
   |0=>cases hi
   |1=>cases hi;exact⟨R,rfl,r1⟩
   |i+2=>cases hi
  .rw[e1]
   intro v n a l g2 J r2;exact⟨t,b,a,l,J,r2,h1 n a l (g1.trans g2) J⟩
 .refine dQ.use S hF λd j v o g u e1 g1 S1 r1 B=>?_
  cases T:L [none,some d] j with
  |ok t b=>
   rw[T]at B;refine⟨⟨d,j,t,b,g,u,T,S1.gr,S1.st,r1,λn a l g2 J=>B n a l g2 J⟩,?_⟩
   rintro v' n dd ⟨d2,g0,a,l,J,r2,hp⟩ e0;obtain⟨C',f0,d3,e3,h3⟩:=hp;simp only[jR,Mir.D.tup.injEq,List.cons.injEq,Mir.D.str.injEq,and_true]at e3;obtain⟨rfl,rfl,rfl⟩:=e3;exact h3 C v' dd X r2 e0
  |exc x b=>rw[T]at B;exact B.elim
  |bad=>rw[T]at B;exact B.elim
theorem BW(W:aY P w K mg base T k)(p:T.xt=true){x qual:Str}{st:Stmt}{R:Value}{f:Addr}{B:FuncData}(F:Fe K x qual st R f B){N ps td:List Str}{c:SM}{D:Stmt->Option SM}(U:bK N ps (ae st)=true)(V:cS (oA D T td 60 (ae st) N 30) (ay st)=some c)
    (X:∀(a:Value) (A:Around) (outer:List Env) (s:Shared) (H:Hp) (E:XK),br (k+2) (A.deeper (envOfC qual (ae st) s.heap.objs.size f a))->GoodO (cx (oI P w) P w K mg base N qual (ae st) f a A outer s H E) (bO mg) T k (ae st) N ->
      ∀i I,D i=some I->jV (cx (oI P w) P w K mg base N qual (ae st) f a A outer s H E) (bO mg) (oz (bO mg) E) i I) :
    bF P w K mg base (oI P w) (k+3) f B ps (yJ (bO mg) (bh N.length ps.length c)):=by
  obtain⟨oc,od,kV,Y,pm,an,a,ct,a0,rfl,lk,t⟩:=F.ex;have u:=fP U;refine wy lk t u (λvs H Q E h=>?_) λA outer s H vs Q E J h=>?_
  · obtain⟨l,Z,n,o,S,r,g⟩:=h
    rw[r.length];unfold bh at g;split at g
    · rename_i hl;exact hl
    · exact g.elim
  · obtain⟨l,Z,n,o,S,r,g⟩:=h
    have L:GoodO (cx (oI P w) P w K mg base N qual (ae st) f a A outer s H E) (bO mg) T k (ae st) N:=
      { scope:=rfl,names:=rfl,calm:=rfl,room:=J.mono (by omega),cM:=W.cM,fld:=W.fld,cst:=W.cst
        gh:=λx F h=>⟨W.gh x F h⟩,fn:=λx F h=>⟨W.fn x F h⟩,met:=λm C F h=>⟨W.met m C F h⟩,cls:=λC F h=>let ⟨j,h1,h2⟩:=W.cls C F h;⟨j,h1,⟨h2⟩⟩,clo:=W.clo }
    have G:cZ (cx (oI P w) P w K mg base N qual (ae st) f a A outer s H E) (bO mg) T k (ae st) N:=
      {toGoodO:=L,own:=PassesOwn.leaving,EF:=λ_ _ _=>.inl rfl,jT:=u.nd,kind:=u.kind,hP:=λq=>by rw[p]at q;cases q}
    refine⟨Et (bO mg) (oz (bO mg) E) l Z H c (aP N.length o) n,dU (BV G (X a A outer s H E J L) 30 60) V l Z H (aP N.length o) n,l,Z,eL S r,?_⟩;unfold bh at g;split at g
    · cases q:c (aP N.length o) n with
      |rt d b=>rw[q]at g;exact λv y e z gr st r=>g v y e z gr st r
      |nx M b=>rw[q]at g;exact λσ y e z O=>g .non y e z O.gr O.st (aW rfl)
      |bk M b=>rw[q]at g;exact g.elim
      |ct M b=>rw[q]at g;exact g.elim
      |exc x b=>rw[q]at g;exact g
      |bad=>rw[q]at g;exact g.elim
    · exact g.elim
end
section
variable{X:Cx}{κ:Str->Addr->Prop}{e:Expr}{es:List Expr}{as:AM}{p pos:Pos}
end
section
variable{P:Program}{w:World}{K:PySem.W.Frag}{mg:Str->Option Value}{base:Heap}{T:aK}{k:Nat}
end
end Mir
namespace Mir
open PySem PySem.Spec PyProof.Rows L2
section
variable{prog:Program}{w:World}{A:Around}{E:Value->Shared->Prop}{s:Shared}
end
end Mir
namespace Mir
open PySem PySem.Spec PyProof.Rows L2
open AutoSeq1 (wpAny_loadPart')
section
variable{prog:Program}{w:World}{A:Around}{E:Value->Shared->Prop}{s:Shared}
end
end Mir
namespace Mir
open PySem PySem.Spec PyProof.Rows L2
section
variable{prog:Program}{w:World}{A:Around}{R:Result->Shared->Prop}{I:Addr}{fp wr:List Addr}{G:Array GenState->Array GenState->Prop}{n:Nat}{P:Nat->Value->Prop}{St:Nat->Shared->Prop}
end
section
variable{prog:Program}{w:World}{A:Around}{E:Value->Shared->Prop}{s:Shared}
end
variable [aw]
section
variable{X:Cx}{κ:Str->Addr->Prop}{Φ:fg}{e:Expr}{m:EM}{p p' pos pos':Pos}
end
section
variable{P:Program}{w:World}{K:PySem.W.Frag}{mg:Str->Option Value}{base:Heap}{T:aK}{k:Nat}
end
section
variable{X:Cx}{κ:Str->Addr->Prop}{Φ:fg}{e:Expr}{es:List Expr}{as:AM}{p pos:Pos}{T:aK}{k:Nat}{sc:Scope}{N:List Str}
theorem vR{j:Nat}{x:Str}{F:b_}{f:Addr}{k:FuncData}{ps:List Str}{ds:List Value}{iz:List V}{Dd:List D}(F1:bF X.prog X.w X.K X.mg X.base ek j f k ps (dq κ F))(l:br j X.A)(m:Gl X x)(n:X.mg x=some (.ref f))(o:PySem.W.keepIn X.K (.ref f)=true)(q:Binds X.K k ps ds)(r:Vals iz ds)(s:∀a Z H,aG (ah a Z H) Dd iz)(b:(x==("__debug__":Str))=false)
  (t:starEach (e::es) X.env=(false,eval e X.env)::starEach es X.env) (c:(backTo pos (starEach es X.env)).any (·.1)=false) (u:nP X κ Φ (e::es) as) :
  bc X κ Φ (.Call (.Name x p) (e::es) [] pos) (mN (λxs Ω=>cm F (xs++Dd) Ω) as):=by
 intro d y z B Ω;refine PE.imp (nq F1 l m n o q r iG (u d y z B Ω) b t c) ?_;rintro J H Q ⟨a,Z,S,g⟩;refine⟨a,Z,S,nO.use g λxs h _ L M i C N E G I=>?_⟩
 exact⟨i,C,h,xs++Dd,E,G.append (s _ _ _),bV.ok0 I⟩
def MD(f:Expr)(p:Pos)(as:List Expr)(a:List Keyword):Option (Str×Expr):=match f,as,a with
 |.Name l _,[e],[]=>some (l,e)
 |_,_,_=>none
def PF:Expr->Option (Str×Expr)
 |.Call f as ks p=>MD f p as ks
 |_=>none
theorem BX{x:Expr}{l:Str}{e:Expr}(h:PF x=some (l,e)):∃q p,x=.Call (.Name l q) [e] [] p:=by
 cases x with
 |Call f b c p=>
  cases f with
  |Name d q=>
   cases b with
   |nil=>cases h
   |cons a r=>
    cases r with
    |nil=>
     cases c with
     |nil=>cases h;exact⟨q,p,rfl⟩
     |cons _ _=>cases h
    |cons _ _=>cases h
  |_=>cases h
 |_=>cases h
theorem yK{c d:Type}{o:Option c}{f:c->Option d}{b:d}(h:o.bind f=some b):∃a,o=some a/\f a=some b:=Option.bind_eq_some_iff.mp h
end
section
variable{P:Program}{w:World}{K:PySem.W.Frag}{mg:Str->Option Value}{base:Heap}{T:aK}{k:Nat}
noncomputable def Ie:Stmt->Option Expr
 |.Raise (some e) none _=>some e
 |_=>none
theorem yL{st:Stmt}{x:Expr}(h:Ie st=some x):∃p,st=.Raise (some x) none p:=by
 cases st with
 |Raise v u p=>
  cases v with
  |none=>cases h
  |some e=>
   cases u with
   |none=>cases h;exact⟨p,rfl⟩
   |some _=>cases h
 |_=>cases h
def ui(T:aK)(a:Scope)(N:List Str)(C fld:Str)(b:EM)(st:Stmt):Option SM:=(Ie st).bind λx=>(PF x).bind λu=>
 if u.1==C&&Ah a u.1&&!(isStar u.2)then (bW T 60 a N u.2).map (λm=>lh C fld b m)else none
theorem r_{N:List Str}{qual:Str}{scope:Scope}{f:Addr}{b:Value}{A:Around}{outer:List Env}{d:Shared}{H0:Hp}{E:XK}
  {C H i c:Addr}{j:FuncData}{stI:Stmt}{a fld p r cn:Str}{s:Expr}{t:EM} (D:yC K mg C H i c j stI a fld p r s) (I:br (k+2) (A.deeper (envOfC qual scope d.heap.objs.size f b))) (u:mg cn=some (.ref C)) (n:(cn==("__debug__":Str))=false)
  (G:GoodO (cx (oI P w) P w K mg base N qual scope f b A outer d H0 E) (bO mg) T k scope N)
  (o:∀(y:Around) (J:List Env) (z:Shared) (e:Addr) (L:Hp) (M:XK),br k (y.deeper (envOfC a (ae stI) z.heap.objs.size i (.ref c)))->bc ((cx ek P w K mg base [p,r] a (ae stI) i (.ref c) y J z L M).hP.mk1 e) (bO mg) ji s t)
  (st:Stmt) (B:SM) (h:ui T scope N cn fld t st=some B):jV (cx (oI P w) P w K mg base N qual scope f b A outer d H0 E) (bO mg) (oz (bO mg) E) st B:=by
 obtain⟨x,v1,O⟩:=yK h;obtain⟨⟨l,Q⟩,v2,g⟩:=yK O;obtain⟨X,rfl⟩:=yL v1;obtain⟨Y,Z,rfl⟩:=BX v2;dsimp only at g;split at g
 .rename_i F
  simp only[Bool.and_eq_true,Bool.not_eq_true']at F;obtain⟨⟨R,S⟩,U⟩:=F;obtain rfl:=eq_of_beq R;obtain⟨m,q,rfl⟩:=cz g;have V:=iq 60 _ scope N _ m G q;exact vQ D I (G.gl S) u u (V.1 _) o (by rw[bj U];rfl) n
 .cases g
end
section
variable{P:Program}{w:World}{K:PySem.W.Frag}{mg:Str->Option Value}{base:Heap}
end
section
variable{X:Cx}{κ:Str->Addr->Prop}{T:aK}{k j:Nat}{sc:Scope}{N:List Str}{f:Addr}{fd:FuncData}{ps:List Str}{MG:b_}{E':XK}{x a y:Str}{p pa py cpos pos:Pos}
end
end Mir
namespace L2
open PySem PySem.Spec PyProof.Rows
section
variable{X:Cx}{σ:St}{H:Hp}{s:Shared}{C:Addr}{k:Nat}{f:Addr}{fd:FuncData}{ps:List Str}{sp:Sp}{to:TE}{ta:TA}
noncomputable def Ig(C:Addr)(W:Addr->List (Str×V)->Hp->Prop):XK:=λa e b=>a=.ref C/\∃d c,e=some d/\b d=some (.xd c)/\W d c b
theorem Ff{W:Addr->List (Str×V)->Hp->Prop}{o:Expr}{m bn n:Str}{B0 O:Addr}{i:Nat}{b0:Stmt}{suite:List Stmt}{apos b h hp t pos:Pos}{a1:Expr}{as:List Expr}{pl:Sem Bool}{Q:Flow->Shared->Prop}{E:Value->Shared->Prop}(I:Inv X [] σ H s)(y:∀e s,¬ X.xe e s)
  (ho:PE X o to) (c:lW X.K O) (hm:Meth X.K O m f) (F:bF X.prog X.w X.K X.mg X.base (oI X.prog X.w) k f fd ps sp) (hr:br k X.A) (hb:Binds X.K fd ps [])
  (ha:PA X (a1::as) ta) (P:to σ H λx H0=>∃a dx fs,x=.ref a/\H0 a=some (.ins O dx fs)/\fs.lookup m=none/\ta σ H0 λvs R=>sp (.ref a::vs) R (λ_ _=>False) (Ig C W))
  (S:X.stack=X.env::X.outer) (T:X.env.frame=some X.env.locals) (hg:Gl X bn) (U:X.mg bn=some (.ref B0)) (Y:PySem.W.exmOne X.K (.ref C) (.ref B0)=some true) (hN:X.N.Nodup) (hi:X.N[i]?=some n) (hn:X.env.scope.names.lookup n=some .local)
  (g:∀e d fs j B s4,B d=some (.xd fs)->W d fs B->j.cls=.ref C->j.dict=some d->PySem.W.notCls j=true->Inv (X.oy e) [(e,j)] (σ.set i (some (.ref e))) B s4 ->
   wpAny (model X.prog X.w) (X.A.mark (some (.ref e))) (execs (b0::suite) X.env) (λf s5=>∃Z H5,Inv (X.oy e) [(e,j)] Z H5 s5/\∀a0 s6,Inv X [] a0 H5 s6->Q f s6) (λ_ _=>False) s4)
  (he:starEach (a1::as) X.env=(false,eval a1 X.env)::starEach as X.env) (c0:(backTo b (starEach as X.env)).any (·.1)=false) (e0:swapsWith (.Call (.Attribute o m apos) (a1::as) [] b) none h.line X.env=pure false)
  (ht:eval (.Call (.Attribute o m apos) (a1::as) [] b) X.env=(do
   let ov ←eval o X.env
   standAt apos.atName
   let (f,first) ←holding [ov] (getMethod ov m pl)
   callWith b f first (backTo b (starEach (a1::as) X.env)) (backToKw b (keywordEach [] X.env))))
  (f0:(bn==("__debug__":Str))=false) :
  wpAny (model X.prog X.w) X.A (exec (.Try [.Expr (.Call (.Attribute o m apos) (a1::as) [] b) h] [.ExceptHandler (some (.Name bn hp)) (some n) (b0::suite) t] [] [] pos) X.env) Q E s:=by
 refine wpAny_Try_except (wpAny_execs_cons (wpAny_Expr_any ?_ I.quiet e0));refine PySem.W.methodCall_KW (pl:=pl) (wpAny_mono (ho [] s σ H _ I P) (λu s0 z=>?_) λe p z=>(y e p z).elim) ht
 obtain⟨x,H0,I0,rx,a,dx,fs,ex,ea,l,q⟩:=z;subst ex;obtain rfl:u=Value.ref a:=rx;refine ib I0 ea c hm l ?_;refine PySem.W.callWith_K (first:=[.ref a]) (h₀:=X.base) I.ok.mod.zC hm.kp (wpAny_mono (ha b [] s0 σ H0 _ I0 q) (λD p z=>?_) λe p z=>(y e p z).elim) he c0
 obtain⟨vs,R,M,r1,h1⟩:=z;refine⟨M.eg,?_⟩;have rr:Vals (V.ref a::vs) (Value.ref a::D):=.cons rfl r1;have hl:(Value.ref a::D).length=ps.length:=by rw[←rr.length];exact F.len _ _ _ _ h1
 have G:=hb p (.ref a::D) M.eg (by rw[List.append_nil];exact hl)
 rw[List.append_nil]at G;refine wpAny_call (codeAny_mono (F.run X.A X.stack p R ⟨.ref a::D,[]⟩ (.ref a::D) (.ref a::vs) _ _ hr M.env0 G rr h1) λr s2 J=>?_)
 cases r with
 |error x=>
  obtain⟨e,C',d,B,rfl,Th,hE⟩:=J;obtain⟨e1,d',fs,e2,L,hW⟩:=hE;cases e1;cases e2;exact yG (nm:=some n) M Th S T L hg U Y hN (λ_ e=>by cases e;exact hi) (λ_ e=>by cases e;exact hn) (λj s4 c1 c2 c3 J4=>g e d fs j B s4 L hW c1 c2 c3 J4) f0
 |ok fl=>
  cases fl with
  |ret u=>
   obtain⟨_,_,_,_,_,_,_,z⟩:=J;exact z.elim
  |next=>exact False.elim J
  |brk=>exact False.elim J
  |cont=>exact False.elim J
end
section
open Mir
variable{X:Cx}{e C N fI d:Addr}{oe:Obj}
theorem yM{a:Expr}{t:Ty}{p b pos:Pos}{g:TE}(i:Gl X "isinstance")(j:X.mg "isinstance"=none)(c:Gl X t.nm)(d:X.mg t.nm=none)(h:starEach [a,Expr.Name t.nm b] X.env=(false,eval a X.env)::starEach [Expr.Name t.nm b] X.env)(e:(backTo pos (starEach [Expr.Name t.nm b] X.env)).any (·.1)=false)(k:PE X a g) :
  PE X (.Call (.Name "isinstance" p) [a,.Name t.nm b] [] pos) (λl H Q=>g l H λx m=>Eb X.K [x,.ty t.id] m Q):=by
 have f:PE X (.Name t.nm b) (tC (.ty t.id)):=su c d (sS t) rfl (by cases t<;>decide) (by cases t<;>decide)
 exact iA pf i j boot_isinstance (ei k (ei f ng rfl) h) (by decide) (by decide) h e
theorem BY{i j:Nat}{n sn fld I cn:Str}{ns:List (Str×Pos)}{G:List Value}{J:Value}{x1:Nat}{jx:Nat}{p1 q1 L s1 p2 q2 r2 s2 p3 q3 M s3 q4 s4 q5 s5 q6 s6 q7 p8 t8 s8 p9 t9 s9 e8 b1 b2 b3 c1 c2 i1 i2 r4:Pos}(O:X.A.units+64<cLine)
  (c:Fd X e C oe d N fI) (P:cK X.K C fld) (l:X.N[i]?=some n) (m:uB X.env.scope n) (Q:X.N[j]?=some sn) (o:uB X.env.scope sn) (p:Gl X "isinstance") (q:X.mg "isinstance"=none) (r:Gl X "bool") (s:X.mg "bool"=none)
  (Y:gI X (I,L) J) (k1:PySem.W.kitOne X.K (.ref C) J=some true) (h2:Names X ns G) (hz:G.length<=100) (k2:PySem.W.kitAny X.K (.ref C) G=some false) (h3:gI X (cn,M) (.ref C)) (k3:PySem.W.kitOne X.K (.ref C) (.ref C)=some true)
  (a:(n==("__debug__":Str))=false) (f:(n==("__classdict__":Str))=false) (u:(sn==("__debug__":Str))=false) (x:(sn==("__classdict__":Str))=false) :
  ∃t,iv X [.If (.BoolOp .Or [.UnaryOp .Not (.Call (.Name "isinstance" p1) [.Name n q1,.Name I L] [] s1) b1,.Call (.Name "isinstance" p2) [.Name n q2,.Tuple (ns.map λz=>.Name z.1 z.2) x1 r2] [] s2] b2) [.Return (some (.Constant (.bool false) jx c1)) c2] [] i1,
    .If (.BoolOp .And [.Call (.Name "isinstance" p3) [.Name n q3,.Name cn M] [] s3,.Compare (.Call (.Name "isinstance" p8) [.Attribute (.Name n q6) fld s6,.Name "bool" t8] [] s8) [.Eq] [.Call (.Name "isinstance" p9) [.Name sn q7,.Name "bool" t9] [] s9] e8] b3) [.Return (some (.Compare (.Attribute (.Name n q4) fld s4) [.Eq] [.Name sn q5] s5)) r4] [] i2] t /\
   ∀(E:Ends) (F:L2.St) (H:Hp) (v w:V) (fs:List (Str×V)) (Z:Addr->Prop) (g h:Mir.D) (b k:Bool),F[i]?=some (some (.ref e))->F[j]?=some (some w)->H d=some (.xd fs)->fs.lookup fld=some v->Now Z H g v->Now Z H h w->oH g .bool=some b->oH h .bool=some b->bN .Eq g h=.ok k->E.rt (.bl k) H->t E F H:=by
 refine⟨_,oO (wb (pw_or (v_ (qL (yH c l m p q Y k1 a f))) (pw_or1 (qL (BU c l m p q h2 hz k2 a f)))).pt (mW (qN Cu)) mV)
  (mW (wb (pw_and (qL (yH c l m p q h3 k3 a f)) (pw_and1 (sy (gq O .Eq) (yM (t:=.bool) p q r s rfl rfl (CY c P l m a f)) (yM (t:=.bool) p q r s rfl rfl (eY (pos:=q7) Q o u x)) rfl))).pt (mW (qN (sx (gq O .Eq) (CY c P l m a f) (eY (pos:=q5) Q o u x) rfl))) mV)),λE F H v w fs Z g h b k y R B S T U y1 y2 g5 g6=>?_⟩
 refine⟨y,⟨fs,B⟩,true,rfl,?_⟩;refine⟨y,⟨fs,B⟩,false,rfl,?_⟩;refine⟨y,⟨fs,B⟩,true,rfl,?_⟩;dsimp only;rw[if_pos rfl];refine⟨y,fs,v,B,S,Z,g,v,.bool,b,rfl,T,y1,?_⟩;refine⟨w,R,Z,h,w,.bool,b,rfl,U,y2,?_⟩;refine⟨λ_=>False,.bl b,.bl b,true,by simp[Now,Rep],by simp[Now,Rep],by cases b<;>rfl,true,rfl,?_⟩
 dsimp only;rw[if_pos rfl];exact⟨y,fs,v,B,S,w,R,Z,g,h,k,T,U,g5,g6⟩
end
end L2
namespace Mir
open PySem PySem.Spec PyProof.Rows L2
variable [aw]
noncomputable def CZ(C fld:Str)(x:D):Option D:=match x with
 |.tup [.str c,.str g,d]=>if c=C/\g=fld then some d else none
 |_=>none
theorem BZ{C fld:Str}{x d:D}(h:CZ C fld x=some d):x=jR C fld d:=by
 unfold CZ at h;split at h
 .split at h
  .rename_i a;cases h;rw[a.1,a.2];rfl
  .cases h
 .cases h
def sd(d t:D)(Ω:aI):av D:=match dE Ω 8 d,dE Ω 8 t with
 |some a,some c=>match oH a .bool,oH c .bool,bN .Eq a c with
  |some b,some e,.ok k=>if b=e then .ok (.bl k) Ω else .bad
  |_,_,_=>.bad
 |_,_=>.bad
def yN(n:Nat)(e m:Str)(F:b_)(as:AM)(C fld:Str):b_:=λg c=>match g with
 |[f,p,t]=>match lP c f with
  |some (_,h,i)=>if h=e/\i.lookup m=none then (match as (aP n [f,p,t]) c with
   |.ok j a=>match F (f::j) a with
    |.exc x b=>match CZ C fld x with
     |some d=>sd d t b
     |none=>.bad
    |_=>.bad
   |_=>.bad)else .bad
  |none=>.bad
 |_=>.bad
section
variable{P:Program}{w:World}{K:PySem.W.Frag}{mg:Str->Option Value}{base:Heap}{k:Nat}{T:aK}
structure Ih(K:PySem.W.Frag)(mg:Str->Option Value)(sc:Scope)(C:Addr)(en sn fld:Str)(suite:List Stmt):Prop where
 ex:∃(vn cn:Str) (ns:List (Str×Pos)) (cs:List Value) (vv:Value) (x1:Nat) (jx:Nat) (p1 q1 r1 s1 p2 q2 r2 s2 p3 q3 r3 s3 q4 s4 q5 s5 q6 s6 q7 p8 t8 s8 p9 t9 s9 e8 b1 b2 b3 c1 c2 i1 i2 r4:Pos),
  suite=[.If (.BoolOp .Or [.UnaryOp .Not (.Call (.Name "isinstance" p1) [.Name en q1,.Name vn r1] [] s1) b1,.Call (.Name "isinstance" p2) [.Name en q2,.Tuple (ns.map λz=>.Name z.1 z.2) x1 r2] [] s2] b2) [.Return (some (.Constant (.bool false) jx c1)) c2] [] i1,
    .If (.BoolOp .And [.Call (.Name "isinstance" p3) [.Name en q3,.Name cn r3] [] s3,.Compare (.Call (.Name "isinstance" p8) [.Attribute (.Name en q6) fld s6,.Name "bool" t8] [] s8) [.Eq] [.Call (.Name "isinstance" p9) [.Name sn q7,.Name "bool" t9] [] s9] e8] b3) [.Return (some (.Compare (.Attribute (.Name en q4) fld s4) [.Eq] [.Name sn q5] s5)) r4] [] i2] /\
  (∀X:Cx,X.env.scope=sc->X.mg=mg->gI X (vn,r1) vv/\Names X ns cs/\gI X (cn,r3) (.ref C))/\cs.length<=100 /\
  PySem.W.kitOne K (.ref C) vv=some true/\PySem.W.kitAny K (.ref C) cs=some false/\PySem.W.kitOne K (.ref C) (.ref C)=some true
theorem Ii(W:aY P w K mg base T k){x qual n D sn en bn fld Cc m cn:Str}{st f0:Stmt}{f c C N0 fI B0 Ca ft:Addr}{fd g0:FuncData}{j0:List Str}{G0:b_}{as:AM}(F:vY K x qual st f fd)(w0:fd.code=.ref c)(S:eR [n,D,sn,en] [n,D,sn] (ae st))
    (x0:mg Cc=some (.ref Ca)) (cl:lW K Ca) (M:Meth K Ca m ft) (Ft:bF P w K mg base (oI P w) k ft g0 j0 (yJ (bO mg) G0)) (y0:Binds K g0 j0 [])
    {suite:List Stmt}{b0:Stmt}{a1:Expr}{es:List Expr}{l1 apos Y m0 hp n0 pos:Pos} (z0:ay st=[.Try [.Expr (.Call (.Attribute (.Name n l1) m apos) (a1::es) [] Y) m0] [.ExceptHandler (some (.Name bn hp)) (some en) (b0::suite) n0] [] [] pos,f0])
    (A0:cP (bW T 60 (ae st) [n,D,sn,en]) (a1::es)=some as) (C0:(a1::es).length<20) (a0:(apos.endLine==Y.line)=true)
    (D0:mg cn=some (.ref C)) (Tx:qB K C N0 fI) (is:PC K C) (na:cK K C fld) (U:Ih K mg (ae st) C en sn fld (b0::suite)) (I0:mg bn=some (.ref B0)) (J0:PySem.W.exmOne K (.ref C) (.ref B0)=some true)
    (sl:(ae st).names.lookup n=some .local) (ss:(ae st).names.lookup sn=some .local) (se:(ae st).names.lookup en=some .local) (sb:(ae st).names.lookup bn=some .globalImplicit) (si:(ae st).names.lookup ("isinstance":Str)=some .globalImplicit) (K0:(ae st).names.lookup ("bool":Str)=some .globalImplicit)
    (d1:(n==("__debug__":Str))=false) (d2:(n==("__classdict__":Str))=false) (d3:(sn==("__debug__":Str))=false) (d4:(sn==("__classdict__":Str))=false) (d5:(en==("__debug__":Str))=false) (d6:(en==("__classdict__":Str))=false) (d7:(bn==("__debug__":Str))=false) :
    bF P w K mg base ek (k+1) f fd [n,D,sn] (dq (bO mg) (yN 4 Cc m G0 as cn fld)):=by
  refine F.Pk w0 S (λvs H Q E h=>?_) λA outer s s1 H vs Q E hr h I=>?_
  · obtain⟨α,Z,Ω,ds,S,r,g⟩:=h
    rw[r.length];unfold yN at g;split at g
    · rfl
    · exact g.elim
  · obtain⟨α,Z,Ω,ds,S0,r,g⟩:=h
    have r0:=r;have S1:bY (bO mg) α Z H α Z Ω (aP 4 ds) (L2.start [n,D,sn,en] vs) H:=eL (N:=[n,D,sn,en]) S0 r;unfold yN at g;split at g
    rotate_left
    · exact g.elim
    rename_i df dp dt;split at g
    rotate_left
    · exact g.elim
    rename_i kk C' fs o0;split at g
    rotate_left
    · exact g.elim
    rename_i L0;obtain⟨rfl,M0⟩:=L0;obtain⟨vf,P0,rfl,rf,r1⟩:=r.cons_inv;obtain⟨vp,J1,rfl,rp,r2⟩:=r1.cons_inv;obtain⟨vt,K1,rfl,rt,r3⟩:=r2.cons_inv;obtain rfl:=r3.nil_inv;obtain⟨a,p0,dx,Q0,rfl,rfl,M1,q1,q2,q3⟩:=fB S0 rf o0
    have R0:p0=Ca:=by
      have q1:mg C'=some (.ref p0):=q1;rw[x0]at q1;cases q1;rfl
    subst R0;rw[z0];obtain⟨vn,N1,ns,cs,vv,x1,jx,p1,T0,P1,V0,p2,W0,X0,s2,p3,Y0,Q1,s3,q4,s4,q5,s5,q6,s6,q7,p8,t8,s8,p9,t9,s9,e8,b1,b2,b3,c1,c2,i1,i2,r4,f1,j1,c0,k1,k2,k3⟩:=U.ex
    have G:GoodO (cx ek P w K mg base [n,D,sn,en] qual (ae st) f (.ref c) A outer s H E).hP (bO mg) T k (ae st) [n,D,sn,en]:=
      { scope:=rfl,names:=rfl,calm:=rfl,room:=hr,cM:=W.cM,fld:=W.fld,cst:=W.cst
        gh:=λx F h=>⟨W.gh x F h⟩,fn:=λx F h=>⟨W.fn x F h⟩,met:=λm C F h=>⟨W.met m C F h⟩,cls:=λC F h=>let ⟨j,h1,h2⟩:=W.cls C F h;⟨j,h1,⟨h2⟩⟩,clo:=W.clo }
    obtain⟨pa,L⟩:=bD (λe m q=>iq 60 _ (ae st) [n,D,sn,en] e m G q) A0
    refine wpAny_execs_cons (Ff (X:=(cx ek P w K mg base [n,D,sn,en] qual (ae st) f (.ref c) A outer s H E).hP) (i:=3) (C:=C) (W:=λdd fs q0=>∃H' O Z' v d l B xs,fs=[(fld,v)]/\q0=upd H' dd (.xd fs)/\as (aP 4 [.ref kk,dp,dt]) Ω=.ok xs l/\G0 (.ref kk::xs) l=.exc (jR cn fld d) B/\bU α Z H O Z' H'/\bb (bO mg) O Z' B H'/\ah O Z' H' d v/\H' dd=none)
      I (λ_ _ z=>z) (eY (i:=0) (pos:=l1) rfl (.inl sl) d1 d2) cl M Ft hr y0 (pa ji α Z H (aP 4 [.ref kk,dp,dt]) Ω) ?_ rfl rfl sb I0 J0 S.nd rfl se ?_ (bj (L a1 (by simp))) (bR λz hz=>L z (by simp[hz])) rfl (jZ rfl L C0 a0) d7)
    · refine⟨.ref a,rfl,a,dx,Q0,rfl,q2,(eK q3).2 M0,α,Z,S1,?_⟩
      cases qa:as (aP 4 [.ref kk,dp,dt]) Ω with
      |exc y l=>rw[qa]at g;exact g.elim
      |bad=>rw[qa]at g;exact g.elim
      |ok xs l=>
        rw[qa]at g;dsimp only at g;intro P0 H1 o1 Z1 g1 s1 rr;refine⟨o1,Z1,l,.ref kk::xs,s1,.cons (S0.cV g1 rf) rr,?_⟩;cases qx:G0 (.ref kk::xs) l with
        |ok y B=>rw[qx]at g;exact g.elim
        |bad=>rw[qx]at g;exact g.elim
        |exc y B=>
          rw[qx]at g;dsimp only at g;cases qd:CZ cn fld y with
          |none=>rw[qd]at g;exact g.elim
          |some d=>
            obtain rfl:=BZ qd;intro H2 u1 Z2 g2 s2;refine⟨cn,fld,d,rfl,λCx v dd hk rv e0=>?_⟩
            have hk:mg cn=some (.ref Cx):=hk;rw[D0]at hk;cases hk
            exact⟨rfl,dd,_,rfl,aF,H2,u1,Z2,v,d,l,B,xs,rfl,rfl,rfl,qx,g1.trans g2,s2,rv,e0⟩
    · intro e d fs oe q0 w1 z1 A1 e1 e2 e3 J4
      obtain⟨H',O,Z',v,s0,l,B,xs,rfl,rfl,qa,qx,g1,u0,rv,e0⟩:=A1;rw[qa]at g;dsimp only at g;rw[qx]at g;dsimp only at g;rw[show CZ cn fld (jR cn fld s0)=some s0 by unfold CZ jR;simp]at g
      dsimp only at g;have J5:=J4.BS;have B1:Fd ((((cx ek P w K mg base [n,D,sn,en] qual (ae st) f (.ref c) A outer s H E).hP.oy e)).BS e oe) e C oe d N0 fI:=⟨by simp[Cx.BS],e1,e2,e3,Tx,is⟩
      obtain⟨n1,n2,n3⟩:=j1 ((((cx ek P w K mg base [n,D,sn,en] qual (ae st) f (.ref c) A outer s H E).hP.oy e)).BS e oe) rfl rfl;obtain⟨t,ht,hq⟩:=BY (i:=3) (j:=2) (x1:=x1) (jx:=jx) (p1:=p1) (q1:=T0) (s1:=V0) (p2:=p2) (q2:=W0) (r2:=X0) (s2:=s2) (p3:=p3) (q3:=Y0) (s3:=s3) (q4:=q4) (s4:=s4) (q5:=q5) (s5:=s5) (q6:=q6) (s6:=s6) (q7:=q7) (p8:=p8) (t8:=t8) (s8:=s8) (p9:=p9) (t9:=t9) (s9:=s9) (e8:=e8) (b1:=b1) (b2:=b2) (b3:=b3) (c1:=c1) (c2:=c2) (i1:=i1) (i2:=i2) (r4:=r4) hr.units B1 na rfl (.inl se) rfl (.inl ss) si (W.cM _ (by decide)) K0 (W.cM _ (by decide)) n1 k1 n2 c0 k2 n3 k3 d5 d6 d3 d4
      rw[←f1]at ht;unfold sd at g;split at g
      rotate_left
      · exact g.elim
      rename_i dv dw C1 D1;split at g
      rotate_left
      · exact g.elim
      rename_i b b' kb y1 y2 y3;split at g
      rotate_left
      · exact g.elim
      rename_i E1;subst E1;obtain⟨R,V⟩:=u0.xk (p:=d) (o:=.xd [(fld,v)]) e0 False;simp only[if_false]at R V;have nv:=gQ R 8 C1 (u0.cV V rv);have nt:=gQ R 8 D1 (S0.cV (g1.trans V) rt);have v0:=ht [] w1 _ _ {nx:=λ_ _=>False,rt:=λu Hf=>u=.bl kb/\Hf=upd H' d (.xd [(fld,v)])} J5 (hq _ _ _ v vt [(fld,v)] _ dv dw b kb rfl rfl z1 (by simp[List.lookup]) nv.now nt.now y1 y2 y3 ⟨rfl,rfl⟩)
      refine wpAny_mono v0 (λfl R1 hs=>?_) (λ_ _ z=>z)
      cases fl with
      |ret u=>
        obtain⟨v5,G1,H5,J,I1,rfl,rfl⟩:=hs;refine⟨G1,_,J.Ib,λT1 s6 J6=>?_⟩
        exact⟨[],.bl kb,u,_,_,.inl rfl,by rw[Cx.nL];exact J6,I1,g _ _ _ _ (g1.trans V) R (by simp only[ah])⟩
      |next=>obtain⟨_,_,_,z⟩:=hs;exact z.elim
      |brk=>obtain⟨_,_,_,z⟩:=hs;exact z.elim
      |cont=>obtain⟨_,_,_,z⟩:=hs;exact z.elim
end
end Mir
namespace Mir
open PySem PySem.Spec PyProof.Rows L2
def oB(ps cn:List Str)(a:Scope):Bool:=
 a.kind==.function&&!a.isCoroutine&&!a.isGenerator&&decide (ps++cn).Nodup&&ps.all (λx=>a.names.lookup x==some .local)&&cn.all (λx=>a.names.lookup x==some .free)&&a.names.all (λy=>!(y.2==.free)||cn.contains y.1)&&a.names.all λy=>!(y.2==.cell)
theorem yO{ps cn:List Str}{b:Scope}(h:oB ps cn b=true):kG ps cn b:=by
 simp only[oB,Bool.and_eq_true,Bool.not_eq_true',decide_eq_true_eq,List.all_eq_true,beq_iff_eq,Bool.or_eq_true]at h;obtain⟨⟨⟨⟨⟨⟨⟨c,d⟩,f⟩,g⟩,i⟩,j⟩,k⟩,l⟩:=h;refine⟨c,d,f,g,i,j,λy a e=>?_,λy a e=>?_⟩
 .rcases k y a with q|q
  .rw[e]at q;exact absurd q (by decide)
  .exact List.contains_iff_mem.mp q
 .have:=l y a
  rw[e]at this;exact absurd this (by decide)
variable [aw]
def C_(T:aK)(d:pA):Option SM:=cS (iX T [] 60 d.scope (d.ps++d.cn) 30) d.body
def lj(k:Nat)(c:SM)(dh:List D):b_:=λa b=>if a.length=k then cG (c ((a++dh).map some) b)else .bad
noncomputable def aK.B_(T:aK)(F:List D->b_):aK:={T with clo:=T.clo++[F]}
section
variable{P:Program}{w:World}{K:PySem.W.Frag}{mg:Str->Option Value}{base:Heap}{T:aK}{k:Nat}
theorem Fg(W:aY P w K mg base T k){j:Nat}{d:pA}{c:SM}(hj:aw.tab j=d)(hs:oB d.ps d.cn d.scope=true)(hc:C_ T d=some c)
    (hb:∀(cl:List (Str×Addr)) (e u:Value) (p:Addr) (l:Value) (us:List Value),us.length=d.ps.length->bindArgs (PySem.W.fnX d.name d.qual d.params d.body d.scope cl .none .none e u none (.ref p) l) ⟨us,[]⟩=pure (d.ps.zip us)) :
    jH P w K mg base (bO mg) (k+1) j (lj d.ps.length c):=by
  refine⟨λX f vs σ H Q y Z z dh B n e1 e2 e3 e4 e5 hr S hn ho r g=>?_⟩
  subst e1 e2 e3 e4 e5 hj;obtain⟨a,N,p,cl,cv,C,O,R⟩:=S.cell ho;rw[hn]at N;cases N;have t:=yO hs;unfold lj at g;split at g
  · rename_i hl
    refine xh (CX:=ek) (E:=E0) C t O hr iG (by rw[r.length];exact hl) (λe u l us=>hb cl e u p l us) λouter s D=>?_
    have G:cZ (mx ek X.prog X.w X.K X.mg X.base ((aw.tab j).ps++(aw.tab j).cn) (aw.tab j).qual (aw.tab j).scope f (.ref p) cl X.A outer s H E0).hP (bO X.mg) T k (aw.tab j).scope ((aw.tab j).ps++(aw.tab j).cn):=
      { scope:=rfl,names:=rfl,calm:=rfl,room:=D,cM:=W.cM,own:=PassesOwn.never,jT:=t.nd,kind:=t.kind,hP:=λ_ _ _ h=>h,fld:=W.fld,cst:=W.cst
        EF:=λx h _=>by
          right
          show(aw.tab j).scope.names.lookup x=some .local
          unfold uU at h;split at h
          · assumption
          · rename_i q;exact absurd rfl (t.cell _ (PySem.mem_of_lookup q))
          · cases h
        gh:=λx F h=>⟨W.gh x F h⟩,fn:=λx F h=>⟨W.fn x F h⟩,met:=λm C F h=>⟨W.met m C F h⟩,cls:=λC F h=>let ⟨j,I,J⟩:=W.cls C F h;⟨j,I,⟨J⟩⟩,clo:=W.clo }
    refine⟨Et (bO X.mg) ji y Z H c ((B++dh).map some) z,iv.hP (dU (gU G 30 60) hc y Z H ((B++dh).map some) z),y,Z,⟨S,bU.refl S.has,by simp[r.length,R.length],λi d U=>?_⟩,?_⟩
    · rw[List.getElem?_map]at U
      obtain⟨d',I,J⟩:=Option.map_eq_some_iff.mp U;cases J;obtain⟨v,h3,h4⟩:=(r.append R).get I;exact⟨v,by rw[List.getElem?_map,h3];rfl,h4⟩
    · cases q:c ((B++dh).map some) z with
      |rt d b=>rw[q]at g;exact λv L o M gr st r=>g v L o M gr st r
      |nx V b=>rw[q]at g;exact λσ L o M Y=>g .non L o M Y.gr Y.st (aW rfl)
      |bk V b=>rw[q]at g;exact g.elim
      |ct V b=>rw[q]at g;exact g.elim
      |exc x b=>rw[q]at g;exact g
      |bad=>rw[q]at g;exact g.elim
  · exact g.elim
theorem aY.B_(W:aY P w K mg base T k){F:List D->b_}{j:Nat}(b:T.clo.length=j)(h:jH P w K mg base (bO mg) (k+1) j F):aY P w K mg base (T.B_ F) (k+1):=by
 have a:=W.mono (Nat.le_succ k);refine⟨a.cM,a.gh,a.fn,a.cst,a.met,a.cls,a.fld,λi G q=>?_⟩
 have q:(T.clo++[F])[i]?=some G:=q
 by_cases c:i<T.clo.length
 .rw[List.getElem?_append_left c]at q
  exact a.clo i G q
 .rw[List.getElem?_append_right (by omega)]at q
  have:i=j:=by
   have:=(List.getElem?_eq_some_iff.mp q).1;simp at this;omega
  subst this;rw[b]at q;simp at q;subst q;exact h
end
abbrev FV(x:EM):EM:=m1 (kW ["Facts"] "strengths") x
abbrev Fh(i j:Nat):EM:=mN lK (aa (af i) (aa (af j) aq))
def zw:SM:=ao (eV ["Facts"] "teller" (af 0) (af 1)) (ao (eV ["Facts"] "strengths" (af 0) d_) (ao (eV ["Facts"] "asked" (af 0) (mN dm aq)) au))
def oJ:SM:=ao (cu (cL kX nW (FV (af 0)) (aa (Fh 1 2) aq))) au
def cStr(a:b_)(CL:List (List D->b_)):SM:=
 ao (eJ (m2 (bg .Is) (cO "Facts" "known" a (af 0) (aa (af 1) (aa (af 2) aq))) (ag .non))
  (ao (dS (FV (af 0)) (Fh 1 2) (jv CL ["Facts"] "teller" (af 0) (aa (af 1) (aa (af 2) aq))))
   (ao (gF (cL pM cX (m1 (kW ["Facts"] "asked") (af 0)) (aa (Fh 1 2) aq))) au)) au)
  (ao (cu (cO "Facts" "known" a (af 0) (aa (af 1) (aa (af 2) aq)))) au)
def zx(F:List D->Out Rs)(r:SM):SM:=
 ao (eJ (gf (mN (bZ F) (aa (af 3) aq))) (ao r au) au) (ao (dS (FV (af 0)) (Fh 1 2) (af 3)) au)
def FW:SM:=ao (gF (cL kX vE (FV (af 0)) (aa (Fh 1 2) (aa (ag .non) aq)))) au
def Ij:SM:=ao (cu (mN (dc .list) (aa (m1 (kW ["Facts"] "asked") (af 0)) aq))) au
def vS:SM:=ao (cu (mN kQ (aa (er (af 1) false (m2 (bg .Eq) (af 0) (af 2)) (dZ (FV (af 0))) 2 [1]) aq))) au
def Cb:SM:=
 ao (gF (cL pM cX (af 2) (aa (Fh 0 1) aq))) (ao (cu (m2 aZ (m2 aZ (af 4) (m2 aZ (af 3) (ag (.int 0)))) (Fh 0 1))) au)
abbrev pT(p:Str×Str):D:=cU p.1 p.2
abbrev ll(fn S A:Nat):List (Str×D):=[("teller",.ref fn),("strengths",.ref S),("asked",.ref A)]
structure de(Ω:aI)(fn f S A:Nat)(kvs:List (List Key×D))(rs:List (Str×Str)):Prop where
 hf:Ω[f]?=some (.ins "Facts" (ll fn S A))
 hS:Ω[S]?=some (.dT kvs)
 hA:Ω[A]?=some (.lst (rs.map pT))
variable{Ω aD:aI}{fn f S A:Nat}{kvs:List (List Key×D)}{rs:List (Str×Str)}{a b:Str}
theorem de.keep{fp:List Nat}(h:de Ω fn f S A kvs rs)(K:aL fp Ω aD)(a:f∉fp)(b:S∉fp)(c:A∉fp):de aD fn f S A kvs rs:=⟨K.get _ _ h.hf a,K.get _ _ h.hS b,K.get _ _ h.hA c⟩
theorem fJ{k:Nat}{a:List (List Key×D)}(h:Ω[k]?=some (.dT a)):kX Ω (.ref k)=true:=by simp only[kX,h]
theorem jc{k:Nat}{c:List (List Key×D)}(h:Ω[k]?=some (.dT c)):nW (.ref k) [cU a b] Ω=.ok ((aT c (eQ a b)).getD .non) Ω:=by
 simp only[nW,yn h eW]
theorem yP(h:Ω[f]?=some (.ins "Facts" (ll fn S A))):kW ["Facts"] "strengths" (.ref f) Ω=.ok (.ref S) Ω:=tW h rfl rfl
theorem Ik(h:Ω[f]?=some (.ins "Facts" (ll fn S A))):kW ["Facts"] "asked" (.ref f) Ω=.ok (.ref A) Ω:=tW h rfl rfl
theorem mO(h:de Ω fn f S A kvs rs):bh 3 3 oJ [.ref f,.str a,.str b] Ω=.ok ((aT kvs (eQ a b)).getD .non) Ω:=by
 rw[bo (by rfl)]
 simp[oJ,aP,cL,yP h.hf,fJ h.hS,az,jc h.hS]
theorem yQ:ju "Facts" (bh 2 2 zw) [.ref fn] Ω=.ok (.ref Ω.length) (Ω++[.ins "Facts" (ll fn (Ω.length+1) (Ω.length+2)),.dT [],.lst []]):=by
 have a:(Ω++[Cell.ins "Facts" []])[Ω.length]?=some (.ins "Facts" []):=a_;have b:(Ω++[Cell.ins "Facts" [("teller",.ref fn)],Cell.dT []])[Ω.length]?=some (.ins "Facts" [("teller",.ref fn)]):=a_;have c:(Ω++[Cell.ins "Facts" [("teller",.ref fn),("strengths",.ref (Ω.length+1))],Cell.dT [],Cell.lst []])[Ω.length]?=some (.ins "Facts" [("teller",.ref fn),("strengths",.ref (Ω.length+1))]):=a_;unfold ju;rw[bo (by rfl)]
 have e:cG (zw (aP 2 [.ref Ω.length,.ref fn]) (Ω++[.ins "Facts" []]))=.ok .non (Ω++[.ins "Facts" (ll fn (Ω.length+1) (Ω.length+2)),.dT [],.lst []]):=by
  have d:eV ["Facts"] "teller" (af 0) (af 1) (aP 2 [.ref Ω.length,.ref fn]) (Ω++[.ins "Facts" []])=.nx (aP 2 [.ref Ω.length,.ref fn]) (Ω++[.ins "Facts" [("teller",.ref fn)]]):=by
   simp[eV,aP,fV a,jG]
  have f:eV ["Facts"] "strengths" (af 0) d_ (aP 2 [.ref Ω.length,.ref fn]) (Ω++[.ins "Facts" [("teller",.ref fn)]])=.nx (aP 2 [.ref Ω.length,.ref fn]) (Ω++[.ins "Facts" [("teller",.ref fn),("strengths",.ref (Ω.length+1))],.dT []]):=by
   simp[eV,aP,d_,iM,fV b,jG,show ¬ ("teller":Str)="strengths" by decide]
  have g:eV ["Facts"] "asked" (af 0) (mN dm aq) (aP 2 [.ref Ω.length,.ref fn]) (Ω++[.ins "Facts" [("teller",.ref fn),("strengths",.ref (Ω.length+1))],.dT []])=.nx (aP 2 [.ref Ω.length,.ref fn]) (Ω++[.ins "Facts" (ll fn (Ω.length+1) (Ω.length+2)),.dT [],.lst []]):=by
   simp[eV,aP,az,iM,fV c,jG,show ¬ ("teller":Str)="asked" by decide,show ¬ ("strengths":Str)="asked" by decide]
  unfold zw;rw[ax,d,aQ,ax,f,aQ,ax,g,aQ];rfl
 rw[e]
def yR(Ω:aI)(t:Nat)(a:List (List Key×D)):Prop:=Ω[t]?=some (.dT a)\/Ω[t]?=some (.dG a)
theorem jw{t:Nat}{d:D}(h:yR Ω t kvs)(c:aT kvs (eQ a b)=some d):aZ (.ref t) (cU a b) Ω=.ok d Ω:=by
 rcases h with h|h
 .exact EZ h c
 .have e:nQ Ω (.ref t) (cU a b)=some (some d):=by simp only[nQ,h,eW,Option.map_some,c]
  unfold aZ;rw[dJ,dJ,gY];simp only[xl,e,cf,cN,h];rfl
structure yS(Ω:aI)(fn ak nw tl t0 t1:Nat)(n:Int)(qs:List (Str×Str)):Prop where
 hfn:Ω[fn]?=some (.fn 0 [.ref ak,.ref nw,.ref tl])
 hak:Ω[ak]?=some (.lst (qs.map pT))
 hnw:Ω[nw]?=some (.lst [.int n])
 htl:Ω[tl]?=some (.lst [.ref t0,.ref t1])
 n1:ak≠nw
 n2:ak≠tl
variable{ak nw tl t0 t1 t:Nat}{n v:Int}{qs:List (Str×Str)}{KU:List (List Key×D)}
theorem Il(h:yS Ω fn ak nw tl t0 t1 n qs)(g:L2.gN [D.ref t0,.ref t1] n=some (.ref t))(ht:yR Ω t KU)(j:aT KU (eQ a b)=some (.int v))(k:qs.length<=900) :
  lj 2 Cb [.ref ak,.ref nw,.ref tl] [.str a,.str b] Ω=.ok (.int v) (Ω.set ak (.lst ((qs++[(a,b)]).map pT))):=by
 have f:=dB (d:=cU a b) h.hak (by simpa using Nat.le_trans k (by decide))
 have e:qs.map pT++[cU a b]=(qs++[(a,b)]).map pT:=by simp
 rw[e]at f;have i1:=cg (i:=0) (d:=.int n) (aj (e:=.lst ((qs++[(a,b)]).map pT)) h.hnw (Ne.symm h.n1)) rfl;have l:=cg (aj (e:=.lst ((qs++[(a,b)]).map pT)) h.htl (Ne.symm h.n2)) g;have c:t≠ak:=λe=>by rcases ht with ht|ht<;>rw[e,h.hak]at ht<;>cases ht
 have m:=jw (ht.imp (aj (e:=.lst ((qs++[(a,b)]).map pT)) · c) (aj (e:=.lst ((qs++[(a,b)]).map pT)) · c)) j;generalize Ω.set ak (.lst ((qs++[(a,b)]).map pT))=o at *;unfold lj;simp[Cb,cL,fY h.hak,az,f,i1,l,m]
theorem hO{m:Str}{F:b_}{as:AM}{ρ:aS}{i:Nat}(b:ρ[i]?=some (some (.ref f)))(c:Ω[f]?=some (.ins "Facts" (ll fn S A)))(d:(ll fn S A).lookup m=none):cO "Facts" m F (af i) as ρ Ω=(as ρ Ω).bind λxs a=>FN (F (.ref f::xs) a):=
 BI (by rw[iY,b];rfl) c d
theorem Ce(h:de Ω fn f S A kvs rs){CL:List (List D->b_)}(c:aT kvs (eQ a b)=some (.int v)):bh 3 3 (cStr (bh 3 3 oJ) CL) [.ref f,.str a,.str b] Ω=.ok (.int v) Ω:=by
 have e:=mO (a:=a) (b:=b) h;rw[c]at e;have d:=hO (m:="known") (F:=bh 3 3 oJ) (as:=aa (af 1) (aa (af 2) aq)) (ρ:=[some (.ref f),some (.str a),some (.str b)]) (i:=0) rfl h.hf rfl;rw[bo (by rfl)]
 show cG (cStr (bh 3 3 oJ) CL [some (.ref f),some (.str a),some (.str b)] Ω)=_
 simp[cStr,d,e,bN,isD]
theorem uj(h:de Ω fn f S A kvs rs)(g:yS Ω fn ak nw tl t0 t1 n qs)(C:L2.gN [D.ref t0,.ref t1] n=some (.ref t))(E:yR Ω t KU)(G:aT KU (eQ a b)=some (.int v))(H:qs.length<=900)(I:rs.length<=900)(hk:kvs.length<=900)(r:A≠ak)(J:aT kvs (eQ a b)=none) :
  ∃aD,bh 3 3 (cStr (bh 3 3 oJ) [lj 2 Cb]) [.ref f,.str a,.str b] Ω=.ok (.int v) aD/\de aD fn f S A (bE kvs (eQ a b) (.int v)) (rs++[(a,b)])/\aD[ak]?=some (.lst ((qs++[(a,b)]).map pT))/\aL [ak,S,A] Ω aD:=by
 have e:=mO (a:=a) (b:=b) h;rw[J]at e;have K:=Il (a:=a) (b:=b) g C E G H;have L:f≠ak:=λe=>by have:=h.hf;rw[e,g.hak]at this;cases this
 have s:S≠ak:=λe=>by have:=h.hS;rw[e,g.hak]at this;cases this
 have M:f≠S:=λe=>by have:=h.hf;rw[e,h.hS]at this;cases this
 have u:A≠S:=λe=>by have:=h.hA;rw[e,h.hS]at this;cases this
 have N:f≠A:=λe=>by have:=h.hf;rw[e,h.hA]at this;cases this
 have O:aL [ak,S,A] Ω (Ω.set ak (.lst ((qs++[(a,b)]).map pT))):=aL.set (by simp)
 have w:=aj (e:=.lst ((qs++[(a,b)]).map pT)) h.hf L;have x:=aj (e:=.lst ((qs++[(a,b)]).map pT)) h.hS s;have P:=aj (e:=.lst ((qs++[(a,b)]).map pT)) h.hA r;have Q:=aV (e:=.lst ((qs++[(a,b)]).map pT)) g.hak;generalize Ω.set ak (.lst ((qs++[(a,b)]).map pT))=c at *
 have R:fA (.ref S) (cU a b) (.int v) c=some (c.set S (.dT (bE kvs (eQ a b) (.int v)))):=by
  simp only[fA,x,eW];rw[if_pos (az (by omega))]
 have T:aL [ak,S,A] c (c.set S (.dT (bE kvs (eQ a b) (.int v)))):=aL.set (by simp)
 have y:=aj (e:=.dT (bE kvs (eQ a b) (.int v))) w M;have k:=aj (e:=.dT (bE kvs (eQ a b) (.int v))) P u;have U:=aj (e:=.dT (bE kvs (eQ a b) (.int v))) Q (Ne.symm s);have V:=aV (e:=.dT (bE kvs (eQ a b) (.int v))) x;generalize c.set S (.dT (bE kvs (eQ a b) (.int v)))=j at *;have z:=dB (d:=cU a b) k (by simpa using Nat.le_trans I (by decide))
 have X:rs.map pT++[cU a b]=(rs++[(a,b)]).map pT:=by simp
 rw[X]at z;have Y:aL [ak,S,A] j (j.set A (.lst ((rs++[(a,b)]).map pT))):=aL.set (by simp)
 have l:de (j.set A (.lst ((rs++[(a,b)]).map pT))) fn f S A (bE kvs (eQ a b) (.int v)) (rs++[(a,b)]):=⟨aj y N,aj V (Ne.symm u),aV k⟩;have Z:=aj (e:=.lst ((rs++[(a,b)]).map pT)) U (Ne.symm r);have aA:=fY k;generalize j.set A (.lst ((rs++[(a,b)]).map pT))=o at *;refine⟨o,?_,l,Z,(O.trans T).trans Y⟩;have B:=mO (a:=a) (b:=b) l;rw[c_,if_pos rfl]at B;have p:=hO (m:="known") (F:=bh 3 3 oJ) (as:=aa (af 1) (aa (af 2) aq)) (ρ:=[some (.ref f),some (.str a),some (.str b)]) (i:=0) rfl h.hf rfl;have q:=hO (m:="known") (F:=bh 3 3 oJ) (as:=aa (af 1) (aa (af 2) aq)) (ρ:=[some (.ref f),some (.str a),some (.str b)]) (i:=0) rfl l.hf rfl
 have hc:jv [lj 2 Cb] ["Facts"] "teller" (af 0) (aa (af 1) (aa (af 2) aq)) [some (.ref f),some (.str a),some (.str b)] Ω=.ok (.int v) c:=by
  unfold jv;simp[fV h.hf,isFn,LM,g.hfn,K,show(ll fn S A).lookup "teller"=some (.ref fn)from rfl]
 rw[bo (by rfl)]
 show cG (cStr (bh 3 3 oJ) [lj 2 Cb] [some (.ref f),some (.str a),some (.str b)] Ω)=_
 simp[cStr,p,q,e,B,bN,isD,dS,hc,az,yP w,R,Ik y,cL,aA,z]
theorem Im(h:de Ω fn f S A kvs rs){F:List D->Out Rs}{r:SM}(c:F [.int v]=.ok (false,.bl true))(e:kvs.length<=900):bh 4 4 (zx F r) [.ref f,.str a,.str b,.int v] Ω=.ok .non (Ω.set S (.dT (bE kvs (eQ a b) (.int v)))):=by
 have d:fA (.ref S) (cU a b) (.int v) Ω=some (Ω.set S (.dT (bE kvs (eQ a b) (.int v)))):=by
  simp only[fA,h.hS,eW];rw[if_pos (az (by omega))]
 rw[bo (by rfl)]
 show cG (zx F r [some (.ref f),some (.str a),some (.str b),some (.int v)] Ω)=_
 simp[zx,c,dS,yP h.hf,az,d]
theorem Io(h:de Ω fn f S A kvs rs):bh 3 3 FW [.ref f,.str a,.str b] Ω=.ok .non (Ω.set S (.dT (dn kvs (eQ a b)))):=by
 have c:∃d,vE (.ref S) [cU a b,.non] Ω=.ok d (Ω.set S (.dT (dn kvs (eQ a b)))):=by
  simp only[vE,h.hS,eW];cases q:aT kvs (eQ a b)with
  |some d=>exact⟨d,rfl⟩
  |none=>
   refine⟨.non,?_⟩
   have:dn kvs (eQ a b)=kvs:=by
    unfold dn;refine List.filter_eq_self.mpr λx g=>?_
    unfold aT at q;have:=List.find?_eq_none.mp (Option.map_eq_none_iff.mp q) x g;simpa using this
   rw[this]
   have:Ω.set S (.dT kvs)=Ω:=by
    refine List.ext_getElem? λi=>?_
    by_cases e:S=i
    .subst e;rw[aV h.hS,h.hS]
    .rw[List.getElem?_set_ne e]
   rw[this]
 obtain⟨d,c⟩:=c;rw[bo (by rfl)]
 show cG (FW [some (.ref f),some (.str a),some (.str b)] Ω)=_
 simp[FW,cL,yP h.hf,az,fJ h.hS,c]
theorem uk(h:de Ω fn f S A kvs rs)(a:rs.length<=900):bh 1 1 Ij [.ref f] Ω=.ok (.ref Ω.length) (Ω++[.lst (rs.map pT)]):=by
 have:=yo h.hA (by simpa using Nat.le_trans a (by decide))
 rw[bo (by rfl)]
 show cG (Ij [some (.ref f)] Ω)=_
 simp only[Ij,ax,oo,qk,dX,Hy,iY];simp[Ik h.hf,-tR,this]
end Mir
namespace Mir
open PySem PySem.Spec PyProof.Rows L2
variable [aw]
abbrev PD:=List ((Str×Str)×D)
noncomputable def enc(l:PD):List (List Key×D):=l.map λp=>(eQ p.1.1 p.1.2,p.2)
theorem jd{a b x y:Str}:eQ a b=eQ x y↔(a,b)=(x,y):=by simp[eQ]
theorem cj{a b:Str}:∀{l:PD},aT (enc l) (eQ a b)=aT l (a,b)
 |[]=>rfl
 |p::l=>by
  have c:=cj (a:=a) (b:=b) (l:=l)
  show aT ((eQ p.1.1 p.1.2,p.2)::enc l) _=_
  rw[bP,bP,c]
  by_cases h:p.1=(a,b)
  .rw[if_pos h,if_pos (jd.mpr h)]
  .rw[if_neg h,if_neg λz=>h (jd.mp z)]
theorem je{a b:Str}{d:D}{l:PD}:bE (enc l) (eQ a b) d=enc (bE l (a,b) d):=by
 unfold bE enc
 have:((l.map λp=>(eQ p.1.1 p.1.2,p.2)).any λc=>decide (c.1=eQ a b))=l.any λc=>decide (c.1=(a,b)):=by
  rw[List.any_map]
  congr 1
  funext p
  exact decide_eq_decide.mpr jd
 rw[this];split
 .rw[List.map_map,List.map_map]
  refine List.map_congr_left λp _=>?_
  by_cases h:p.1=(a,b)
  .simp[Function.comp,h,eQ]
  .have e:¬ eQ p.1.1 p.1.2=eQ a b:=λz=>h (jd.mp z)
   simp only[Function.comp,if_neg h,if_neg e]
 .simp
theorem yT{a b:Str}{l:PD}:dn (enc l) (eQ a b)=enc (dn l (a,b)):=by
 unfold dn enc;rw[List.filter_map]
 congr 1
 refine List.filter_congr λp _=>?_
 exact decide_eq_decide.mpr (not_congr jd)
theorem qD{l:PD}:(enc l).map (λa=>pI a.1)=l.map λp=>cU p.1.1 p.1.2:=by
 unfold enc;rw[List.map_map];rfl
theorem jf{l:PD}:(enc l).length=l.length:=by unfold enc;simp
variable{Ω aD:aI}{fn f S A:Nat}{kvs:List (List Key×D)}{rs:List (Str×Str)}{a b:Str}{ρ:aS}
theorem qE{c:Cell}:jQ c (some c)=c:=by cases c<;>rfl
theorem qF{c:Cell}:jQ c none=c:=by cases c<;>rfl
theorem yU{l:aI}:jb Ω (Ω++l)=Ω++l:=by
 refine List.ext_getElem? λi=>?_
 unfold jb;rw[List.getElem?_mapIdx];cases h:(Ω++l)[i]? with
 |none=>rfl
 |some c=>
  show some (jQ c Ω[i]?)=some c
  by_cases a:i<Ω.length
  .rw[List.getElem?_append_left a]at h
   rw[h,qE]
  .rw[List.getElem?_eq_none (by omega),qF]
theorem qG{l:aI}{k:Nat}(d:Ω[k]?=some (.dT kvs)):jb Ω (Ω.set k (.dG kvs)++l)=Ω++l:=by
 refine List.ext_getElem? λi=>?_
 unfold jb;rw[List.getElem?_mapIdx]
 by_cases b:i<Ω.length
 .rw[List.getElem?_append_left (by simpa using b),List.getElem?_append_left b]
  by_cases a:k=i
  .subst a
   rw[aV d,d];rfl
  .rw[List.getElem?_set_ne a]
   cases h:Ω[i]? with
   |none=>rfl
   |some c=>show some (jQ c (some c))=some c;rw[qE]
 .rw[List.getElem?_append_right (by simpa using b),List.getElem?_append_right (by omega),List.length_set,List.getElem?_eq_none (l:=Ω) (by omega)]
  cases h:l[i - Ω.length]? with
  |none=>rfl
  |some c=>show some (jQ c none)=some c;rw[qF]
theorem yV{mc me:EM}{c:aS}{src:Src}{l:List (Str×Str)}{p:Str×Str->Bool}{g:Str×Str->D}(m:hG src Ω=some (l.map pT))(o:∀d∈l,eF (mc ([some (.str d.1),some (.str d.2)]++c) Ω)=.ok (p d) Ω)(q:∀d∈l,p d=true->me ([some (.str d.1),some (.str d.2)]++c) Ω=.ok (g d) Ω) :
  ∀(f i:Nat) (a:List D),l.length - i<f->i<=l.length->a.length+l.length<=100000+i->zv false mc me 2 c src f i a Ω=.ok (a++((l.drop i).filter p).map g) Ω:=by
 intro f
 induction f with
 |zero=>intro i a r;omega
 |succ f j=>
  intro i a r u w;simp only[zv,m]
  by_cases b:i<l.length
  .have e:(l.map pT)[i]?=some (pT l[i]):=by rw[List.getElem?_map,List.getElem?_eq_getElem b];rfl
   have k:l[i]∈l:=List.getElem_mem b;rw[e];have s:pS 2 (pT l[i])=some [some (.str l[i].1),some (.str l[i].2)]:=rfl;simp only[s];have h:pU false mc ([some (.str l[i].1),some (.str l[i].2)]++c) Ω=.ok (p l[i]) Ω:=o _ k;rw[if_pos (az (n:=a.length+1) (by omega)),h,List.drop_eq_getElem_cons b,List.filter_cons]
   cases t:p l[i]with
   |true=>
    dsimp only;rw[q _ k t];dsimp only;rw[j (i+1) _ (by omega) b (by rw[List.length_append];simp;omega)]
    simp
   |false=>
    dsimp only;rw[j (i+1) _ (by omega) b (by omega)]
    simp
  .have e:(l.map pT)[i]?=none:=List.getElem?_eq_none (by simp;omega)
   rw[e,List.drop_of_length_le (by omega)]
   simp
theorem vT{me mc:EM}{mi:IM}{cap:List Nat}{src:Src}{l:List (Str×Str)}{p:Str×Str->Bool}{g:Str×Str->D}(a:mi ρ Ω=.ok src aD)(b:hG src aD=some (l.map pT))(c:∀d∈l,eF (mc ([some (.str d.1),some (.str d.2)]++gg cap ρ) aD)=.ok (p d) aD)(e:∀d∈l,p d=true->me ([some (.str d.1),some (.str d.2)]++gg cap ρ) aD=.ok (g d) aD)(f:l.length<=90000) :
  er me false mc mi 2 cap ρ Ω=.ok (.ref aD.length) (aD++[.lst ((l.filter p).map g)]):=by
 unfold er;rw[a];dsimp only;rw[yV b c e fuel 0 [] (by unfold fuel;omega) (Nat.zero_le _) (by simp;omega)]
 rfl
theorem yW{xs:List Str}(h:xs.length<64):iI (xs.map .str)=.ok ((xs.mergeSort ba).map .str):=by
 unfold iI;rw[if_neg (by simp;omega)]
 cases xs with
 |nil=>simp[mn]
 |cons x xs=>
  have b:mn ((x::xs).map .str)=none:=rfl
  have c:∀a:List Str,hV (a.map .str)=some a:=λa=>by
   induction a with
   |nil=>rfl
   |cons y a d=>simp only[List.map_cons,hV,d];rfl
  rw[b,c]
theorem Ip{k:Nat}{xs:List Str}(a:Ω[k]?=some (.lst (xs.map .str)))(h:xs.length<64):kQ [.ref k] Ω=.ok (.ref Ω.length) (Ω++[.lst ((xs.mergeSort ba).map .str)]):=by
 simp only[kQ,bf a,yW h];rfl
noncomputable def dD(l:PD)(x:Str):List Str:=((l.map (·.1)).filter λp=>p.1==x).map (·.2)
theorem sg{k:Nat}(a:Ω[k]?=some (.dT kvs)):srcOf Ω (.ref k)=.ok (.keys k) (Ω.set k (.dG kvs)):=by simp only[srcOf,fw,cN,a]
theorem Cf{k:Nat}(a:Ω[k]?=some (.dG kvs)):srcOf Ω (.ref k)=.ok (.keys k) Ω:=by simp only[srcOf,fw,cN,a]
theorem Fi{k:Nat}{l:PD}(a:Ω[k]?=some (.dG (enc l))):hG (.keys k) Ω=some ((l.map (·.1)).map pT):=by
 simp only[hG,a,qD,List.map_map];rfl
theorem Iq{l:PD}{x:Str}(h:de Ω fn f S A (enc l) rs)(b:l.length<64) :
  dr (bh 2 2 vS) [.ref f,.str x] Ω=.ok (.ref (Ω.length+1)) (Ω++[.lst ((dD l x).map .str),.lst (((dD l x).mergeSort ba).map .str)]):=by
 have c:=aV (e:=.dG (enc l)) h.hS
 have i:dZ (FV (af 0)) [some (.ref f),some (.str x)] Ω=.ok (.keys S) (Ω.set S (.dG (enc l))):=by
  simp[dZ,yP h.hf,sg h.hS]
 have a:=vT (me:=af 1) (mc:=m2 (bg .Eq) (af 0) (af 2)) (cap:=[1]) (p:=λp=>p.1==x) (g:=λp=>.str p.2) i (Fi c) (λd _=>by simp[gg,bN,aH,du]) (λd _ _=>by simp) (by simp;omega)
 have j:((l.map (·.1)).filter λp=>p.1==x).map (λp=>D.str p.2)=(dD l x).map .str:=by unfold dD;rw[List.map_map];rfl
 rw[j]at a;have m:=Ip (Ω:=Ω.set S (.dG (enc l))++[.lst ((dD l x).map .str)]) (k:=(Ω.set S (.dG (enc l))).length) a_ (by unfold dD;rw[List.length_map];exact Nat.lt_of_le_of_lt (List.length_filter_le _ _) (by simpa using b))
 have n:bh 2 2 vS [.ref f,.str x] Ω=.ok (.ref (Ω.length+1)) (Ω.set S (.dG (enc l))++[.lst ((dD l x).map .str),.lst (((dD l x).mergeSort ba).map .str)]):=by
  rw[bo (by rfl)]
  show cG (vS [some (.ref f),some (.str x)] Ω)=_
  unfold vS;rw[ax,oo,qk,dX,a];simp only[hZ,fT];rw[m];simp
 unfold dr;rw[n];dsimp only;rw[qG h.hS]
theorem yX{xs c:List Str}(h:xs.Perm c):xs.mergeSort ba=c.mergeSort ba:=
 List.Perm.eq_of_pairwise (le:=λa b=>ba a b=true) (λa b _ _ d e=>kI d e) (List.pairwise_mergeSort eT gx xs) (List.pairwise_mergeSort eT gx c) (((List.mergeSort_perm xs ba).trans h).trans (List.mergeSort_perm c ba).symm)
noncomputable def KW:Option D->Option D
 |some .non=>none
 |x=>x
structure Rel(lk ls:PD):Prop where
 nk:(lk.map (·.1)).Nodup
 ns:(ls.map (·.1)).Nodup
 eq:∀k,aT ls k=KW (aT lk k)
 vk:∀k d,aT lk k=some d->d=.non\/∃i:Int,0<=i/\i<=2/\d=.int i
theorem Rel.nil:Rel [] []:=⟨List.nodup_nil,List.nodup_nil,λ_=>rfl,λk d h=>by cases h⟩
section
variable{κ β:Type}[DecidableEq κ]
theorem lp{l:List (κ×β)}{k:κ}{v:β}:(bE l k v).map (·.1)=if k∈l.map (·.1)then l.map (·.1)else l.map (·.1)++[k]:=by
 unfold bE
 have:(l.any λa=>decide (a.1=k))=true↔k∈l.map (·.1):=by
  rw[List.any_eq_true,List.mem_map];exact⟨λ⟨x,h1,h2⟩=>⟨x,h1,by simpa using h2⟩,λ⟨x,h1,h2⟩=>⟨x,h1,by simpa using h2⟩⟩
 by_cases h:k∈l.map (·.1)
 .rw[if_pos h,if_pos (this.mpr h),List.map_map]
  refine List.map_congr_left λp _=>?_
  simp only[Function.comp];split<;>rfl
 .rw[if_neg h,if_neg λz=>h (this.mp z)];simp
theorem sh{l:List (κ×β)}{k:κ}{v:β}(h:(l.map (·.1)).Nodup):((bE l k v).map (·.1)).Nodup:=by
 rw[lp];split
 .exact h
 .rename_i c
  exact List.nodup_append.mpr ⟨h,by simp,λa d b f=>by rw[List.mem_singleton.mp f];exact λe=>c (e▸d)⟩
theorem Cg{l:List (κ×β)}{k:κ}(h:(l.map (·.1)).Nodup):((dn l k).map (·.1)).Nodup:=List.Nodup.sublist (List.filter_sublist.map _) h
theorem mP{k k':κ}:∀{l:List (κ×c)},aT (dn l k) k'=if k'=k then none else aT l k'
 |[]=>by simp[dn,aT]
 |p::l=>by
  have b:=mP (k:=k) (k':=k') (l:=l);unfold dn at b ⊢;rw[List.filter_cons]
  by_cases h:p.1=k
  .rw[if_neg (by simp[h]),b,bP]
   by_cases a:k'=k
   .rw[if_pos a,if_pos a]
   .rw[if_neg a,if_neg a,if_neg (by rw[h];exact λe=>a e.symm)]
  .rw[if_pos (by simpa using h),bP,bP,b]
   by_cases a:k'=k
   .rw[if_pos a,if_pos a,if_neg (by rw[a];exact h)]
   .rw[if_neg a,if_neg a]
theorem cQ{k:κ}:∀{l:List (κ×β)},(aT l k).isSome=true↔k∈l.map (·.1)
 |[]=>by simp[aT]
 |p::l=>by
  rw[bP,List.map_cons,List.mem_cons]
  by_cases h:p.1=k
  .rw[if_pos h];simp[h]
  .rw[if_neg h,cQ];exact⟨.inr,λz=>z.resolve_left λe=>h e.symm⟩
end
theorem Rel.put{b c:PD}(h:Rel b c){k:Str×Str}{i:Int}(i0:0<=i)(i1:i<=2):Rel (bE b k (.int i)) (bE c k (.int i)) where
 nk:=sh h.nk
 ns:=sh h.ns
 eq:=λa=>by
  rw[c_,c_];split
  .rfl
  .exact h.eq a
 vk:=λa d q=>by
  rw[c_]at q;split at q
  .cases q;exact .inr ⟨i,i0,i1,rfl⟩
  .exact h.vk a d q
theorem Rel.forget{b c:PD}(h:Rel b c){k:Str×Str}:Rel (bE b k .non) (dn c k) where
 nk:=sh h.nk
 ns:=Cg h.ns
 eq:=λa=>by
  rw[c_,mP];split
  .rfl
  .exact h.eq a
 vk:=λa d q=>by
  rw[c_]at q;split at q
  .cases q;exact .inl rfl
  .exact h.vk a d q
noncomputable def Dc:Option D->Bool
 |none=>false
 |some .non=>false
 |some _=>true
def cT(l:PD)(x:Str):List Str:=((l.map (·.1)).filter λp=>p.1==x&&Dc (aT l p)).map (·.2)
theorem lq{x:Str}{ps:List (Str×Str)}(h:ps.Nodup)(b:∀p∈ps,p.1=x):(ps.map (·.2)).Nodup:=by
 rw[List.Nodup,List.pairwise_map];refine List.Pairwise.imp_of_mem (λ{p q} c d a e=>a (Prod.ext ((b p c).trans (b q d).symm) e)) h
theorem Rel.perm{a c:PD}(h:Rel a c)(x:Str):(cT a x).Perm (dD c x):=by
 refine(List.perm_ext_iff_of_nodup (lq (x:=x) (h.nk.sublist List.filter_sublist) λp b=>?_) (lq (x:=x) (h.ns.sublist List.filter_sublist) λp b=>?_)).mpr λw=>?_
 .have:=(List.mem_filter.mp b).2
  simp only[Bool.and_eq_true,beq_iff_eq]at this;exact this.1
 .have:=(List.mem_filter.mp b).2
  simpa using this
 .have g:w∈cT a x↔Dc (aT a (x,w))=true:=by
   unfold cT;rw[List.mem_map];constructor
   .rintro⟨p,b,rfl⟩
    have:=(List.mem_filter.mp b).2;simp only[Bool.and_eq_true,beq_iff_eq]at this;rw[←this.1];exact this.2
   .intro q
    refine⟨(x,w),List.mem_filter.mpr ⟨cQ.mp ?_,by simp[q]⟩,rfl⟩
    cases e:aT a (x,w)with
    |none=>rw[e]at q;cases q
    |some d=>rfl
  have j:w∈dD c x↔(aT c (x,w)).isSome=true:=by
   unfold dD;rw[List.mem_map];constructor
   .rintro⟨p,b,rfl⟩
    obtain⟨k,f⟩:=List.mem_filter.mp b;have f:p.1=x:=by simpa using f
    rw[←f];exact cQ.mpr k
   .intro q
    exact⟨(x,w),List.mem_filter.mpr ⟨cQ.mp q,by simp⟩,rfl⟩
  show w∈cT a x↔w∈dD c x
  rw[g,j,h.eq];cases e:aT a (x,w)with
  |none=>simp[Dc,KW]
  |some d=>rcases h.vk _ _ e with rfl|⟨i,_,_,rfl⟩<;>simp[Dc,KW]
end Mir
namespace Mir
open PySem PySem.Spec PyProof.Rows L2
variable [aw]
variable{Ω aD:aI}{fn f S A k kn kx q:Nat}{kvs:List (List Key×D)}{rs:List (Str×Str)}{a b:Str}{ρ:aS}{lk ls:PD}{d:D}
theorem um{x y:D}(b:dE Ω 8 x=some d)(c:dE Ω 8 y=some d)(a:aH 8 d=true):bg .NotEq x y Ω=.ok (.bl false) Ω:=by
 rw[om,tT,b,c,oh];simp[bN,a,ku 8 d a]
theorem oC{x y:D}(b:dE Ω 8 x=some d)(c:dE Ω 8 y=some d)(a:aH 8 d=true):bg .Eq x y Ω=.ok (.bl true) Ω:=by
 rw[oj,tT,b,c,oh];simp[bN,a,ku 8 d a]
theorem da(h:Ω[k]?=some (.lst (rs.map pT))):dE Ω 8 (.ref k)=some (.lst (rs.map pT)):=fU h (la (λp=>by simp[BB (ds:=[D.str p.1,.str p.2]) (es:=[D.str p.1,.str p.2]) (n:=6) (by simp)]) rs)
theorem jg(a:List (Str×Str)):aH 8 (.lst (a.map pT))=true:=by
 show(a.map pT).all (aH 7)=true
 rw[List.all_eq_true];intro z b;obtain⟨y,_,rfl⟩:=List.mem_map.mp b;rfl
def KY:EM:=mN kQ (aa (er (m2 aZ (af 0) (ag (.int 1))) false (fQ (m2 (bg .Eq) (m2 aZ (af 0) (ag (.int 0))) (af 1)) (m2 (bg .IsNot) (m2 aZ (af 2) (af 0)) (ag .non))) (dZ (af 2)) 0 [3,2]) aq)
def ME(a:b_):SM:=(ao (aU 4 KY)
 (ao (aU 5 (cO "Facts" "words_known" a (af 0) (aa (af 3) aq)))
 (ao (eJ (vd (gf (m1 (eo .list) (af 5))) (m2 (bg .NotEq) (af 5) (af 4)))
 (ao (cu (ag (.bl false)))
 au)
 au)
 (ao (gF (cL pM cX (af 5) (aa (ag (.str "x")) aq)))
 au))))
def FX(a:b_):SM:=ao (hI (dR 3) (dZ (af 1)) (ME a)) (ao (cu (ag (.bl true))) au)
abbrev EW(f kx a:Nat)(b a4 a5:Option D):aS:=[some (.ref f),some (.ref kx),some (.ref a),b,a4,a5]
noncomputable def Ci:D->Str×Str
 |.tup [.str a,.str b]=>(a,b)
 |_=>(a0,a0)
where a0:Str:=Str.empty
theorem Ir{x:Str}{a4 a5:Option D}(e:Ω[kn]?=some (.dG (enc lk)))(m:srcOf aD (.ref kn)=.ok (.keys kn) Ω)(R:Rel lk ls)(n:lk.length<64) :
  KY (EW f kx kn (some (.str x)) a4 a5) aD=.ok (.ref (Ω.length+1)) (Ω++[.lst ((cT lk x).map .str),.lst (((cT lk x).mergeSort ba).map .str)]):=by
 have o:dZ (af 2) (EW f kx kn (some (.str x)) a4 a5) aD=.ok (.keys kn) Ω:=by simp[dZ,m]
 have h:=fH (me:=m2 aZ (af 0) (ag (.int 1))) (nc:=false) (mc:=fQ (m2 (bg .Eq) (m2 aZ (af 0) (ag (.int 0))) (af 1)) (m2 (bg .IsNot) (m2 aZ (af 2) (af 0)) (ag .non))) (cap:=[3,2]) (p:=λd=>(Ci d).1==x&&Dc (aT lk (Ci d))) (g:=λd=>.str (Ci d).2) o (Fi e) (λd a=>?_) (λd a _=>?_) (by simp;omega)
 .have q:((((lk.map (·.1)).map pT).filter λd=>(Ci d).1==x&&Dc (aT lk (Ci d))).map λd=>D.str (Ci d).2)=(cT lk x).map .str:=by
   unfold cT;rw[List.filter_map,List.map_map,List.map_map];rfl
  rw[q]at h;have r:=Ip (Ω:=Ω++[.lst ((cT lk x).map .str)]) (k:=Ω.length) a_ (by unfold cT;rw[List.length_map];exact Nat.lt_of_le_of_lt (List.length_filter_le _ _) (by simpa using n))
  unfold KY;rw[qk,dX,h];simp only[hZ,fT];rw[r];simp
 .obtain⟨p,j,rfl⟩:=List.mem_map.mp a
  obtain⟨v,b⟩:∃v,aT lk p=some v:=Option.isSome_iff_exists.mp (cQ.mpr j);have i0:aZ (pT p) (.int 0) Ω=.ok (.str p.1) Ω:=fF rfl;have s:aZ (.ref kn) (pT p) Ω=.ok v Ω:=jw (.inr e) (by rw[cj];exact b)
  have a:Ci (pT p)=p:=rfl
  show eF _=.ok ((Ci (pT p)).1==x&&Dc (aT lk (Ci (pT p)))) _
  rw[a,b]
  by_cases l:p.1=x
  .rcases R.vk _ _ b with rfl|⟨i,_,_,rfl⟩<;>simp[gg,i0,s,bN,aH,du,l,isD,Dc]
  .have c:(p.1==x)=false:=by simpa using l
   simp[gg,i0,bN,aH,du,c]
 .obtain⟨p,j,rfl⟩:=List.mem_map.mp a
  have i1:aZ (pT p) (.int 1) Ω=.ok (.str p.2) Ω:=fF rfl;simp[i1];rfl
theorem oD{ds:List D}(h:Ω[k]?=some (.lst ds)):eo .list (.ref k) Ω=.ok (.bl true) Ω:=by simp[eo,Ep,h]
theorem De(h:de Ω fn f S A kvs rs){a:List (List Key×D)}(c:Ω[kn]?=some (.dT a))(b:kn≠S):de (Ω.set kn (.dG a)) fn f S A kvs rs:=
 ⟨aj h.hf (λe=>by have:=h.hf;rw[e,c]at this;cases this),aj h.hS (λe=>b e.symm),aj h.hA (λe=>by have:=h.hA;rw[e,c]at this;cases this)⟩
theorem jy(h:de Ω fn f S A kvs rs){l:aI}:de (Ω++l) fn f S A kvs rs:=⟨aE h.hf,aE h.hS,aE h.hA⟩
theorem yY{x:Str}{a4 a5:Option D}(h:de Ω fn f S A (enc ls) rs)(r:Ω[kn]?=some (.dG (enc lk)))(s:srcOf aD (.ref kn)=.ok (.keys kn) Ω)(R:Rel lk ls)(t:lk.length<64)(k:ls.length<64) :
  ∃o p l,ME (dr (bh 2 2 vS)) (EW f kx kn (some (.str x)) a4 a5) aD=.nx (EW f kx kn (some (.str x)) o p) (Ω++l):=by
 have u:=Ir (x:=x) (f:=f) (kx:=kx) (a4:=a4) (a5:=a5) r s R t;have w:=Iq (x:=x) (jy h (l:=[.lst ((cT lk x).map .str),.lst (((cT lk x).mergeSort ba).map .str)])) k;have y:((cT lk x).mergeSort ba)=((dD ls x).mergeSort ba):=yX (R.perm x)
 have z:(Ω++[.lst ((cT lk x).map .str),.lst (((cT lk x).mergeSort ba).map .str)])[Ω.length+1]?=some (.lst (((cT lk x).mergeSort ba).map .str)):=by
  rw[List.getElem?_append_right (by omega)];simp
 generalize b:Ω++[.lst ((cT lk x).map .str),.lst (((cT lk x).mergeSort ba).map .str)]=a at *;have B:de a fn f S A (enc ls) rs:=by rw[←b];exact jy h
 have j:(a++[.lst ((dD ls x).map .str),.lst (((dD ls x).mergeSort ba).map .str)])[a.length+1]?=some (.lst (((dD ls x).mergeSort ba).map .str)):=by
  rw[List.getElem?_append_right (by omega)];simp
 have q:=aE (l:=[.lst ((dD ls x).map .str),.lst (((dD ls x).mergeSort ba).map .str)]) z;rw[y]at q;generalize c:a++[.lst ((dD ls x).map .str),.lst (((dD ls x).mergeSort ba).map .str)]=e at *;have C:=um (ql (n:=7) j) (ql (n:=7) q) (Hx _ _)
 have g:(((dD ls x).mergeSort ba).map D.str).length<=1000:=by
  rw[List.length_map,List.length_mergeSort];unfold dD;rw[List.length_map]
  exact Nat.le_trans (List.length_filter_le _ _) (by simp;omega)
 have E:=dB (d:=.str "x") j g;have G:=hO (m:="words_known") (F:=dr (bh 2 2 vS)) (as:=aa (af 3) aq) (ρ:=EW f kx kn (some (.str x)) (some (.ref (Ω.length+1))) a5) (i:=0) rfl B.hf rfl;refine⟨some (.ref (Ω.length+1)),some (.ref (a.length+1)),[.lst ((cT lk x).map .str),.lst (((cT lk x).mergeSort ba).map .str),.lst ((dD ls x).map .str),.lst (((dD ls x).mergeSort ba).map .str++[.str "x"])],?_⟩
 have H:e.set (a.length+1) (.lst (((dD ls x).mergeSort ba).map .str++[.str "x"]))=Ω++[.lst ((cT lk x).map .str),.lst (((cT lk x).mergeSort ba).map .str),.lst ((dD ls x).map .str),.lst (((dD ls x).mergeSort ba).map .str++[.str "x"])]:=by
  rw[←c,←b,List.append_assoc,List.set_append_right _ _ (by simp;omega)]
  simp[show List.length Ω+2+1 - List.length Ω=3 by omega]
 rw[←H];have I:aU 4 KY (EW f kx kn (some (.str x)) a4 a5) aD=.nx (EW f kx kn (some (.str x)) (some (.ref (Ω.length+1))) a5) a:=by rw[ka,u];rfl
 have J:aU 5 (cO "Facts" "words_known" (dr (bh 2 2 vS)) (af 0) (aa (af 3) aq)) (EW f kx kn (some (.str x)) (some (.ref (Ω.length+1))) a5) a=.nx (EW f kx kn (some (.str x)) (some (.ref (Ω.length+1))) (some (.ref (a.length+1)))) e:=by
  rw[ka,G];simp[w]
 unfold ME;rw[ax,I,aQ,ax,J,aQ];simp[oD j,C,-om,cL,fY j,E]
theorem yZ{F:b_}{xs:List D}(h:F xs Ω=.ok d aD):dr F xs Ω=.ok d (jb Ω aD):=by unfold dr;rw[h]
theorem Iu{xs:List Str}(h:de Ω fn f S A (enc ls) rs)(k:Ω[kx]?=some (.lst (xs.map .str)))(j:Ω[kn]?=some (.dT (enc lk)))(m:kn≠S)(R:Rel lk ls)(y:lk.length<64)(n:ls.length<64)(z:xs.length<=100) :
  ∃l,dr (bh 6 3 (FX (dr (bh 2 2 vS)))) [.ref f,.ref kx,.ref kn] Ω=.ok (.bl true) (Ω++l):=by
 have B:kx≠kn:=λe=>by rw[e,j]at k;cases k
 have p:∃a l,bh 6 3 (FX (dr (bh 2 2 vS))) [.ref f,.ref kx,.ref kn] Ω=.ok (.bl true) a/\(a=Ω++l\/a=Ω.set kn (.dG (enc lk))++l):=by
  rw[bo (by rfl)]
  show ∃a l,cG (FX (dr (bh 2 2 vS)) (EW f kx kn none none none) Ω)=.ok (.bl true) a/\_
  have q:dZ (af 1) (EW f kx kn none none none) Ω=.ok (.seq (.ref kx)) Ω:=by simp[fG (x:=.ref kx) (by rw[cf,bf k])]
  unfold FX;rw[ax,fW,q,jJ]
  refine dY (R:=λr=>∃a l,cG (sq r (ao (cu (ag (.bl true))) au))=.ok (.bl true) a/\(a=Ω++l\/a=Ω.set kn (.dG (enc lk))++l)) (ds:=xs.map .str)
   (λi o b=>∃s a4 a5 l,o=EW f kx kn s a4 a5/\(b=Ω++l\/b=Ω.set kn (.dG (enc lk))++l)) ?_ ?_ ?_ fuel 0 _ _ (by unfold fuel;simp;omega) (Nat.zero_le _) ⟨none,none,none,[],rfl,.inl (by simp)⟩
  .rintro i o b ⟨_,_,_,l,_,rfl|rfl⟩
   .rw[gZ,cf,bf (aE k)]
   .rw[gZ,cf,bf (aE (aj k B))]
  .rintro i d o b C ⟨s,a4,a5,l,rfl,g⟩
   obtain⟨x,D,rfl⟩:=rV C;refine⟨EW f kx kn (some (.str x)) a4 a5,rfl,?_⟩;rcases g with rfl|rfl
   .have c:(Ω++l)[kn]?=some (.dT (enc lk)):=aE j
    obtain⟨t,u,w,e⟩:=yY (x:=x) (kx:=kx) (a4:=a4) (a5:=a5) (De (jy h (l:=l)) c m) (aV c) (sg c) R y n;rw[e];refine⟨_,t,u,l++w,rfl,.inr ?_⟩;rw[List.set_append_left _ _ (fX j),List.append_assoc]
   .have c:(Ω.set kn (.dG (enc lk))++l)[kn]?=some (.dG (enc lk)):=aE (aV j)
    obtain⟨t,u,w,e⟩:=yY (x:=x) (kx:=kx) (a4:=a4) (a5:=a5) (jy (De h j m) (l:=l)) c (Cf c) R y n;rw[e];exact⟨_,t,u,l++w,rfl,.inr (by rw[List.append_assoc])⟩
  .rintro o b ⟨s,a4,a5,l,rfl,g⟩
   exact⟨b,l,rfl,g⟩
 obtain⟨a,l,e,g⟩:=p;refine⟨l,?_⟩;rw[yZ e];rcases g with rfl|rfl
 .rw[yU]
 .rw[qG j]
theorem Fj{a:Type}{xs:List a}(h:Ω[k]?=some (.lst (xs.map λ_=>.bl true))):dc .all [.ref k] Ω=.ok (.bl true) Ω:=by
 show lN .all [.ref k] Ω=_
 unfold lN;rw[j_];have b:=fU (n:=7) h (la (λ_=>EK) xs)
 have:bH (dE Ω 8) [.ref k]=some [.lst (xs.map λ_=>D.bl true)]:=by rw[og,b];rfl
 rw[this,BD,ym,tM (p:=λ_=>true)]
 have:(xs.map λ_=>true).all id=true:=by simp
 show fv Ω (.ok (false,.bl ((xs.map λ_=>true).all id)))=_
 rw[this,EO]
def vU:SM:=(ao (eJ (vd (gf (m1 (eo .list) (af 0))) (gf (mN (dc .all) (aa (er (m1 (eo .tuple) (af 0)) true (ag .non) (dZ (af 0)) 0 []) aq))))
 (ao (cu (ag (.bl false)))
 au)
 au)
 (ao (cu (m2 (bg .Eq) (af 0) (af 1)))
 au))
theorem y_{p:Nat}(a:Ω[q]?=some (.lst (rs.map pT)))(e:Ω[p]?=some (.lst (rs.map pT)))(f:rs.length<=900):∃c,bh 2 2 vU [.ref q,.ref p] Ω=.ok (.bl true) (Ω++[c]):=by
 have h:dZ (af 0) [some (.ref q),some (.ref p)] Ω=.ok (.seq (.ref q)) Ω:=by simp[fG (x:=.ref q) (by rw[cf,bf a])]
 have b:=fH (me:=m1 (eo .tuple) (af 0)) (nc:=true) (mc:=ag .non) (cap:=[]) (p:=λ_=>true) (g:=λ_=>.bl true) h (by rw[gZ,cf,bf a]) (λd _=>rfl) (λd i _=>by
  obtain⟨z,_,rfl⟩:=List.mem_map.mp i;rfl) (by simpa using Nat.le_trans f (by decide))
 have j:(((rs.map pT).filter λ_=>true).map λ_=>D.bl true)=rs.map λ_=>D.bl true:=by rw[List.filter_eq_self.mpr (λ_ _=>rfl),List.map_map];rfl
 rw[j]at b;have k:(Ω++[.lst (rs.map λ_=>D.bl true)])[Ω.length]?=some (.lst (rs.map λ_=>D.bl true)):=a_
 have m:=oC (da (aE (l:=[.lst (rs.map λ_=>D.bl true)]) a)) (da (aE (l:=[.lst (rs.map λ_=>D.bl true)]) e)) (jg rs)
 have n:dc .all [.ref Ω.length] (Ω++[.lst (rs.map λ_=>D.bl true)])=.ok (.bl true) (Ω++[.lst (rs.map λ_=>D.bl true)]):=Fj k
 refine⟨.lst (rs.map λ_=>D.bl true),?_⟩
 generalize Ω++[.lst (rs.map λ_=>D.bl true)]=o at *
 rw[bo (by rfl)]
 show cG (vU [some (.ref q),some (.ref p)] Ω)=_
 unfold vU;simp[oD a,b,n,m,-oj]
def oE(W:List D->Out Rs):SM:=(ao (eJ (m2 (bg .Is) (af 1) (ag .non))
 (ao (cu (m2 (bg .Is) (af 0) (ag .non)))
 au)
 au)
 (ao (cu (fQ (mN (bZ W) (aa (af 0) aq)) (m2 (bg .Eq) (af 0) (af 1))))
 au))
theorem lr{W:List D->Out Rs}(a:∀i:Int,W [.int i]=.ok (false,.bl true))(b:d=.non\/∃i:Int,d=.int i):bh 2 2 (oE W) [d,d] Ω=.ok (.bl true) Ω:=by
 rw[bo (by rfl)]
 show cG (oE W [some d,some d] Ω)=_
 rcases b with rfl|⟨i,rfl⟩
 .simp[oE,bN,isD]
 .simp[oE,bN,isD,a,aH,du]
end Mir
namespace Mir
open PySem PySem.Spec PyProof.Rows L2
variable [aw]
variable{Ω aD:aI}{fn f S A k kn kx q:Nat}{kvs:List (List Key×D)}{rs:List (Str×Str)}{a b:Str}{ρ:aS}{d t:D}{i:Int}
def Cj(l u w:SM):SM:=
 ao (eJ (m2 (bg .Eq) (af 1) (ag (.int 8))) (ao (cu (af 0)) au) au)
 (ao (eJ (m1 (eo .list) (af 0)) (ao l au) au)
 (ao (eJ (m1 (eo .tuple) (af 0)) (ao u au) au)
 (ao (eJ (m1 (eo .dict) (af 0)) (ao w au) au)
 (ao (cu (af 0)) au))))
def Iv(O:b_):EM:=er (mN (cm O) (aa (af 0) (aa (m2 (aJ .Add) (af 1) (ag (.int 1))) aq))) true (ag .non) (dZ (af 0)) 0 [1]
abbrev Fl:b_:=bh 2 2 (Cj cy cy cy)
abbrev FY:b_:=bh 2 2 (Cj (cu (Iv Fl)) (cu (mN (dc .tuple) (aa (Iv Fl) aq))) cy)
noncomputable def Iw:D->Bool
 |.non|.bl _|.int _|.str _=>true
 |_=>false
theorem sj{a:Ty}(h:Iw t=true)(b:a=.list\/a=.tuple\/a=.dict):eo a t Ω=.ok (.bl false) Ω:=by
 cases t with
 |non=>rcases b with rfl|rfl|rfl<;>rfl
 |bl _=>rcases b with rfl|rfl|rfl<;>rfl
 |int _=>rcases b with rfl|rfl|rfl<;>rfl
 |str _=>rcases b with rfl|rfl|rfl<;>rfl
 |_=>cases h
theorem Df{l u w:SM}{n:Int}(h:Iw t=true)(a:n≠8):bh 2 2 (Cj l u w) [t,.int n] Ω=.ok t Ω:=by
 rw[bo (by rfl)]
 show cG (Cj l u w [some t,some (.int n)] Ω)=_
 have b:(n==8)=false:=by simpa using a
 simp[Cj,bN,aH,du,b,sj h (.inl rfl),sj h (.inr (.inl rfl)),sj h (.inr (.inr rfl))]
theorem Fm(a:Ω[q]?=some (.lst [.int i])):FY [.ref q,.int 0] Ω=.ok (.ref Ω.length) (Ω++[.lst [.int i]]):=by
 have c:dZ (af 0) [some (.ref q),some (.int 0)] Ω=.ok (.seq (.ref q)) Ω:=by simp[fG (x:=.ref q) (by rw[cf,bf a])]
 have b:Iv Fl [some (.ref q),some (.int 0)] Ω=_:=fH (p:=λ_=>true) (g:=λd=>d) c (by rw[gZ,cf,bf a]) (λd _=>rfl) (λd e _=>by
  obtain rfl:d=.int i:=by simpa using e
  have:=Df (Ω:=Ω) (t:=.int i) (l:=cy) (u:=cy) (w:=cy) (n:=1) rfl (by omega)
  simp[gg,dk,this]) (by simp)
 have f:(([D.int i].filter λ_=>true).map λd=>d)=[D.int i]:=rfl
 rw[f]at b;unfold FY;rw[bo (by rfl)]
 show cG (Cj _ _ _ [some (.ref q),some (.int 0)] Ω)=_
 unfold Cj;simp[bN,aH,du,oD a,b]
def FZ:EM:=mN (λa b=>cm FY (a++[.int 0]) b) (aa (af 1) aq)
abbrev KZ(F:List D->Out Rs):b_:=bh 4 4 (zx F (lh "NoStrength" "value" FZ (af 3)))
abbrev K_:AM:=aa (m2 aZ (af 1) (ag (.int 0))) (aa (m2 aZ (af 1) (ag (.int 1))) (aa (af 2) aq))
abbrev Fo(F:List D->Out Rs):b_:=yN 4 "Facts" "tell" (KZ F) K_ "NoStrength" "value"
theorem Dg{F:List D->Out Rs}(h:de Ω fn f S A kvs rs){t' d:D}(c:dE Ω 8 t=some t')(e:F [t']=.ok (false,.bl false))(g:FY [t,.int 0] Ω=.ok d aD)(i:sd d t aD=.ok (.bl true) aD):Fo F [.ref f,cU a b,t] Ω=.ok (.bl true) aD:=by
 have j:K_ (aP 4 [.ref f,cU a b,t]) Ω=.ok [.str a,.str b,t] Ω:=by
  have i0:aZ (cU a b) (.int 0) Ω=.ok (.str a) Ω:=fF rfl;have i1:aZ (cU a b) (.int 1) Ω=.ok (.str b) Ω:=fF rfl;simp[K_,aP,i0,i1]
 have k:KZ F [.ref f,.str a,.str b,t] Ω=.exc (jR "NoStrength" "value" d) aD:=by
  have l:FZ [none,some t] Ω=.ok d aD:=by simp[FZ,g]
  unfold KZ;rw[bo (by rfl)]
  show cG (zx F _ [some (.ref f),some (.str a),some (.str b),some t] Ω)=_
  simp[zx,c,e,lh,l];rfl
 have m:CZ "NoStrength" "value" (jR "NoStrength" "value" d)=some d:=by unfold CZ jR;simp
 unfold Fo yN;dsimp only;rw[fV h.hf];dsimp only;rw[if_pos ⟨rfl,rfl⟩,j];dsimp only;rw[k];dsimp only;rw[m];exact i
theorem Fp(h:Iw t=true):sd t t Ω=.ok (.bl true) Ω:=by
 cases t with
 |non=>rfl
 |bl x=>cases x<;>rfl
 |int i=>simp[sd,oH,bN,aH,du]
 |str x=>simp[sd,oH,bN,aH,du]
 |_=>cases h
theorem Iy{F:List D->Out Rs}(h:de Ω fn f S A kvs rs)(c:Iw t=true)(d:F [t]=.ok (false,.bl false)):Fo F [.ref f,cU a b,t] Ω=.ok (.bl true) Ω:=
 Dg h (by cases t with|non=>rfl|bl _=>rfl|int _=>rfl|str _=>rfl|_=>cases c) d (Df c (by omega)) (Fp c)
theorem Fq{F:List D->Out Rs}(h:de Ω fn f S A kvs rs)(c:Ω[q]?=some (.lst [.int i]))(d:F [.lst [.int i]]=.ok (false,.bl false)):Fo F [.ref f,cU a b,.ref q] Ω=.ok (.bl true) (Ω++[.lst [.int i]]):=by
 refine Dg h (fU c (by simp)) d (Fm c) ?_
 have e:dE (Ω++[.lst [.int i]]) 8 (.ref Ω.length)=some (.lst [.int i]):=fU a_ (by simp)
 have g:dE (Ω++[.lst [.int i]]) 8 (.ref q)=some (.lst [.int i]):=fU (aE c) (by simp)
 unfold sd;rw[e,g];simp[oH,bN,aH,du,eZ]
end Mir
namespace Mir
open PySem PySem.Spec PyProof.Rows L2
variable [aw]
section
variable{Ω:aI}{F:List D->Out Rs}{δ:List Int->Int->Int->Int}{ns:List Int}{k:Nat}
theorem Fs{n:Nat}{xs:List Str}(h:Ω[k]?=some (.lst (xs.map .str))):va (.ref k) none (some (n:Int)) Ω=.ok (.ref Ω.length) (Ω++[.lst ((xs.take n).map .str)]):=by
 simp only[va,bf h,tQ,EG,List.map_take]
theorem za{j:Nat}{ds es:List D}(a:Ω[j]?=some (.lst ds))(b:Ω[k]?=some (.lst es))(c:ds.length+es.length<=1000):aJ .Add (.ref j) (.ref k) Ω=.ok (.ref Ω.length) (Ω++[.lst (ds++es)]):=by
 rw[qm,BE,bf a,bf b,tV,if_pos (az (by omega))]
 rfl
theorem sk{z:Str}{i c:Nat}(h:z.length<=100)(a:z.cps.toList[i]?=some c):ko (.str z) (.int (i:Int))=.ok (false,.str (aR c)):=by
 simp only[ko];rw[if_pos (az (by omega)),L2.gO a]
def La:SM:=(ao (aU 3 (m2 (aJ .Add) (af 3) (mN dm (aa (m2 (aJ .Add) (m2 aZ (af 3) (af 4)) (af 0)) (aa (m2 (aJ .Add) (m2 aZ (af 3) (af 4)) (af 1)) aq)))))
 au)
def Iz:SM:=
 (ao (aU 3 (mN dm (aa (af 0) (aa (af 1) aq))))
 (ao (hI (dR 4) (eU (aa (af 2) aq)) La)
 (ao (cu (gC (af 3) true (ag .non) false (af 2)))
 au)))
theorem ID{x y:Str}(G:x.length<=1)(H:y.length<=1){n:Nat}(I:n<=8):∃(xs:List Str) (aD:aI) (k:Nat),xs.length=n/\bh 5 3 Iz [.str x,.str y,.int n] Ω=.ok (.ref k) aD/\aD[k]?=some (.lst (xs.map .str))/\aL [] Ω aD/\Ω.length<=k:=by
 rw[bo (by rfl)]
 show ∃(xs:List Str) (aD:aI) (k:Nat),xs.length=n/\cG (Iz [some (.str x),some (.str y),some (.int n),none,none] Ω)=.ok (.ref k) aD/\_
 have g:jN (n:Int)=true:=gW (by omega) (by omega)
 have p:aU 3 (mN dm (aa (af 0) (aa (af 1) aq))) [some (.str x),some (.str y),some (.int n),none,none] Ω=.nx [some (.str x),some (.str y),some (.int n),some (.ref Ω.length),none] (Ω++[.lst [.str x,.str y]]):=by simp[az]
 have h:eU (aa (af 2) aq) [some (.str x),some (.str y),some (.int n),some (.ref Ω.length),none] (Ω++[.lst [.str x,.str y]])=.ok (.ints 0 n) (Ω++[.lst [.str x,.str y]]):=by simp[g]
 unfold Iz;rw[ax,p,aQ,ax,fW,h,jJ]
 refine dY (R:=λr=>∃(xs:List Str) (aD:aI) (k:Nat),xs.length=n/\cG (sq r _)=.ok (.ref k) aD/\aD[k]?=some (.lst (xs.map .str))/\aL [] Ω aD/\Ω.length<=k) (ds:=intsFrom 0 n)
  (λi f a=>∃(xs:List Str) (k:Nat) (j:Option D),f=[some (.str x),some (.str y),some (.int n),some (.ref k),j]/\xs.length=2+2*i/\(∀z∈xs,z.length<=1+i)/\a[k]?=some (.lst (xs.map .str))/\aL [] Ω a/\Ω.length<=k) ?_ ?_ ?_ fuel 0 _ _ (by unfold fuel;rw[cY];omega) (Nat.zero_le _) ⟨[x,y],Ω.length,none,rfl,rfl,λz hz=>by rcases List.mem_cons.mp hz with rfl|hz;omega;rw[List.mem_singleton.mp hz];omega,a_,aL.app,Nat.le_refl _⟩
 .rintro i f a _;rfl
 .rintro i d f a q ⟨xs,k,j,rfl,m,hz,c,K,b⟩
  obtain⟨rfl,s⟩:=gX q;refine⟨_,rfl,?_⟩;have t:i<xs.length:=by omega
  obtain⟨z,e⟩:∃z,xs[i]?=some z:=⟨_,List.getElem?_eq_getElem t⟩;have u:=hz z (List.mem_of_getElem? e);have A:(0:Int)+(i:Int)=(i:Int):=by omega
  have i1:=cg c (L2.gO (show(xs.map D.str)[i]?=some (.str z)by simp[e]))
  have o:(a++[.lst [.str (z++x),.str (z++y)]])[a.length]?=some (.lst [.str (z++x),.str (z++y)]):=a_;have J:=za (aE (l:=[.lst [.str (z++x),.str (z++y)]]) c) o (by simp;omega)
  show lb (La [some (.str x),some (.str y),some (.int n),some (.ref k),some (.int (0+(i:Int)))] a) _ _
  have B:La [some (.str x),some (.str y),some (.int n),some (.ref k),some (.int (0+(i:Int)))] a=.nx [some (.str x),some (.str y),some (.int n),some (.ref (a.length+1)),some (.int (0+(i:Int)))] (a++[.lst [.str (z++x),.str (z++y)],.lst (xs.map .str++[.str (z++x),.str (z++y)])]):=by
   rw[A];unfold La;simp[i1,dk,az (n:=z.length+x.length) (by omega),az (n:=z.length+y.length) (by omega),az,bf c]
   rw[bf (aE c),bf o,tV,if_pos (az (by simp;omega))]
   simp
  rw[B];refine⟨xs++[z++x,z++y],_,_,rfl,by simp;omega,λw hw=>?_,?_,K.trans aL.app,by have:=K.len;omega⟩
  .rcases List.mem_append.mp hw with hw|hw
   .have:=hz w hw;omega
   .have C:(z++x).length=z.length+x.length:=Str.length_append ..
    have E:(z++y).length=z.length+y.length:=Str.length_append ..;rcases List.mem_cons.mp hw with rfl|hw
    .omega
    .rw[List.mem_singleton.mp hw];omega
  .rw[List.getElem?_append_right (by omega)];simp
 .rintro f a ⟨xs,k,j,rfl,m,hz,c,K,b⟩
  rw[cY]at m;have F:=Fs (n:=n) c;refine⟨xs.take n,a++[.lst ((xs.take n).map .str)],a.length,by rw[List.length_take];omega,?_,a_,K.trans aL.app,K.len⟩
  rw[aQ];simp[f_,F]
def F_(F:List D->Out Rs):SM:=(eJ (m2 (bg .Eq) (mN (bZ F) (aa (af 0) (aa (m2 (aJ .Add) (af 1) (ag (.int 4))) (aa (ag (.int 4)) aq)))) (ag (.int 2)))
 (ao (aU 9 (mN (cm (bh 5 3 Iz)) (aa (m2 aZ (af 6) (ag (.int 0))) (aa (m2 aZ (af 6) (ag (.int 1))) (aa (af 2) aq)))))
 au)
 au)
def Fu(F:List D->Out Rs):SM:=
 (ao (aU 3 (ag (.str "abcdefghijklmnopqrstuvwxyz")))
 (ao (aU 4 (mN (bZ F) (aa (af 0) (aa (af 1) (aa (ag (.int 26)) aq)))))
 (ao (aU 5 (m2 (aJ .Add) (ag (.int 1)) (mN (bZ F) (aa (af 0) (aa (m2 (aJ .Add) (af 1) (ag (.int 1))) (aa (ag (.int 25)) aq))))))
 (ao (aU 6 (cL xB kS (ag (.str "")) (aa nC aq)))
 (ao (aU 7 (m2 (aJ .Add) (ag (.int 1)) (mN (bZ F) (aa (af 0) (aa (m2 (aJ .Add) (af 1) (ag (.int 2))) (aa (ag (.int 8)) aq))))))
 (ao (aU 8 (mN (bZ F) (aa (af 0) (aa (m2 (aJ .Add) (af 1) (ag (.int 3))) (aa (af 7) aq)))))
 (ao (aU 9 (mN dm aq))
 (ao (hI (dR 10) (eU (aa (af 2) aq)) nB)
 (ao (eJ (fQ (m2 (bg .Lt) (af 2) (ag (.int 9))) (m2 (bg .Eq) (mN (bZ F) (aa (af 0) (aa (m2 (aJ .Add) (af 1) (ag (.int 4))) (aa (ag (.int 4)) aq)))) (ag (.int 1))))
 (ao (aU 9 nD)
 au)
 au)
 (ao (F_ F)
 (ao (eJ (m2 (bg .Eq) (mN (bZ F) (aa (af 0) (aa (m2 (aJ .Add) (af 1) (ag (.int 5))) (aa (ag (.int 2)) aq)))) (ag (.int 1)))
 (ao (gF (cL pM cW (af 9) aq))
 au)
 au)
 (ao (cu (af 9))
 au))))))))))))
theorem uo(s:eM δ F)(A:ns.length<=63){a:Int}(h0:0<=a)(h1:a<10000){n:Nat}(hn:n<=8):∃(xs:List Str) (aD:aI) (k:Nat),xs.length=n/\bh 12 3 (Fu F) [SC ns,.int a,.int n] Ω=.ok (.ref k) aD/\aD[k]?=some (.lst (xs.map .str))/\aL [] Ω aD/\Ω.length<=k:=by
 rw[bo (by rfl)]
 have e0:aP 12 [SC ns,.int a,.int n]=[some (SC ns),some (.int a),some (.int n),none,none,none,none,none,none,none,none,none]:=rfl;rw[e0];obtain⟨f0,f1,hf⟩:=s ns a 26 A h0 (by omega) (by omega)
 obtain⟨t0,M,ht⟩:=s ns (a+1) 25 A (by omega) (by omega) (by omega)
 obtain⟨z0,z1,hz⟩:=s ns (a+2) 8 A (by omega) (by omega) (by omega)
 generalize δ ns a 26=f at *;generalize δ ns (a+1) 25=t at *;generalize δ ns (a+2) 8=z at *;obtain⟨p0,p1,hp⟩:=s ns (a+3) (1+z) A (by omega) (by omega) (by omega)
 obtain⟨g0,g1,N⟩:=s ns (a+4) 4 A (by omega) (by omega) (by omega)
 obtain⟨v0,v1,hv⟩:=s ns (a+5) 2 A (by omega) (by omega) (by omega)
 generalize δ ns (a+3) (1+z)=o at *;generalize δ ns (a+4) 4=g at *;generalize δ ns (a+5) 2=v at *;obtain⟨S,hS,⟨c0,q0,r0⟩,hC⟩:=HV (Ω:=Ω) f0 f1 (st:=1+t) (by omega) (by omega) (a0:=some (SC ns)) (a1:=some (.int a)) (a2:=some (.int n)) (a6:=none) (a7:=none) (a8:=none) (a9:=none) (a10:=none) (a11:=none)
 have Q:aL [] Ω (Ω++[.lst ((intsFrom 0 8).map λd=>match d with|.int j=>.str (aR (97+((f+j*(1+t))%26).toNat))|_=>.non)]):=aL.app
 generalize (Ω++[Cell.lst ((intsFrom 0 8).map λd=>match d with|.int j=>D.str (aR (97+((f+j*(1+t))%26).toNat))|_=>D.non)])=c at hC Q
 have hq:(c++[Cell.lst []])[c.length]?=some (.lst []):=a_;have K2:aL [] c (c++[Cell.lst []]):=aL.app;have E:jN (n:Int)=true:=gW (by omega) (by omega)
 have T:Ω.length<=c.length:=Q.len;unfold Fu;have r1:(aU 3 (ag (.str "abcdefghijklmnopqrstuvwxyz"))) [some (SC ns),some (.int a),some (.int n),none,none,none,none,none,none,none,none,none] Ω=.nx [some (SC ns),some (.int a),some (.int n),some (.str abc),none,none,none,none,none,none,none,none] Ω:=rfl;have r2:(aU 4 (mN (bZ F) (aa (af 0) (aa (af 1) (aa (ag (.int 26)) aq))))) [some (SC ns),some (.int a),some (.int n),some (.str abc),none,none,none,none,none,none,none,none] Ω=.nx [some (SC ns),some (.int a),some (.int n),some (.str abc),some (.int f),none,none,none,none,none,none,none] Ω:=by simp[hf]
 have r3:(aU 5 (m2 (aJ .Add) (ag (.int 1)) (mN (bZ F) (aa (af 0) (aa (m2 (aJ .Add) (af 1) (ag (.int 1))) (aa (ag (.int 25)) aq)))))) [some (SC ns),some (.int a),some (.int n),some (.str abc),some (.int f),none,none,none,none,none,none,none] Ω=.nx [some (SC ns),some (.int a),some (.int n),some (.str abc),some (.int f),some (.int (1+t)),none,none,none,none,none,none] Ω:=by simp[ht]
 have r4:(aU 6 (cL xB kS (ag (.str "")) (aa nC aq))) [some (SC ns),some (.int a),some (.int n),some (.str abc),some (.int f),some (.int (1+t)),none,none,none,none,none,none] Ω=.nx [some (SC ns),some (.int a),some (.int n),some (.str abc),some (.int f),some (.int (1+t)),some (.str S),none,none,none,none,none] c:=by
  rw[ka,hC];rfl
 have r5:(aU 7 (m2 (aJ .Add) (ag (.int 1)) (mN (bZ F) (aa (af 0) (aa (m2 (aJ .Add) (af 1) (ag (.int 2))) (aa (ag (.int 8)) aq)))))) [some (SC ns),some (.int a),some (.int n),some (.str abc),some (.int f),some (.int (1+t)),some (.str S),none,none,none,none,none] c=.nx [some (SC ns),some (.int a),some (.int n),some (.str abc),some (.int f),some (.int (1+t)),some (.str S),some (.int (1+z)),none,none,none,none] c:=by simp[hz]
 have r6:(aU 8 (mN (bZ F) (aa (af 0) (aa (m2 (aJ .Add) (af 1) (ag (.int 3))) (aa (af 7) aq))))) [some (SC ns),some (.int a),some (.int n),some (.str abc),some (.int f),some (.int (1+t)),some (.str S),some (.int (1+z)),none,none,none,none] c=.nx [some (SC ns),some (.int a),some (.int n),some (.str abc),some (.int f),some (.int (1+t)),some (.str S),some (.int (1+z)),some (.int o),none,none,none] c:=by simp[hp]
 have r7:(aU 9 (mN dm aq)) [some (SC ns),some (.int a),some (.int n),some (.str abc),some (.int f),some (.int (1+t)),some (.str S),some (.int (1+z)),some (.int o),none,none,none] c=.nx (EN ns a n f (1+t) S (1+z) o c.length none none) (c++[Cell.lst []]):=by simp[EN,az]
 have U:eU (aa (af 2) aq) (EN ns a n f (1+t) S (1+z) o c.length none none) (c++[Cell.lst []])=.ok (.ints 0 n) (c++[Cell.lst []]):=by simp[EN,E]
 rw[ax,r1,aQ,ax,r2,aQ,ax,r3,aQ,ax,r4,aQ,ax,r5,aQ,ax,r6,aQ,ax,r7,aQ,ax,fW,U,jJ];generalize s0:c.length=q at *;refine BJ (R:=λr=>∃(xs:List Str) (aD:aI) (k:Nat),xs.length=n/\cG (sq r _)=.ok (.ref k) aD/\aD[k]?=some (.lst (xs.map .str))/\aL [] Ω aD/\Ω.length<=k) hS f0 f1 (by omega) (by omega) (by omega) (by omega) p0 (by omega) (by omega) hq ?_
 intro xs a10 a11 h hx w0 x0 hk K3;have V:aL [] Ω h:=(Q.trans K2).new K3 (by simp;omega)
 rw[aQ]
 have G:∀(m:List Str) (b:aI) (l:Nat),m.length=n->b[l]?=some (.lst (m.map .str))->aL [] Ω b->Ω.length<=l ->
   ∃(xs:List Str) (aD:aI) (k:Nat),xs.length=n/\cG ((ao (eJ (m2 (bg .Eq) (mN (bZ F) (aa (af 0) (aa (m2 (aJ .Add) (af 1) (ag (.int 5))) (aa (ag (.int 2)) aq)))) (ag (.int 1))) (ao (gF (cL pM cW (af 9) aq)) au) au) (ao (cu (af 9)) au)) (EN ns a n f (1+t) S (1+z) o l a10 a11) b)=.ok (.ref k) aD/\aD[k]?=some (.lst (xs.map .str))/\aL [] Ω aD/\Ω.length<=k:=by
  intro m b l O u B w
  by_cases H:v=1
  .subst H
   have X:=qo u
   have hm:cL pM cW (af 9) aq (EN ns a n f (1+t) S (1+z) o l a10 a11) b=.ok .non (b.set l (.lst (m.map .str).reverse)):=by
    rw[ou (x:=.ref l) (aD:=b) (by simp[EN]) (fY u),fT,hZ,X]
   refine⟨m.reverse,b.set l (.lst (m.map .str).reverse),l,by simp[O],?_,by rw[List.map_reverse];exact aV u,B.new (aL.set (fp:=[l]) (by simp)) (by simpa using w),w⟩
   have Y:cL pM cW (af 9) aq [some (SC ns),some (.int a),some (.int n),some (.str abc),some (.int f),some (.int (1+t)),some (.str S),some (.int (1+z)),some (.int o),some (.ref l),a10,a11] b=.ok .non (b.set l (.lst (m.map .str).reverse)):=hm;simp[EN,hv,Y,-List.map_reverse]
  .refine⟨m,b,l,O,?_,u,B,w⟩
   simp[EN,hv,H]
 have I:∀(m:List Str) (b:aI) (l:Nat),m.length=n->b[l]?=some (.lst (m.map .str))->aL [] Ω b->Ω.length<=l ->
   ∃(xs:List Str) (aD:aI) (k:Nat),xs.length=n/\cG ((ao (F_ F) (ao (eJ (m2 (bg .Eq) (mN (bZ F) (aa (af 0) (aa (m2 (aJ .Add) (af 1) (ag (.int 5))) (aa (ag (.int 2)) aq)))) (ag (.int 1))) (ao (gF (cL pM cW (af 9) aq)) au) au) (ao (cu (af 9)) au))) (EN ns a n f (1+t) S (1+z) o l a10 a11) b)=.ok (.ref k) aD/\aD[k]?=some (.lst (xs.map .str))/\aL [] Ω aD/\Ω.length<=k:=by
  intro m b l O u B w
  by_cases J:g=2
  .subst J
   obtain⟨u0,C,P,hu⟩:∃u0 C P,S.cps.toList=u0::C::P:=by
    have h8:S.cps.toList.length=8:=by simpa[Str.length]using hS
    match hq:S.cps.toList,h8 with
    |u0::C::P,_=>exact⟨u0,C,P,rfl⟩
   obtain⟨zs,K,k5,Z,e5,g5,K6,b5⟩:=ID (Ω:=b) (x:=aR u0) (y:=aR C) (by simp[aR,Str.length]) (by simp[aR,Str.length]) hn
   have i0:ko (.str S) (.int 0)=.ok (false,.str (aR u0)):=sk (i:=0) (by omega) (by rw[hu];rfl)
   have i1:ko (.str S) (.int 1)=.ok (false,.str (aR C)):=sk (i:=1) (by omega) (by rw[hu];rfl)
   have s1:F_ F (EN ns a n f (1+t) S (1+z) o l a10 a11) b=.nx (EN ns a n f (1+t) S (1+z) o k5 a10 a11) K:=by
    simp[F_,EN,N,i0,i1,e5]
   rw[ax,s1,aQ];exact G zs K k5 Z g5 (B.trans K6) (Nat.le_trans B.len b5)
  .have s1:F_ F (EN ns a n f (1+t) S (1+z) o l a10 a11) b=.nx (EN ns a n f (1+t) S (1+z) o l a10 a11) b:=by
    simp[F_,EN,N,J]
   rw[ax,s1,aQ];exact G m b l O u B w
 by_cases hc:n<9/\g=1
 .obtain⟨y0,rfl⟩:=hc
  have L:(n:Int)<9:=by omega
  have b0:small S.length=true:=az (by omega)
  have hD:=fH (Ω:=h) (aD:=h) (ρ:=EN ns a n f (1+t) S (1+z) o q a10 a11) (me:=gC (af 1) true (ag .non) false (m2 (aJ .Add) (af 0) (ag (.int 1)))) (nc:=true) (mc:=ag .non) (mi:=eU (aa (af 2) aq)) (cap:=[6]) (src:=.ints 0 n) (ds:=intsFrom 0 n) (p:=λ_=>true)
   (g:=λd=>match d with|.int j=>.str ⟨(cE S.cps.toList none (some (j+1))).toArray⟩|_=>.non) (by simp[EN,E]) rfl (λd hd=>rfl) (λd hd _=>by
    obtain⟨i,hi⟩:=List.mem_iff_getElem?.mp hd;obtain⟨rfl,A0⟩:=gX hi;generalize (0:Int)+(i:Int)=j;simp[gg,EN,b0]) (by rw[cY];omega)
  rw[List.filter_eq_self.mpr (by simp)]at hD
  obtain⟨m,j0,m0⟩:∃m:List Str,m.length=n/\((intsFrom 0 n).map λd=>match d with|.int j=>D.str ⟨(cE S.cps.toList none (some (j+1))).toArray⟩|_=>.non)=m.map .str:=by
   refine⟨(List.range n).map λ(i:Nat)=>⟨(cE S.cps.toList none (some ((0+(i:Int))+1))).toArray⟩,by simp,?_⟩
   rw[ints_map,List.map_map,List.map_map];rfl
  rw[m0]at hD
  have M:(eJ (fQ (m2 (bg .Lt) (af 2) (ag (.int 9))) (m2 (bg .Eq) (mN (bZ F) (aa (af 0) (aa (m2 (aJ .Add) (af 1) (ag (.int 4))) (aa (ag (.int 4)) aq)))) (ag (.int 1)))) (ao (aU 9 nD) au) au) (EN ns a n f (1+t) S (1+z) o q a10 a11) h=.nx (EN ns a n f (1+t) S (1+z) o h.length a10 a11) (h++[Cell.lst (m.map .str)]):=by
   have n0:nD [some (SC ns),some (.int a),some (.int n),some (.str abc),some (.int f),some (.int (1+t)),some (.str S),some (.int (1+z)),some (.int o),some (.ref q),a10,a11] h=.ok (.ref h.length) (h++[Cell.lst (m.map .str)]):=hD;simp[EN,L,N,n0]
  rw[ax,M,aQ];exact I m _ _ j0 a_ (V.trans aL.app) V.len
 .have M:(eJ (fQ (m2 (bg .Lt) (af 2) (ag (.int 9))) (m2 (bg .Eq) (mN (bZ F) (aa (af 0) (aa (m2 (aJ .Add) (af 1) (ag (.int 4))) (aa (ag (.int 4)) aq)))) (ag (.int 1)))) (ao (aU 9 nD) au) au) (EN ns a n f (1+t) S (1+z) o q a10 a11) h=.nx (EN ns a n f (1+t) S (1+z) o q a10 a11) h:=by
   by_cases h9:(n:Int)<9
   .have o0:¬ g=1:=λe=>hc ⟨by omega,e⟩
    simp[EN,h9,N,o0]
   .simp[EN,h9]
  rw[ax,M,aQ];exact I xs h q hx hk V T
def Fv(F:List D->Out Rs):SM:=
 (ao (aU 2 (ag (.str "abcdefghijklmnopqrstuvwxyz")))
 (ao (pW [3,4,5] (er (m2 aZ (af 1) (mN (bZ F) (aa (af 2) (aa (m2 (aJ .Add) (ag (.int 70)) (af 0)) (aa (ag (.int 26)) aq))))) true (ag .non) (eU (aa (ag (.int 3)) aq)) 0 [2,0]))
 (ao (aU 6 (m2 aZ (af 1) (mN (bZ F) (aa (af 0) (aa (ag (.int 73)) (aa (mN (dc .len) (aa (af 1) aq)) aq))))))
 (ao (cu (mN lK (aa (mN dm (aa (af 3) (aa (m2 (aJ .Add) (m2 (aJ .Add) (af 3) (af 6)) (af 4)) (aa (ag (.str "")) aq)))) (aa (mN dm (aa (m2 (aJ .Add) (m2 (aJ .Add) (af 4) (af 6)) (af 5)) (aa (af 5) (aa (ag (.str "")) aq)))) aq))))
 au))))
theorem IE(s:eM δ F)(y:ns.length<=63){q:List Str}(H:Ω[k]?=some (.lst (q.map .str)))(I:q.length=8)(w:∀z∈q,z.length<=1) :
  ∃(xs t:List Str) (aD:aI) (i j:Nat),xs.length=3/\t.length=3/\bh 7 2 (Fv F) [SC ns,.ref k] Ω=.ok (.tup [.ref i,.ref j]) aD/\aD[i]?=some (.lst (xs.map .str))/\aD[j]?=some (.lst (t.map .str))/\aL [] Ω aD:=by
 rw[bo (by rfl)]
 show ∃(xs t:List Str) (aD:aI) (i j:Nat),xs.length=3/\t.length=3/\cG (Fv F [some (SC ns),some (.ref k),none,none,none,none,none] Ω)=.ok (.tup [.ref i,.ref j]) aD/\_
 have r:∀j:Nat,j<3->∃c,m2 aZ (af 1) (mN (bZ F) (aa (af 2) (aa (m2 (aJ .Add) (ag (.int 70)) (af 0)) (aa (ag (.int 26)) aq)))) [some (.int (0+(j:Int))),some (.str abc),some (SC ns)] Ω=.ok (.str (aR c)) Ω:=λj Y=>by
  obtain⟨J,K,u⟩:=s ns (70+(0+(j:Int))) 26 y (by omega) (by omega) (by omega)
  generalize δ ns (70+(0+(j:Int))) 26=p at *;have x:p.toNat<abc.cps.toList.length:=by rw[show abc.cps.toList.length=26 from rfl];omega
  refine⟨abc.cps.toList[p.toNat],?_⟩;have:=sk (z:=abc) (i:=p.toNat) (by decide) (List.getElem?_eq_getElem x)
  rw[show((p.toNat:Nat):Int)=p by omega]at this
  rw[show(70:Int)+(0+(j:Int))=70+(j:Int)by omega]at u
  simp[dk,u,this]
 obtain⟨h,L⟩:=r 0 (by omega)
 obtain⟨l,M⟩:=r 1 (by omega)
 obtain⟨o,N⟩:=r 2 (by omega)
 have A:=fH (Ω:=Ω) (aD:=Ω) (ρ:=[some (SC ns),some (.ref k),some (.str abc),none,none,none,none]) (me:=m2 aZ (af 1) (mN (bZ F) (aa (af 2) (aa (m2 (aJ .Add) (ag (.int 70)) (af 0)) (aa (ag (.int 26)) aq))))) (nc:=true) (mc:=ag .non) (mi:=eU (aa (ag (.int 3)) aq)) (cap:=[2,0]) (src:=.ints 0 3) (ds:=intsFrom 0 3) (p:=λ_=>true)
  (g:=λd=>match d with|.int 0=>.str (aR h)|.int 1=>.str (aR l)|_=>.str (aR o)) rfl rfl (λd B=>rfl) (λd B _=>by
   have:d=.int 0\/d=.int 1\/d=.int 2:=by simpa[intsFrom]using B
   rcases this with rfl|rfl|rfl
   .exact L
   .exact M
   .exact N) (by decide)
 have O:(((intsFrom 0 3).filter λ_=>true).map λd=>match d with|.int 0=>D.str (aR h)|.int 1=>.str (aR l)|_=>.str (aR o))=[.str (aR h),.str (aR l),.str (aR o)]:=rfl
 rw[O]at A;obtain⟨J,K,u⟩:=s ns 73 8 y (by omega) (by omega) (by omega)
 generalize δ ns 73 8=p at *;have x:p.toNat<q.length:=by omega
 obtain⟨z,C⟩:∃z,q[p.toNat]?=some z:=⟨_,List.getElem?_eq_getElem x⟩;have P:=w z (List.mem_of_getElem? C);generalize f:Ω++[.lst [.str (aR h),.str (aR l),.str (aR o)]]=e at *;have E:e[k]?=some (.lst (q.map .str)):=by rw[←f];exact aE H
 have Q:aL [] Ω e:=by rw[←f];exact aL.app
 have R:e[Ω.length]?=some (.lst [.str (aR h),.str (aR l),.str (aR o)]):=by rw[←f];exact a_
 have i1:=cg E (L2.gO (show(q.map D.str)[p.toNat]?=some (.str z)by simp[C]))
 rw[show((p.toNat:Nat):Int)=p by omega]at i1
 have G:=oq E;rw[List.length_map,I]at G;have S:∀c:Nat,(aR c).length=1:=λc=>rfl
 have T:∀a b:Str,(a++b).length=a.length+b.length:=λa b=>Str.length_append ..
 refine⟨[aR h,aR h++z++aR l,""],[aR l++z++aR o,aR o,""],e++[.lst [.str (aR h),.str (aR h++z++aR l),.str ""],.lst [.str (aR l++z++aR o),.str (aR o),.str ""]],e.length,e.length+1,rfl,rfl,?_,a_,by rw[List.getElem?_append_right (by omega)];simp,Q.trans aL.app⟩
 have U:(aU 2 (ag (.str "abcdefghijklmnopqrstuvwxyz"))) [some (SC ns),some (.ref k),none,none,none,none,none] Ω=.nx [some (SC ns),some (.ref k),some (.str abc),none,none,none,none] Ω:=rfl
 have V:∀m:EM,m [some (SC ns),some (.ref k),some (.str abc),none,none,none,none] Ω=.ok (.ref Ω.length) e->pW [3,4,5] m [some (SC ns),some (.ref k),some (.str abc),none,none,none,none] Ω=.nx [some (SC ns),some (.ref k),some (.str abc),some (.str (aR h)),some (.str (aR l)),some (.str (aR o)),none] e:=λm X=>by
  unfold pW;rw[X,jJ,bf R];rfl
 unfold Fv;rw[ax,U,aQ,ax,V _ A,aQ];simp[G,u,i1,dk,S,T,az (n:=1+z.length) (by omega),az (n:=1+z.length+1) (by omega),az]
end
noncomputable def vV(K:List (Str×Str))(k:Str×Str):List (Str×Str):=if k∈K then K else K++[k]
def Ck(xs a:List Str):List (Str×Str):=xs.foldl (λK x=>a.foldl (λK w=>vV K (x,w)) K) []
def ly(a:List (List Key×D))(K:List (Str×Str)):Prop:=∃l:PD,a=enc l/\l.map (·.1)=K
theorem ly.put{a:List (List Key×D)}{K:List (Str×Str)}(h:ly a K){x w:Str}{d:D}:ly (bE a (eQ x w) d) (vV K (x,w)):=by
 obtain⟨l,rfl,rfl⟩:=h;exact⟨bE l (x,w) d,je,lp.trans (by unfold vV;split<;>rename_i b<;>simp[b])⟩
theorem take_snoc{xs:List Str}{i:Nat}{x:Str}(h:xs[i]?=some x):xs.take (i+1)=xs.take i++[x]:=by rw[List.take_succ,h];rfl
theorem Cm{K:List (Str×Str)}{k p:Str×Str}(h:p∈vV K k):p∈K\/p=k:=by
 unfold vV at h;split at h
 .exact .inl h
 .simpa using h
theorem Cn{xs b:List Str}{p:Str×Str}(h:p∈Ck xs b):p.1∈xs/\p.2∈b:=by
 have a:∀(c:List Str) (x:Str) (K:List (Str×Str)),p∈c.foldl (λK w=>vV K (x,w)) K->p∈K\/(p.1=x/\p.2∈c):=by
  intro c x
  induction c with
  |nil=>intro K h;exact .inl h
  |cons u c g=>
   intro K h;rcases g _ h with h|⟨i,d⟩
   .rcases Cm h with h|rfl
    .exact .inl h
    .exact .inr ⟨rfl,by simp⟩
   .exact .inr ⟨i,by simp[d]⟩
 have outer:∀(f:List Str) (K:List (Str×Str)),p∈f.foldl (λK x=>b.foldl (λK w=>vV K (x,w)) K) K->p∈K\/(p.1∈f/\p.2∈b):=by
  intro f
  induction f with
  |nil=>intro K h;exact .inl h
  |cons z f g=>
   intro K h;rcases g _ h with h|⟨i,d⟩
   .rcases a b z K h with h|⟨e,d⟩
    .exact .inl h
    .exact .inr ⟨by simp[e],d⟩
   .exact .inr ⟨by simp[i],d⟩
 rcases outer xs [] h with h|h
 .cases h
 .exact h
theorem Fw(xs i:List Str):(Ck xs i).Nodup:=by
 have j:∀(K:List (Str×Str)) k,K.Nodup->(vV K k).Nodup:=λK k h=>by
  unfold vV;split
  .exact h
  .rename_i l
   exact List.nodup_append.mpr ⟨h,by simp,λa m b n=>by rw[List.mem_singleton.mp n];exact λe=>l (e▸m)⟩
 have c:∀(d:List Str) (x:Str) (K:List (Str×Str)),K.Nodup->(d.foldl (λK w=>vV K (x,w)) K).Nodup:=by
  intro d x
  induction d with
  |nil=>intro K h;exact h
  |cons u d g=>intro K h;exact g _ (j _ _ h)
 have outer:∀(f:List Str) (K:List (Str×Str)),K.Nodup->(f.foldl (λK x=>i.foldl (λK w=>vV K (x,w)) K) K).Nodup:=by
  intro f
  induction f with
  |nil=>intro K h;exact h
  |cons z f g=>intro K h;exact g _ (c _ _ _ h)
 exact outer xs [] List.nodup_nil
section
variable{Ω aD:aI}{F:List D->Out Rs}{δ:List Int->Int->Int->Int}{ns:List Int}{t:Nat}{kvs:List (List Key×D)}
theorem MF(r:eM δ F)(G:ns.length<=63){a n:Int}{kx kw:Nat}{x:Str}{g:List Str}{P:Str->Str->Prop}{a7 a8:Option D}(H:0<=a)(I:a<10000)(d0:1<=n)(d1:n<=9)(s:Ω[kw]?=some (.lst (g.map .str)))(C:Ω[t]?=some (.dT kvs))(J:i_ kvs P){z:List (Str×Str)}(L:ly kvs z)(V:kvs.length+g.length<=1000)
  {R:fS->Prop} (M:∀b a7 a8 aD,b.length<=kvs.length+g.length->i_ b (λy u=>P y u\/(y=x/\u∈g))->ly b (g.foldl (λK w=>vV K (x,w)) z)->aD[t]?=some (.dT b)->aL [t] Ω aD->R (.nx (ET ns a kx kw t n (some (.str x)) a7 a8) aD)) :
  R (fy (dR 7) (.seq (.ref kw)) (tB F) fuel 0 (ET ns a kx kw t n (some (.str x)) a7 a8) Ω):=by
 have A:kw≠t:=λe=>by rw[e,C]at s;cases s
 refine dY (ds:=g.map .str) (λi q c=>∃b a7 a8,q=ET ns a kx kw t n (some (.str x)) a7 a8/\b.length<=kvs.length+i/\i<=g.length/\i_ b (λy u=>P y u\/(y=x/\u∈g.take i))/\ly b ((g.take i).foldl (λK w=>vV K (x,w)) z)/\c[t]?=some (.dT b)/\aL [t] Ω c) ?_ ?_ ?_ fuel 0 _ _ (by unfold fuel;simp;omega) (Nat.zero_le _) ⟨kvs,a7,a8,rfl,Nat.le_refl _,Nat.zero_le _,J.imp (by simp),by simpa using L,C,aL.refl⟩
 .rintro i q c ⟨_,_,_,_,_,_,_,_,_,K⟩
  rw[gZ,cf,bf (K.get _ _ s (by simp[A]))]
 .rintro i d q c N ⟨b,o,j,rfl,k,O,p,f,l,K⟩
  obtain⟨w,m,rfl⟩:=rV N;have Q:i<g.length:=(List.getElem?_eq_some_iff.mp m).1;refine⟨_,rfl,?_⟩;obtain⟨v,E,S,T,v1,e,B,U⟩:=HW r G (kx:=kx) (kw:=kw) (x:=x) (w:=w) (a8:=j) H I d0 d1 l (by omega)
  show lb (tB F [some (SC ns),some (.int a),some (.ref kx),some (.ref kw),some (.ref t),some (.int n),some (.str x),some (.str w),j] c) _ _
  rw[e];refine⟨_,_,_,rfl,Nat.le_trans qv (by omega),by omega,(p.put T v1).imp λy u h=>?_,by rw[take_snoc m,List.foldl_append];exact f.put,B,K.trans U⟩
  rcases h with h|⟨rfl,h⟩
  .exact .inl (.inl h)
  .rcases qw m h with h|rfl
   .exact .inl (.inr ⟨rfl,h⟩)
   .exact .inr ⟨rfl,rfl⟩
 .rintro q c ⟨b,o,j,rfl,k,O,p,f,l,K⟩
  rw[List.length_map]at k p f;rw[List.take_length]at p f;exact M b o j c k p f l K
theorem zb(o:eM δ F)(Z:ns.length<=63){a:Int}{kx kw:Nat}{xs g:List Str}(h0:0<=a)(h1:a<10000)(hx:Ω[kx]?=some (.lst (xs.map .str)))(hw:Ω[kw]?=some (.lst (g.map .str)))(bx:xs.length<=20)(bw:g.length<=20) :
  ∃b aD t,bh 9 4 (iZ F) [SC ns,.int a,.ref kx,.ref kw] Ω=.ok (.ref t) aD/\aD[t]?=some (.dT b)/\i_ b (λx w=>x∈xs/\w∈g)/\ly b (Ck xs g)/\b.length<=400/\aL [] Ω aD/\Ω.length<=t:=by
 rw[bo (by rfl)]
 have e0:aP 9 [SC ns,.int a,.ref kx,.ref kw]=[some (SC ns),some (.int a),some (.ref kx),some (.ref kw),none,none,none,none,none]:=rfl;rw[e0];obtain⟨p0,p1,hp⟩:=o ns a 3 Z h0 (by omega) (by omega)
 generalize δ ns a 3=p at *
 obtain⟨j,d0,d1,J⟩:∃j:Int,1<=j/\j<=9/\L2.gN [D.int 2,.int 4,.int 9] p=some (.int j):=by
  have:p=0\/p=1\/p=2:=by omega
  rcases this with rfl|rfl|rfl
  .exact⟨2,by omega,by omega,rfl⟩
  .exact⟨4,by omega,by omega,rfl⟩
  .exact⟨9,by omega,by omega,rfl⟩
 have ht:(Ω++[Cell.dT []])[Ω.length]?=some (.dT []):=a_;have K1:aL [] Ω (Ω++[Cell.dT []]):=aL.app;have r1:(aU 4 d_) [some (SC ns),some (.int a),some (.ref kx),some (.ref kw),none,none,none,none,none] Ω=.nx [some (SC ns),some (.int a),some (.ref kx),some (.ref kw),some (.ref Ω.length),none,none,none,none] (Ω++[Cell.dT []]):=rfl;generalize a0:Ω++[Cell.dT []]=f at *;have hg:(f++[Cell.lst [.int 2,.int 4,.int 9]])[f.length]?=some (.lst [.int 2,.int 4,.int 9]):=a_;have L:=cg hg J;have M:(f++[Cell.lst [.int 2,.int 4,.int 9]])[Ω.length]?=some (.dT []):=aE ht;have K2:aL [] f (f++[Cell.lst [.int 2,.int 4,.int 9]]):=aL.app
 have r2:(aU 5 (m2 aZ (mN dm (aa (ag (.int 2)) (aa (ag (.int 4)) (aa (ag (.int 9)) aq)))) (mN (bZ F) (aa (af 0) (aa (af 1) (aa (ag (.int 3)) aq)))))) [some (SC ns),some (.int a),some (.ref kx),some (.ref kw),some (.ref Ω.length),none,none,none,none] f=.nx (ET ns a kx kw Ω.length j none none none) (f++[Cell.lst [.int 2,.int 4,.int 9]]):=by
  simp[az,hp,L,ET]
 generalize b0:f++[Cell.lst [.int 2,.int 4,.int 9]]=k at *;have N:=K1.trans K2;have s:=N.get _ _ hx (by simp)
 have O:=N.get _ _ hw (by simp)
 have P:kx≠Ω.length:=λe=>by have:=fX hx;omega
 have Q:kw≠Ω.length:=λe=>by have:=fX hw;omega
 have l:dZ (af 2) (ET ns a kx kw Ω.length j none none none) k=.ok (.seq (.ref kx)) k:=by
  simp[ET,fG (x:=.ref kx) (by rw[cf,bf s])]
 unfold iZ;rw[ax,r1,aQ,ax,r2,aQ,ax,fW,l,jJ]
 refine dY (R:=λr=>∃b aD t,cG (sq r _)=.ok (.ref t) aD/\aD[t]?=some (.dT b)/\i_ b (λx w=>x∈xs/\w∈g)/\ly b (Ck xs g)/\b.length<=400/\aL [] Ω aD/\Ω.length<=t) (ds:=xs.map .str)
  (λi I c=>∃b S z A,I=ET ns a kx kw Ω.length j S z A/\b.length<=i*g.length/\i<=xs.length/\i_ b (λy u=>y∈xs.take i/\u∈g)/\ly b (Ck (xs.take i) g)/\c[Ω.length]?=some (.dT b)/\aL [Ω.length] k c) ?_ ?_ ?_ fuel 0 _ _ (by unfold fuel;simp;omega) (Nat.zero_le _) ⟨[],none,none,none,rfl,by simp,Nat.zero_le _,λy u h=>by simp at h,⟨[],rfl,rfl⟩,M,aL.refl⟩
 .rintro i I c ⟨_,_,_,_,_,_,_,_,_,_,K⟩
  rw[gZ,cf,bf (K.get _ _ s (by simp[P]))]
 .rintro i d I c hd ⟨b,S,z,A,rfl,B,hi,C,E,m,K⟩
  obtain⟨x,n,rfl⟩:=rV hd;have c0:i<xs.length:=(List.getElem?_eq_some_iff.mp n).1;have hm:i*g.length<=20*20:=Nat.mul_le_mul (by omega) bw
  refine⟨_,rfl,?_⟩;have G:=K.get _ _ O (by simp[Q])
  have l:dZ (af 3) (ET ns a kx kw Ω.length j (some (.str x)) z A) c=.ok (.seq (.ref kw)) c:=by
   simp[ET,fG (x:=.ref kw) (by rw[cf,bf G])]
  show lb ((ao (hI (dR 7) (dZ (af 3)) (tB F)) au) (ET ns a kx kw Ω.length j (some (.str x)) z A) c) _ _
  rw[ax,fW,l,jJ];refine MF (R:=λr=>lb (sq r au) _ _) o Z h0 h1 d0 d1 G m C E (by omega) ?_
  intro H T U f0 g0 V X Y K4;rw[aQ];refine⟨H,_,T,U,rfl,by rw[Nat.succ_mul];omega,by omega,V.imp λy u h=>?_,by rw[take_snoc n];unfold Ck;rw[List.foldl_append];exact X,Y,K.trans K4⟩
  rcases qw n h.1 with q|rfl
  .exact .inl ⟨q,h.2⟩
  .exact .inr ⟨rfl,h.2⟩
 .rintro I c ⟨b,S,z,A,rfl,B,hi,C,E,m,K⟩
  rw[List.length_map]at B C E;rw[List.take_length]at C E;have hm:xs.length*g.length<=20*20:=Nat.mul_le_mul bx bw;refine⟨b,c,Ω.length,?_,m,C,E,by omega,N.new K (by simp),Nat.le_refl _⟩
  simp[ET]
end
structure Ad where
 (kx kw t0 t1 tl nw ak fn f S A b S' A' kn rd:Nat)
def Ad.Ord(a:Ad):Prop:=a.kx<a.t0/\a.kw<a.t0/\a.t0<a.t1/\a.t1<a.tl/\a.tl<a.nw/\a.nw<a.ak/\a.ak<a.fn/\a.fn<a.f/\a.f<a.S/\a.S<a.A/\a.A<a.b/\a.b<a.S'/\a.S'<a.A'/\a.A'<a.kn/\a.kn<a.rd
structure J(Ω:aI)(a:Ad)(xs ws:List Str)(l0 l1:PD)(n:Int)(lk ls:PD)(rs:List (Str×Str)):Prop where
 hx:Ω[a.kx]?=some (.lst (xs.map .str))
 hw:Ω[a.kw]?=some (.lst (ws.map .str))
 h0:Ω[a.t0]?=some (.dT (enc l0))
 h1:Ω[a.t1]?=some (.dT (enc l1))
 htl:Ω[a.tl]?=some (.lst [.ref a.t0,.ref a.t1])
 hnw:Ω[a.nw]?=some (.lst [.int n])
 hak:Ω[a.ak]?=some (.lst (rs.map pT))
 hfn:Ω[a.fn]?=some (.fn 0 [.ref a.ak,.ref a.nw,.ref a.tl])
 fa:de Ω a.fn a.f a.S a.A (enc ls) rs
 fb:de Ω a.fn a.b a.S' a.A' [] []
 hkn:Ω[a.kn]?=some (.dT (enc lk))
 hrd:Ω[a.rd]?=some (.lst (rs.map pT))
 o:a.Ord
abbrev MH(a:Ad):List Nat:=[a.kn,a.rd,a.ak,a.S,a.A]
section
variable{Ω aD:aI}{a:Ad}{xs ws:List Str}{l0 l1 lk ls PH ls':PD}{n v:Int}{rs rs':List (Str×Str)}{x w:Str}
theorem J.up(h:J Ω a xs ws l0 l1 n lk ls rs)(K:aL (MH a) Ω aD)(b:aD[a.kn]?=some (.dT (enc PH)))(d:aD[a.rd]?=some (.lst (rs'.map pT)))(e:aD[a.ak]?=some (.lst (rs'.map pT)))(f:aD[a.S]?=some (.dT (enc ls')))(i:aD[a.A]?=some (.lst (rs'.map pT))):J aD a xs ws l0 l1 n PH ls' rs':=by
 have o:=h.o;unfold Ad.Ord at o;have g:∀k c,Ω[k]?=some c->(k≠a.kn/\k≠a.rd/\k≠a.ak/\k≠a.S/\k≠a.A)->aD[k]?=some c:=λk c q z=>K.get k c q (by simp;omega)
 exact⟨g _ _ h.hx (by omega),g _ _ h.hw (by omega),g _ _ h.h0 (by omega),g _ _ h.h1 (by omega),g _ _ h.htl (by omega),g _ _ h.hnw (by omega),e,g _ _ h.hfn (by omega),⟨g _ _ h.fa.hf (by omega),f,i⟩,⟨g _ _ h.fb.hf (by omega),g _ _ h.fb.hS (by omega),g _ _ h.fb.hA (by omega)⟩,b,d,h.o⟩
theorem J.app(h:J Ω a xs ws l0 l1 n lk ls rs){l:aI}:J (Ω++l) a xs ws l0 l1 n lk ls rs:=h.up aL.app (aE h.hkn) (aE h.hrd) (aE h.hak) (aE h.fa.hS) (aE h.fa.hA)
variable{F F2 F4:List D->Out Rs}
def MI:EM:=(m2 aZ (mN dm (aa (ag (.int 3)) (aa (m1 Au (ag (.int 1))) (aa (ag .non) (aa (ag (.bl true)) (aa (ag (.bl false)) (aa (ag (.str "1")) (aa (mN dm (aa (af 9) aq)) (aa (m2 (aJ .Pow) (ag (.int 10)) (ag (.int 40))) aq))))))))) (m2 (aJ .Mod) (af 1) (ag (.int 8))))
abbrev vW(i:Nat):AM:=aa (m2 aZ (af i) (ag (.int 0))) (aa (m2 aZ (af i) (ag (.int 1))) aq)
abbrev IF:b_:=bh 3 3 (cStr (bh 3 3 oJ) [lj 2 Cb])
def Lb(F2:List D->Out Rs):SM:=ao (eJ (m2 (bg .Is) (cL kX nW (af 6) (aa (af 3) aq)) (ag .non))
 (ao (dS (af 6) (af 3) (m2 aZ (af 5) (af 3)))
 (ao (gF (cL pM cX (af 7) (aa (af 3) aq)))
 au))
 au)
 (ao (cu (mN (cm (bh 2 2 (oE F2))) (aa (cO "Facts" "strength" IF (af 2) (vW 3)) (aa (m2 aZ (af 6) (af 3)) aq))))
 au)
def MJ(F4:List D->Out Rs):SM:=ao (gF (cO "Facts" "tell" (bh 4 4 (zx F4 cy)) (af 2) (aa (m2 aZ (af 3) (ag (.int 0))) (aa (m2 aZ (af 3) (ag (.int 1))) (aa (af 9) aq)))))
 (ao (dS (af 6) (af 3) (af 9))
 au)
def MK:SM:=ao (gF (cO "Facts" "forget" (bh 3 3 FW) (af 2) (vW 3)))
 (ao (dS (af 6) (af 3) (ag .non))
 au)
def IG(F4:List D->Out Rs):SM:=ao (cu (mN (cm (Fo F4)) (aa (af 2) (aa (af 3) (aa MI aq))))) au
def zc(F F2 F4:List D->Out Rs):SM:=
 (ao (pX [6,7] (af 4))
 (ao (aU 8 (mN (bZ F) (aa (af 0) (aa (m2 (aJ .Add) (af 1) (ag (.int 140))) (aa (ag (.int 7)) aq)))))
 (ao (aU 9 (mN (bZ F) (aa (af 0) (aa (m2 (aJ .Add) (af 1) (ag (.int 210))) (aa (ag (.int 3)) aq)))))
 (ao (eJ (m2 (bg .Lt) (af 8) (ag (.int 3))) (Lb F2) au)
 (ao (eJ (m2 (bg .Eq) (af 8) (ag (.int 4))) (MJ F4) au)
 (ao (eJ (m2 (bg .Eq) (af 8) (ag (.int 5))) MK au)
 (ao (eJ (m2 (bg .Eq) (af 8) (ag (.int 6))) (IG F4) au)
 (ao (cu (ag (.bl true)))
 au))))))))
abbrev EP(ns:List Int)(k:Int)(a:Ad)(x w:Str)(t:Nat)(r o:Int):aS:=[some (SC ns),some (.int k),some (.ref a.f),some (cU x w),some (.tup [.ref a.kn,.ref a.rd]),some (.ref t),some (.ref a.kn),some (.ref a.rd),some (.int r),some (.int o)]
variable{ns:List Int}{k r o:Int}{t:Nat}{lt:PD}
theorem i0:aZ (cU x w) (.int 0) Ω=.ok (.str x) Ω:=fF rfl
theorem i1:aZ (cU x w) (.int 1) Ω=.ok (.str w) Ω:=fF rfl
theorem oF{q:Nat}{l:PD}{d:D}(h:Ω[q]?=some (.dT (enc l)))(a:l.length<=900):fA (.ref q) (cU x w) d Ω=some (Ω.set q (.dT (enc (bE l (x,w) d)))):=by
 simp only[fA,h,eW];rw[if_pos (az (by rw[jf];omega)),je]
def zy(aD:aI)(a:Ad)(xs e:List Str)(f g:PD)(n:Int)(m:Nat):Prop:=∃b c d,J aD a xs e f g n b c d/\Rel b c/\b.length<=m/\c.length<=m/\d.length<=m
theorem lz{l:PD}{k:Str×Str}{d:D}{m:Nat}(h:l.length<=m):(bE l k d).length<=m+1:=Nat.le_trans qv (by omega)
theorem IH{m:Nat}(h:J Ω a xs ws l0 l1 n lk ls rs)(R:Rel lk ls)(b1:lk.length<=m)(b2:ls.length<=m)(b3:rs.length<=m)(hm:m<=100)(P:L2.gN [D.ref a.t0,.ref a.t1] n=some (.ref t))(I:Ω[t]?=some (.dT (enc lt)))(Q:t=a.t0\/t=a.t1)(K:aT lt (x,w)=some (.int v))(v0:0<=v)(v1:v<=2)(L:∀i:Int,F2 [.int i]=.ok (false,.bl true)) :
  ∃aD,Lb F2 (EP ns k a x w t r o) Ω=.rt (.bl true) aD/\zy aD a xs ws l0 l1 n (m+1):=by
 have T:=h.o;unfold Ad.Ord at T;have z:=R.eq (x,w);have s:=jc (a:=x) (b:=w) h.hkn;rw[cj]at s
 by_cases c:KW (aT lk (x,w))=none
 .have U:(aT lk (x,w)).getD .non=.non:=by
   cases q:aT lk (x,w)with
   |none=>rfl
   |some d=>rcases R.vk _ _ q with rfl|⟨i,_,_,rfl⟩<;>rw[q]at c<;>first|rfl|cases c
  rw[U]at s;have V:=jw (a:=x) (b:=w) (.inl I) (by rw[cj];exact K)
  have X:=oF (x:=x) (w:=w) (d:=.int v) h.hkn (by omega)
  have Y:=aV (e:=.dT (enc (bE lk (x,w) (.int v)))) h.hkn;have Z:aL (MH a) Ω (Ω.set a.kn (.dT (enc (bE lk (x,w) (.int v))))):=aL.set (by simp)
  have j:J (Ω.set a.kn (.dT (enc (bE lk (x,w) (.int v))))) a xs ws l0 l1 n (bE lk (x,w) (.int v)) ls rs:=h.up Z Y (aj h.hrd (by omega)) (aj h.hak (by omega)) (aj h.fa.hS (by omega)) (aj h.fa.hA (by omega))
  have t1:(Ω.set a.kn (.dT (enc (bE lk (x,w) (.int v)))))[t]?=some (.dT (enc lt)):=aj I (by omega)
  generalize Ω.set a.kn (.dT (enc (bE lk (x,w) (.int v))))=g at *;have M:=dB (d:=cU x w) j.hrd (by simp;omega)
  have ee:rs.map pT++[cU x w]=(rs++[(x,w)]).map pT:=by simp
  rw[ee]at M;have g2:=aV (e:=.lst ((rs++[(x,w)]).map pT)) j.hrd;have il:=fY j.hrd;have K2:aL (MH a) g (g.set a.rd (.lst ((rs++[(x,w)]).map pT))):=aL.set (by simp)
  have N:de (g.set a.rd (.lst ((rs++[(x,w)]).map pT))) a.fn a.f a.S a.A (enc ls) rs:=j.fa.keep (aL.set (fp:=[a.rd]) (by simp)) (by simp;omega) (by simp;omega) (by simp;omega)
  have T2:yS (g.set a.rd (.lst ((rs++[(x,w)]).map pT))) a.fn a.ak a.nw a.tl a.t0 a.t1 n rs:=⟨aj j.hfn (by omega),aj j.hak (by omega),aj j.hnw (by omega),aj j.htl (by omega),by omega,by omega⟩
  have t2:(g.set a.rd (.lst ((rs++[(x,w)]).map pT)))[t]?=some (.dT (enc lt)):=aj t1 (by omega)
  have B:=aj (e:=.lst ((rs++[(x,w)]).map pT)) j.hkn (show a.kn≠a.rd by omega)
  generalize g.set a.rd (.lst ((rs++[(x,w)]).map pT))=a0 at *;obtain⟨l,C,F3,q3,E⟩:=uj (a:=x) (b:=w) N T2 P (.inl t2) (by rw[cj];exact K) (by omega) (by omega) (by rw[jf];omega) (by omega) (by rw[cj,z];exact c)
  rw[je]at F3;have y:=E.get _ _ B (by simp;omega)
  have J3:J l a xs ws l0 l1 n (bE lk (x,w) (.int v)) (bE ls (x,w) (.int v)) (rs++[(x,w)]):=j.up (K2.trans (E.sub (by simp))) y (E.get _ _ g2 (by simp;omega)) q3 F3.hS F3.hA
  have G:=jw (a:=x) (b:=w) (d:=.int v) (.inl y) (by rw[cj,c_,if_pos rfl])
  have H:=lr (Ω:=l) (W:=F2) L (.inr ⟨v,rfl⟩);have p:=hO (m:="strength") (F:=IF) (as:=vW 3) (ρ:=EP ns k a x w t r o) (i:=2) rfl N.hf rfl;refine⟨l,?_,_,_,_,J3,R.put v0 v1,lz b1,lz b2,by simp;omega⟩
  unfold Lb;simp[cL,fJ h.hkn,s,bN,isD,dS,V,X,il,M,p,i0,i1,C,G,H]
 .obtain⟨u,O⟩:∃u:Int,aT lk (x,w)=some (.int u):=by
   cases q:aT lk (x,w)with
   |none=>rw[q]at c;exact absurd rfl c
   |some d=>
    rcases R.vk _ _ q with rfl|⟨i,_,_,rfl⟩
    .rw[q]at c;exact absurd rfl c
    .exact⟨i,rfl⟩
  rw[O]at s z;have C:=Ce (CL:=[lj 2 Cb]) (a:=x) (b:=w) h.fa (by rw[cj];exact z)
  have G:=jw (a:=x) (b:=w) (d:=.int u) (.inl h.hkn) (by rw[cj];exact O)
  have H:=lr (Ω:=Ω) (W:=F2) L (.inr ⟨u,rfl⟩);have p:=hO (m:="strength") (F:=IF) (as:=vW 3) (ρ:=EP ns k a x w t r o) (i:=2) rfl h.fa.hf rfl;refine⟨Ω,?_,_,_,_,h,R,by omega,by omega,by omega⟩
  unfold Lb;simp[cL,fJ h.hkn,s,bN,isD,p,i0,i1,C,G,H]
theorem uq{q:Nat}{c:Cell}(h:J Ω a xs ws l0 l1 n lk ls rs):(q=a.kn->∀l,c=.dT (enc l)->J (Ω.set q c) a xs ws l0 l1 n l ls rs)/\(q=a.S->∀l,c=.dT (enc l)->J (Ω.set q c) a xs ws l0 l1 n lk l rs):=by
 have d:=h.o;unfold Ad.Ord at d;refine⟨λe l b=>?_,λe l b=>?_⟩<;>subst e b
 .exact h.up (aL.set (by simp)) (aV h.hkn) (aj h.hrd (by omega)) (aj h.hak (by omega)) (aj h.fa.hS (by omega)) (aj h.fa.hA (by omega))
 .exact h.up (aL.set (by simp)) (aj h.hkn (by omega)) (aj h.hrd (by omega)) (aj h.hak (by omega)) (aV h.fa.hS) (aj h.fa.hA (by omega))
theorem II{m:Nat}(h:J Ω a xs ws l0 l1 n lk ls rs)(R:Rel lk ls)(b1:lk.length<=m)(b2:ls.length<=m)(b3:rs.length<=m)(z:m<=100)(j:0<=o)(l:o<=2)(p:F4 [.int o]=.ok (false,.bl true)) :
  ∃aD,MJ F4 (EP ns k a x w t r o) Ω=.nx (EP ns k a x w t r o) aD/\zy aD a xs ws l0 l1 n (m+1):=by
 have f:=Im (a:=x) (b:=w) (r:=cy) h.fa p (by rw[jf];omega)
 rw[je]at f;have g:=(uq (q:=a.S) (c:=.dT (enc (bE ls (x,w) (.int o)))) h).2 rfl _ rfl;have e:=hO (m:="tell") (F:=bh 4 4 (zx F4 cy)) (as:=aa (m2 aZ (af 3) (ag (.int 0))) (aa (m2 aZ (af 3) (ag (.int 1))) (aa (af 9) aq))) (ρ:=EP ns k a x w t r o) (i:=2) rfl h.fa.hf rfl;generalize Ω.set a.S (.dT (enc (bE ls (x,w) (.int o))))=s at *;have u:=oF (x:=x) (w:=w) (d:=.int o) g.hkn (by omega)
 have y:=(uq (q:=a.kn) (c:=.dT (enc (bE lk (x,w) (.int o)))) g).1 rfl _ rfl;refine⟨_,?_,_,_,_,y,R.put j l,lz b1,lz b2,by omega⟩
 unfold MJ;simp[e,i0,i1,f,dS,u]
theorem IJ{m:Nat}(h:J Ω a xs ws l0 l1 n lk ls rs)(R:Rel lk ls)(b1:lk.length<=m)(b2:ls.length<=m)(b3:rs.length<=m)(s:m<=100) :
  ∃aD,MK (EP ns k a x w t r o) Ω=.nx (EP ns k a x w t r o) aD/\zy aD a xs ws l0 l1 n (m+1):=by
 have f:=Io (a:=x) (b:=w) h.fa;rw[yT]at f;have g:=(uq (q:=a.S) (c:=.dT (enc (dn ls (x,w)))) h).2 rfl _ rfl;have e:=hO (m:="forget") (F:=bh 3 3 FW) (as:=vW 3) (ρ:=EP ns k a x w t r o) (i:=2) rfl h.fa.hf rfl;generalize Ω.set a.S (.dT (enc (dn ls (x,w))))=j at *;have l:=oF (x:=x) (w:=w) (d:=.non) g.hkn (by omega)
 have p:=(uq (q:=a.kn) (c:=.dT (enc (bE lk (x,w) .non))) g).1 rfl _ rfl;refine⟨_,?_,_,_,_,p,R.forget,lz b1,Nat.le_trans (List.length_filter_le _ _) (by omega),by omega⟩
 unfold MK;simp[e,i0,i1,f,dS,l]
structure Fx(F4:List D->Out Rs):Prop where
 yes:∀i:Int,0<=i->i<=2->F4 [.int i]=.ok (false,.bl true)
 no:∀i:Int,(i<0\/2<i)->F4 [.int i]=.ok (false,.bl false)
 non:F4 [.non]=.ok (false,.bl false)
 bl:∀b,F4 [.bl b]=.ok (false,.bl false)
 str:∀z,F4 [.str z]=.ok (false,.bl false)
 lst:∀i:Int,F4 [.lst [.int i]]=.ok (false,.bl false)
theorem IK{m:Nat}(h:J Ω a xs ws l0 l1 n lk ls rs)(R:Rel lk ls)(b1:lk.length<=m)(b2:ls.length<=m)(b3:rs.length<=m)(k0:0<=k)(j:Fx F4) :
  ∃aD,IG F4 (EP ns k a x w t r o) Ω=.rt (.bl true) aD/\zy aD a xs ws l0 l1 n (m+1):=by
 have z:dk .Pow (.int 10) (.int 40)=.ok (false,.int 10000000000000000000000000000000000000000):=rfl;have A:dk .Mod (.int k) (.int 8)=.ok (false,.int (k%8)):=by simp[dk]
 generalize g:([.int 3,.int (-1),.non,.bl true,.bl false,.str "1",.ref Ω.length,.int 10000000000000000000000000000000000000000]:List D)=p;generalize i:Ω++[.lst [.int o],.lst p]=b;have u:J b a xs ws l0 l1 n lk ls rs:=by rw[←i];exact h.app
 have B:b[Ω.length]?=some (.lst [.int o]):=by rw[←i];exact a_
 have C:b[Ω.length+1]?=some (.lst p):=by rw[←i,List.getElem?_append_right (by omega)];simp
 have E:∀d,L2.gN p (k%8)=some d->MI (EP ns k a x w t r o) Ω=.ok d b:=λd q=>by
  have:=cg C q;unfold MI;have y:small p.length=true:=az (by rw[←g];simp)
  simp[az,z,A,Au,g,i,this,y]
 have s:∀d l,L2.gN p (k%8)=some d->Fo F4 [.ref a.f,cU x w,d] b=.ok (.bl true) l->IG F4 (EP ns k a x w t r o) Ω=.rt (.bl true) l:=λd l q e=>by
  have:=E d q;unfold IG;simp[this,e]
 have F:k%8=0\/k%8=1\/k%8=2\/k%8=3\/k%8=4\/k%8=5\/k%8=6\/k%8=7:=by omega
 have c:∀d,Iw d=true->L2.gN p (k%8)=some d->F4 [d]=.ok (false,.bl false)->∃aD,IG F4 (EP ns k a x w t r o) Ω=.rt (.bl true) aD/\zy aD a xs ws l0 l1 n (m+1):=λd q G H=>⟨b,s d b G (Iy u.fa q H),_,_,_,u,R,by omega,by omega,by omega⟩
 rcases F with e|e|e|e|e|e|e|e
 .exact c (.int 3) rfl (by rw[e,←g];rfl) (j.no 3 (by omega))
 .exact c (.int (-1)) rfl (by rw[e,←g];rfl) (j.no (-1) (by omega))
 .exact c .non rfl (by rw[e,←g];rfl) j.non
 .exact c (.bl true) rfl (by rw[e,←g];rfl) (j.bl true)
 .exact c (.bl false) rfl (by rw[e,←g];rfl) (j.bl false)
 .exact c (.str "1") rfl (by rw[e,←g];rfl) (j.str "1")
 .exact⟨_,s (.ref Ω.length) _ (by rw[e,←g];rfl) (Fq u.fa B (j.lst o)),_,_,_,u.app,R,by omega,by omega,by omega⟩
 .exact c (.int 10000000000000000000000000000000000000000) rfl (by rw[e,←g];rfl) (j.no _ (by omega))
variable{δ:List Int->Int->Int->Int}
theorem Fy{m:Nat}(l:eM δ F)(y:ns.length<=63)(h:J Ω a xs ws l0 l1 n lk ls rs)(R:Rel lk ls)(b1:lk.length<=m)(b2:ls.length<=m)(b3:rs.length<=m)(q:m<=100)(E:L2.gN [D.ref a.t0,.ref a.t1] n=some (.ref t))(G:Ω[t]?=some (.dT (enc lt)))(s:t=a.t0\/t=a.t1)(H:aT lt (x,w)=some (.int v))(v0:0<=v)(v1:v<=2)(I:∀i:Int,F2 [.int i]=.ok (false,.bl true))(k0:0<=k)(k1:k<=63)(z:Fx F4) :
  ∃aD,bh 10 6 (zc F F2 F4) [SC ns,.int k,.ref a.f,cU x w,.tup [.ref a.kn,.ref a.rd],.ref t] Ω=.ok (.bl true) aD/\zy aD a xs ws l0 l1 n (m+1):=by
 obtain⟨Q,S,K⟩:=l ns (k+140) 7 y (by omega) (by omega) (by omega)
 obtain⟨B,T,L⟩:=l ns (k+210) 3 y (by omega) (by omega) (by omega)
 generalize δ ns (k+140) 7=r at *;generalize δ ns (k+210) 3=o at *;rw[bo (by rfl)]
 show ∃aD,cG (zc F F2 F4 [some (SC ns),some (.int k),some (.ref a.f),some (cU x w),some (.tup [.ref a.kn,.ref a.rd]),some (.ref t),none,none,none,none] Ω)=.ok (.bl true) aD/\_
 have M:pX [6,7] (af 4) [some (SC ns),some (.int k),some (.ref a.f),some (cU x w),some (.tup [.ref a.kn,.ref a.rd]),some (.ref t),none,none,none,none] Ω=.nx [some (SC ns),some (.int k),some (.ref a.f),some (cU x w),some (.tup [.ref a.kn,.ref a.rd]),some (.ref t),some (.ref a.kn),some (.ref a.rd),none,none] Ω:=rfl;have N:aU 8 (mN (bZ F) (aa (af 0) (aa (m2 (aJ .Add) (af 1) (ag (.int 140))) (aa (ag (.int 7)) aq)))) [some (SC ns),some (.int k),some (.ref a.f),some (cU x w),some (.tup [.ref a.kn,.ref a.rd]),some (.ref t),some (.ref a.kn),some (.ref a.rd),none,none] Ω=.nx [some (SC ns),some (.int k),some (.ref a.f),some (cU x w),some (.tup [.ref a.kn,.ref a.rd]),some (.ref t),some (.ref a.kn),some (.ref a.rd),some (.int r),none] Ω:=by simp[K]
 have O:aU 9 (mN (bZ F) (aa (af 0) (aa (m2 (aJ .Add) (af 1) (ag (.int 210))) (aa (ag (.int 3)) aq)))) [some (SC ns),some (.int k),some (.ref a.f),some (cU x w),some (.tup [.ref a.kn,.ref a.rd]),some (.ref t),some (.ref a.kn),some (.ref a.rd),some (.int r),none] Ω=.nx (EP ns k a x w t r o) Ω:=by simp[L]
 unfold zc;rw[ax,M,aQ,ax,N,aQ,ax,O,aQ]
 by_cases C:r<3
 .obtain⟨b,d,g⟩:=IH (ns:=ns) (k:=k) (r:=r) (o:=o) h R b1 b2 b3 q E G s H v0 v1 I
  refine⟨b,?_,g⟩;simp[bN,C,d]
 .have P:∀A:SM,eJ (m2 (bg .Lt) (af 8) (ag (.int 3))) A au (EP ns k a x w t r o) Ω=.nx (EP ns k a x w t r o) Ω:=λA=>by simp[bN,C]
  rw[ax,P,aQ]
  have p:∀(j:Int) (A:SM) (c:aI),eJ (m2 (bg .Eq) (af 8) (ag (.int j))) A au (EP ns k a x w t r o) c=if r=j then A (EP ns k a x w t r o) c else .nx (EP ns k a x w t r o) c:=λj A c=>by
   by_cases e:r=j<;>simp[bN,aH,du,e]
  have u:r=3\/r=4\/r=5\/r=6:=by omega
  simp only[ax,p];rcases u with rfl|rfl|rfl|rfl
  .exact⟨Ω,by simp,lk,ls,rs,h,R,by omega,by omega,by omega⟩
  .obtain⟨b,d,g⟩:=II (ns:=ns) (k:=k) (x:=x) (w:=w) (t:=t) (r:=4) h R b1 b2 b3 q B (by omega) (z.yes o B (by omega))
   exact⟨b,by simp[d,p],g⟩
  .obtain⟨b,d,g⟩:=IJ (ns:=ns) (k:=k) (x:=x) (w:=w) (t:=t) (r:=5) (o:=o) h R b1 b2 b3 q
   exact⟨b,by simp[d,p],g⟩
  .obtain⟨b,d,g⟩:=IK (ns:=ns) (k:=k) (x:=x) (w:=w) (t:=t) (r:=6) (o:=o) h R b1 b2 b3 k0 z
   exact⟨b,by simp[d,p],g⟩
end
section
variable{Ω aD:aI}{a:Ad}{xs ws:List Str}{l0 l1 lk ls:PD}{n v:Int}{rs:List (Str×Str)}{x w:Str}{F F2 F4:List D->Out Rs}{ns:List Int}{k:Int}{δ:List Int->Int->Int->Int}{p8 p9:Option D}
abbrev EL(ns:List Int)(a:Ad)(p8 p9:Option D):aS:=[some (SC ns),some (.ref a.kx),some (.ref a.kw),some (.ref a.fn),some (.ref a.f),some (.ref a.b),some (.ref a.kn),some (.ref a.rd),p8,p9,some (.ref a.ak),some (.ref a.nw),some (.ref a.tl)]
abbrev ur:SM:=ao (cu (ag (.bl false))) au
abbrev Dh:b_:=bh 1 1 Ij
abbrev QQ:b_:=dr (bh 6 3 (FX (dr (bh 2 2 vS))))
def bA(F:List D->Out Rs):SM:=(eJ (m2 (bg .Eq) (af 8) (m2 (aJ .Add) (ag (.int 10)) (mN (bZ F) (aa (af 0) (aa (ag (.int 9)) (aa (ag (.int 12)) aq))))))
 (ao (dS (af 11) (ag (.int 0)) (ag (.int 1)))
 au)
 au)
def bB(F:List D->Out Rs):SM:=(aU 9 (mN lK (aa (m2 aZ (af 1) (mN (bZ F) (aa (af 0) (aa (af 8) (aa (mN (dc .len) (aa (af 1) aq)) aq))))) (aa (m2 aZ (af 2) (mN (bZ F) (aa (af 0) (aa (m2 (aJ .Add) (af 8) (ag (.int 70))) (aa (mN (dc .len) (aa (af 2) aq)) aq))))) aq))))
def bC(F F2 F4:List D->Out Rs):SM:=(eJ (gf (mN (cm (bh 10 6 (zc F F2 F4))) (aa (af 0) (aa (af 8) (aa (af 4) (aa (af 9) (aa (mN lK (aa (af 6) (aa (af 7) aq))) (aa (m2 aZ (af 12) (m2 aZ (af 11) (ag (.int 0)))) aq)))))))) ur au)
def Ga:EM:=(m2 (bg .Eq) (m2 (aJ .Mod) (af 8) (ag (.int 2))) (ag (.int 1)))
def Gb:EM:=(gf (mN (cm QQ) (aa (af 4) (aa (af 1) (aa (af 6) aq)))))
def Gd:EM:=(gf (mN (cm (bh 2 2 vU)) (aa (cO "Facts" "reads" Dh (af 4) aq) (aa (af 7) aq))))
def ML(F2:List D->Out Rs):EM:=(gf (mN (cm (bh 2 2 (oE F2))) (aa (cO "Facts" "known" (bh 3 3 oJ) (af 4) (vW 9)) (aa (cL kX nW (af 6) (aa (af 9) aq)) aq))))
def bL(F F2 F4:List D->Out Rs):SM:=
 ao (bA F) (ao (bB F) (ao (bC F F2 F4) (ao (eJ (fQ Ga Gb) ur au) (ao (eJ (fQ Ga Gd) ur au) (ao (eJ (ML F2) ur au) (ao (eJ (vd Gd (vd (m2 (bg .NotEq) (af 10) (af 7)) Gb)) ur au) au))))))
theorem IL(b:eM δ F)(i:ns.length<=63)(h:J Ω a xs ws l0 l1 n lk ls rs)(j:n=0\/n=1):∃aD d,bA F (EL ns a (some (.int k)) p9) Ω=.nx (EL ns a (some (.int k)) p9) aD/\J aD a xs ws l0 l1 d lk ls rs/\(d=0\/d=1):=by
 obtain⟨m,p,f⟩:=b ns 9 12 i (by omega) (by omega) (by omega)
 generalize δ ns 9 12=r at *
 by_cases e:k=10+r
 .have l:fA (.ref a.nw) (.int 0) (.int 1) Ω=some (Ω.set a.nw (.lst [.int 1])):=by
   simp only[fA,h.hnw];rfl
  have o:=h.o;unfold Ad.Ord at o;have g:∀q c,Ω[q]?=some c->q≠a.nw->(Ω.set a.nw (.lst [.int 1]))[q]?=some c:=λq c e z=>aj e z
  refine⟨_,1,?_,⟨g _ _ h.hx (by omega),g _ _ h.hw (by omega),g _ _ h.h0 (by omega),g _ _ h.h1 (by omega),g _ _ h.htl (by omega),aV h.hnw,g _ _ h.hak (by omega),g _ _ h.hfn (by omega),⟨g _ _ h.fa.hf (by omega),g _ _ h.fa.hS (by omega),g _ _ h.fa.hA (by omega)⟩,⟨g _ _ h.fb.hf (by omega),g _ _ h.fb.hS (by omega),g _ _ h.fb.hA (by omega)⟩,g _ _ h.hkn (by omega),g _ _ h.hrd (by omega),h.o⟩,.inr rfl⟩
  unfold bA;simp[f,bN,aH,du,e,dS,l]
 .refine⟨Ω,n,?_,h,j⟩
  unfold bA;simp[f,bN,aH,du,e]
theorem zd{q:Nat}{us:List Str}(a:eM δ F)(c:ns.length<=63)(d:Ω[q]?=some (.lst (us.map .str)))(f:1<=us.length){i:Int}(i0:0<=i)(i1:i<1000):∃x∈us,∃r,F [SC ns,.int i,.int us.length]=.ok (false,.int r)/\aZ (.ref q) (.int r) Ω=.ok (.str x) Ω:=by
 obtain⟨g,h,e⟩:=a ns i us.length c i0 (by omega) (by omega)
 generalize δ ns i us.length=r at *;obtain⟨x,b⟩:∃x,us[r.toNat]?=some x:=⟨_,List.getElem?_eq_getElem (by omega)⟩
 have:=cg d (L2.gO (show(us.map D.str)[r.toNat]?=some (.str x)by simp[b]))
 rw[show((r.toNat:Nat):Int)=r by omega]at this
 exact⟨x,List.mem_of_getElem? b,r,e,this⟩
theorem IP(b:eM δ F)(c:ns.length<=63)(h:J Ω a xs ws l0 l1 n lk ls rs)(e:1<=xs.length)(f:1<=ws.length)(k0:0<=k)(k1:k<=63):∃x∈xs,∃w∈ws,bB F (EL ns a (some (.int k)) p9) Ω=.nx (EL ns a (some (.int k)) (some (cU x w))) Ω:=by
 obtain⟨x,g,r,j,l⟩:=zd b c h.hx e k0 (by omega)
 obtain⟨w,m,s,o,p⟩:=zd b c h.hw f (i:=k+70) (by omega) (by omega)
 have l1:=oq h.hx;have d:=oq h.hw;rw[List.length_map]at l1 d;refine⟨x,g,w,m,?_⟩;unfold bB;simp[l1,d,j,l,o,p,az]
theorem Di(h:J Ω a xs ws l0 l1 n lk ls rs)(d:rs.length<=900):∃l,Gd (EL ns a p8 p9) Ω=.ok (.bl false) (Ω++l):=by
 have e:=uk h.fa d;have f:(Ω++[.lst (rs.map pT)])[Ω.length]?=some (.lst (rs.map pT)):=a_;obtain⟨c,g⟩:=y_ f (aE (l:=[.lst (rs.map pT)]) h.hrd) d;have b:=hO (m:="reads") (F:=Dh) (as:=aq) (ρ:=EL ns a p8 p9) (i:=4) rfl h.fa.hf rfl;refine⟨[.lst (rs.map pT)]++[c],?_⟩;rw[←List.append_assoc];generalize Ω++[.lst (rs.map pT)]=j at *;unfold Gd;simp[b,e,g]
theorem ze(h:J Ω a xs ws l0 l1 n lk ls rs)(R:Rel lk ls)(b1:lk.length<64)(b2:ls.length<64)(b:xs.length<=100):∃l,Gb (EL ns a p8 p9) Ω=.ok (.bl false) (Ω++l):=by
 have o:=h.o;unfold Ad.Ord at o;obtain⟨l,e⟩:=Iu h.fa h.hx h.hkn (by omega) R b1 b2 b
 refine⟨l,?_⟩;generalize Ω++l=c at *;unfold Gb;simp[e]
theorem IQ(h:J Ω a xs ws l0 l1 n lk ls rs)(R:Rel lk ls)(g:∀i:Int,F2 [.int i]=.ok (false,.bl true)):ML F2 (EL ns a p8 (some (cU x w))) Ω=.ok (.bl false) Ω:=by
 have c:=mO (a:=x) (b:=w) h.fa;have e:=jc (a:=x) (b:=w) h.hkn;rw[cj]at c e;have j:=R.eq (x,w)
 obtain⟨d,k,l,o⟩:∃d,(d=.non\/∃i:Int,d=.int i)/\(aT ls (x,w)).getD .non=d/\(aT lk (x,w)).getD .non=d:=by
  rw[j];cases q:aT lk (x,w)with
  |none=>exact⟨.non,.inl rfl,rfl,rfl⟩
  |some d=>rcases R.vk _ _ q with rfl|⟨i,_,_,rfl⟩<;>first|exact⟨.non,.inl rfl,rfl,rfl⟩|exact⟨_,.inr ⟨i,rfl⟩,rfl,rfl⟩
 rw[l]at c;rw[o]at e;have p:=lr (Ω:=Ω) g k;have f:=hO (m:="known") (F:=bh 3 3 oJ) (as:=vW 9) (ρ:=EL ns a p8 (some (cU x w))) (i:=4) rfl h.fa.hf rfl;unfold ML;simp[f,i0,i1,c,cL,fJ h.hkn,e,p]
theorem Dj(k0:0<=k):∃b,Ga (EL ns a (some (.int k)) p9) Ω=.ok (.bl b) Ω:=⟨_,by unfold Ga;simp[dk,bN,aH,du];rfl⟩
theorem gJ{m:EM}{ρ:aS}(h:m ρ Ω=.ok (.bl false) aD):eJ m ur au ρ Ω=.nx ρ aD:=by simp[h]
def lA(l:PD)(xs a:List Str):Prop:=∀x∈xs,∀w∈a,∃v:Int,0<=v/\v<=2/\aT l (x,w)=some (.int v)
theorem zf(h:J Ω a xs ws l0 l1 n lk ls rs)(c:n=0\/n=1)(T0:lA l0 xs ws)(d:lA l1 xs ws):∃t b,L2.gN [D.ref a.t0,.ref a.t1] n=some (.ref t)/\Ω[t]?=some (.dT (enc b))/\(t=a.t0\/t=a.t1)/\lA b xs ws/\(b=l0\/b=l1):=by
 rcases c with rfl|rfl
 .exact⟨a.t0,l0,rfl,h.h0,.inl rfl,T0,.inl rfl⟩
 .exact⟨a.t1,l1,rfl,h.h1,.inr rfl,d,.inr rfl⟩
theorem IS{m:Nat}(g:eM δ F)(z:ns.length<=63)(h:J Ω a xs ws l0 l1 n lk ls rs)(P:n=0\/n=1)(R:Rel lk ls)(b1:lk.length<=m)(b2:ls.length<=m)(b3:rs.length<=m)(hm:m<=60)(A:1<=xs.length)(B:1<=ws.length)(Q:xs.length<=20)(T0:lA l0 xs ws)(S:lA l1 xs ws)(k0:0<=k)(k1:k<=63)(M:∀i:Int,F2 [.int i]=.ok (false,.bl true))(T:Fx F4) :
  ∃aD C D,bL F F2 F4 (EL ns a (some (.int k)) p9) Ω=.nx (EL ns a (some (.int k)) D) aD/\(C=0\/C=1)/\zy aD a xs ws l0 l1 C (m+1):=by
 obtain⟨E,s,U,p,q⟩:=IL (k:=k) (p9:=p9) g z h P;obtain⟨x,V,w,X,Y⟩:=IP (p9:=p9) g z p A B k0 k1;obtain⟨t,lt,N,Z,c3,c4,_⟩:=zf p q T0 S;obtain⟨v,v0,v1,hv⟩:=c4 x V w X;obtain⟨e,e3,j,o,f,G,u,d1,d2,d3⟩:=Fy (x:=x) (w:=w) g z p R b1 b2 b3 (by omega) N Z c3 hv v0 v1 M k0 k1 T
 have i1:=cg (i:=0) (d:=.int s) p.hnw rfl;have i2:=cg p.htl N;have s3:bC F F2 F4 (EL ns a (some (.int k)) (some (cU x w))) E=.nx (EL ns a (some (.int k)) (some (cU x w))) e:=gJ (by simp[az,i1,i2,e3])
 obtain⟨l4,e4⟩:=ze (ns:=ns) (p8:=some (.int k)) (p9:=some (cU x w)) G u (by omega) (by omega) (by omega)
 obtain⟨H,r⟩:=Dj (ns:=ns) (a:=a) (Ω:=e) (p9:=some (cU x w)) k0
 obtain⟨b,s4,I⟩:∃b,eJ (fQ Ga Gb) ur au (EL ns a (some (.int k)) (some (cU x w))) e=.nx (EL ns a (some (.int k)) (some (cU x w))) b/\J b a xs ws l0 l1 s j o f:=by
  cases H with
  |true=>exact⟨e++l4,gJ (by simp[r,e4]),G.app⟩
  |false=>exact⟨e,gJ (by simp[r]),G⟩
 obtain⟨l5,e5⟩:=Di (ns:=ns) (p8:=some (.int k)) (p9:=some (cU x w)) I (by omega)
 obtain⟨H,r⟩:=Dj (ns:=ns) (a:=a) (Ω:=b) (p9:=some (cU x w)) k0
 obtain⟨c,s5,K⟩:∃c,eJ (fQ Ga Gd) ur au (EL ns a (some (.int k)) (some (cU x w))) b=.nx (EL ns a (some (.int k)) (some (cU x w))) c/\J c a xs ws l0 l1 s j o f:=by
  cases H with
  |true=>exact⟨b++l5,gJ (by simp[r,e5]),I.app⟩
  |false=>exact⟨b,gJ (by simp[r]),I⟩
 have s6:=gJ (IQ (ns:=ns) (p8:=some (.int k)) (x:=x) (w:=w) K u M);obtain⟨L,e6⟩:=Di (ns:=ns) (p8:=some (.int k)) (p9:=some (cU x w)) K (by omega)
 have y:=K.app (l:=L);have e7:=um (da y.hak) (da y.hrd) (jg f);obtain⟨O,e8⟩:=ze (ns:=ns) (p8:=some (.int k)) (p9:=some (cU x w)) y u (by omega) (by omega) (by omega)
 have s7:eJ (vd Gd (vd (m2 (bg .NotEq) (af 10) (af 7)) Gb)) ur au (EL ns a (some (.int k)) (some (cU x w))) c=.nx (EL ns a (some (.int k)) (some (cU x w))) (c++L++O):=gJ (by simp only[EJ,e6,hZ,Bv,HE,CS,iY];simp[e7,-om,-List.append_assoc,e8])
 refine⟨c++L++O,s,some (cU x w),?_,q,j,o,f,y.app,u,d1,d2,d3⟩;unfold bL;rw[ax,U,aQ,ax,Y,aQ,ax,s3,aQ,ax,s4,aQ,ax,s5,aQ,ax,s6,aQ,ax,s7,aQ];rfl
end
section
variable{Ω aD:aI}{a:Ad}{xs ws:List Str}{l0 l1 lk ls lt:PD}{n v:Int}{rs:List (Str×Str)}{x w:Str}{F F2 F4:List D->Out Rs}{ns:List Int}{k:Int}{δ:List Int->Int->Int->Int}{p8 p9:Option D}{t:Nat}
def IT:EM:=mN (dc .max) (aa (ag (.int 21)) (aa (mN (dc .min) (aa (mN (dc .len) (aa (af 0) aq)) (aa (ag (.int 63)) aq))) aq))
def MM(F F2 F4:List D->Out Rs):SM:=hI (dR 8) (tw (aa (ag (.int 9)) (aa IT aq))) (bL F F2 F4)
theorem IU(e:ns.length<=63):∃m:Int,IT (EL ns a p8 p9) Ω=.ok (.int m) Ω/\21<=m/\m<=63:=by
 have b:dc .len [SC ns] Ω=.ok (.int ns.length) Ω:=by
  show av.ok (D.int ((ns.map D.int).length:Nat)) Ω=_
  rw[List.length_map]
 have c:dc .min [.int ns.length,.int 63] Ω=.ok (.int ns.length) Ω:=by
  show lN .min [.int ns.length,.int 63] Ω=_
  unfold lN;rw[j_];simp;omega
 have d:dc .max [.int 21,.int ns.length] Ω=.ok (.int (if 21<(ns.length:Int)then ns.length else 21)) Ω:=by
  show lN .max [.int 21,.int ns.length] Ω=_
  unfold lN;rw[j_];simp
 refine⟨if 21<(ns.length:Int)then ns.length else 21,?_,?_,?_⟩
 .unfold IT
  simp[b,c,d]
 .split<;>omega
 .split<;>omega
theorem IV(f:eM δ F)(x:ns.length<=63)(h:J Ω a xs ws l0 l1 0 [] [] [])(g:1<=xs.length)(j:1<=ws.length)(l:xs.length<=20)(T0:lA l0 xs ws)(B:lA l1 xs ws)(C:∀i:Int,F2 [.int i]=.ok (false,.bl true))(D:Fx F4) :
  ∃aD b p8 p9,MM F F2 F4 (EL ns a none none) Ω=.nx (EL ns a p8 p9) aD/\(b=0\/b=1)/\zy aD a xs ws l0 l1 b 60:=by
 obtain⟨m,E,P,m1⟩:=IU (ns:=ns) (a:=a) (Ω:=Ω) (p8:=none) (p9:=none) x
 have n:tw (aa (ag (.int 9)) (aa IT aq)) (EL ns a none none) Ω=.ok (.ints 9 (m - 9).toNat) Ω:=by
  show((aa (ag (.int 9)) (aa IT aq)) (EL ns a none none) Ω).bind tu=_
  simp only[dX,tP,fT,hZ,E];have G:jN (9:Int)=true:=gW (by omega) (by omega)
  have H:jN m=true:=gW (by omega) (by omega)
  simp[tu,G,H]
 unfold MM;rw[fW,n,jJ]
 refine dY (R:=λr=>∃aD b p8 p9,r=.nx (EL ns a p8 p9) aD/\(b=0\/b=1)/\zy aD a xs ws l0 l1 b 60) (ds:=intsFrom 9 (m - 9).toNat)
  (λi e c=>∃b p8 p9,e=EL ns a p8 p9/\(b=0\/b=1)/\zy c a xs ws l0 l1 b i) ?_ ?_ ?_ fuel 0 _ _ (by unfold fuel;rw[cY];omega) (Nat.zero_le _) ⟨0,none,none,rfl,.inl rfl,[],[],[],h,Rel.nil,Nat.le_refl _,Nat.le_refl _,Nat.le_refl _⟩
 .rintro i e c _;rfl
 .rintro i d e c I ⟨b,p8,p9,rfl,o,y,z,A,p,R,q,s,t⟩
  obtain⟨rfl,K⟩:=gX I;refine⟨EL ns a (some (.int (9+i))) p9,rfl,?_⟩;obtain⟨L,M,u,N,w,O⟩:=IS (p9:=p9) (k:=9+i) f x p o R q s t (by omega) g j l T0 B (by omega) (by omega) C D
  rw[N];exact⟨M,_,u,rfl,w,O⟩
 .rintro e c ⟨b,p8,p9,rfl,o,y,z,A,p,R,q,s,t⟩
  rw[cY]at q s t;exact⟨c,b,p8,p9,rfl,o,y,z,A,p,R,by omega,by omega,by omega⟩
def Lc(F2:List D->Out Rs):SM:=
 (ao (eJ (m2 (bg .IsNot) (cO "Facts" "known" (bh 3 3 oJ) (af 0) (vW 4)) (ag .non)) ur au)
 (ao (eJ (gf (mN (cm (bh 2 2 (oE F2))) (aa (cO "Facts" "strength" IF (af 0) (vW 4)) (aa (m2 aZ (af 3) (af 4)) aq)))) ur au)
 (ao (eJ (gf (mN (cm (bh 2 2 (oE F2))) (aa (cO "Facts" "known" (bh 3 3 oJ) (af 1) (vW 4)) (aa (cL kX nW (af 2) (aa (af 4) aq)) aq)))) ur au)
 au)))
def IW(F2:List D->Out Rs):SM:=
 (ao (hI (dR 4) (dZ (af 3)) (Lc F2))
 (ao (cu (mN (cm (bh 2 2 vU)) (aa (cO "Facts" "reads" Dh (af 0) aq) (aa (mN (dc .list) (aa (af 3) aq)) aq))))
 au))
abbrev EB(a:Ad)(t:Nat)(p:Option D):aS:=[some (.ref a.b),some (.ref a.f),some (.ref a.kn),some (.ref t),p]
theorem uu{l:PD}(h:yR Ω t (enc l)):dc .list [.ref t] Ω=.ok (.ref Ω.length) (Ω++[.lst ((l.map (·.1)).map pT)]):=by
 have e:(enc l).map (λa=>pI a.1)=(l.map (·.1)).map pT:=by rw[qD,List.map_map];rfl
 show nM (jF [.ref t] Ω) (kN [.ref t] Ω)=_
 rcases h with h|h<;>simp only[jF,cf,cN,h,kN,AV,e]<;>rfl
theorem Fz(h:J Ω a xs ws l0 l1 n lk ls rs)(R:Rel lk ls)(p:Str×Str):∃d,(d=.non\/∃i:Int,d=.int i)/\(aT ls p).getD .non=d/\(aT lk p).getD .non=d:=by
 have b:=R.eq p;rw[b];cases q:aT lk p with
 |none=>exact⟨.non,.inl rfl,rfl,rfl⟩
 |some d=>rcases R.vk _ _ q with rfl|⟨i,_,_,rfl⟩<;>first|exact⟨.non,.inl rfl,rfl,rfl⟩|exact⟨_,.inr ⟨i,rfl⟩,rfl,rfl⟩
theorem IX(h:J Ω a xs ws l0 l1 n lk ls rs)(R:Rel lk ls)(b3:rs.length<=100)(hn:L2.gN [D.ref a.t0,.ref a.t1] n=some (.ref t))(ht:Ω[t]?=some (.dT (enc lt)))(f0:t=a.t0\/t=a.t1){K:List (Str×Str)}(hK:lt.map (·.1)=K)(U:K.Nodup)(e0:K.length<=400)(hT:∀p∈K,∃v:Int,aT lt p=some (.int v))(hW:∀i:Int,F2 [.int i]=.ok (false,.bl true)) :
  ∃aD,bh 5 4 (IW F2) [.ref a.b,.ref a.f,.ref a.kn,.ref t] Ω=.ok (.bl true) aD/\aD[a.ak]?=some (.lst ((rs++K).map pT))/\aL [a.ak,a.S',a.A'] (Ω.set t (.dG (enc lt))) aD:=by
 have o:=h.o;unfold Ad.Ord at o;rw[bo (by rfl)]
 show ∃aD,cG (IW F2 (EB a t none) Ω)=.ok (.bl true) aD/\_
 have V:dZ (af 3) (EB a t none) Ω=.ok (.keys t) (Ω.set t (.dG (enc lt))):=by simp[dZ,sg ht]
 have g:∀q c,Ω[q]?=some c->q≠t->(Ω.set t (.dG (enc lt)))[q]?=some c:=λq c e z=>aj e z
 have X:=aV (e:=.dG (enc lt)) ht;have P:yS (Ω.set t (.dG (enc lt))) a.fn a.ak a.nw a.tl a.t0 a.t1 n rs:=⟨g _ _ h.hfn (by omega),g _ _ h.hak (by omega),g _ _ h.hnw (by omega),g _ _ h.htl (by omega),by omega,by omega⟩
 have B1:de (Ω.set t (.dG (enc lt))) a.fn a.b a.S' a.A' [] []:=⟨g _ _ h.fb.hf (by omega),g _ _ h.fb.hS (by omega),g _ _ h.fb.hA (by omega)⟩
 have A1:de (Ω.set t (.dG (enc lt))) a.fn a.f a.S a.A (enc ls) rs:=⟨g _ _ h.fa.hf (by omega),g _ _ h.fa.hS (by omega),g _ _ h.fa.hA (by omega)⟩
 have Y:=g _ _ h.hkn (by omega)
 generalize Ω.set t (.dG (enc lt))=u at *;unfold IW;rw[ax,fW,V,jJ]
 refine dY (R:=λr=>∃aD,cG (sq r _)=.ok (.bl true) aD/\aD[a.ak]?=some (.lst ((rs++K).map pT))/\aL [a.ak,a.S',a.A'] u aD) (ds:=K.map pT)
  (λi ρ k=>∃(p:Option D) (l:PD),ρ=EB a t p/\l.map (·.1)=K.take i/\de k a.fn a.b a.S' a.A' (enc l) (K.take i)/\k[a.ak]?=some (.lst ((rs++K.take i).map pT))/\aL [a.ak,a.S',a.A'] u k) ?_ ?_ ?_ fuel 0 _ _ (by unfold fuel;simp;omega) (Nat.zero_le _) ⟨none,[],rfl,rfl,by simpa[enc]using B1,by simpa using P.hak,aL.refl⟩
 .rintro i ρ k ⟨p,l,_,_,_,_,C⟩
  rw[Fi (C.get _ _ X (by simp;omega)),hK]
 .rintro i d ρ k E ⟨p0,l,rfl,y,H,G,C⟩
  obtain⟨p,L,rfl⟩:∃p,K[i]?=some p/\d=pT p:=by
   rw[List.getElem?_map]at E;cases q:K[i]? with
   |none=>rw[q]at E;cases E
   |some p=>rw[q]at E;exact⟨p,rfl,by injection E with E;exact E.symm⟩
  obtain⟨x,w⟩:=p
  have hi:i<K.length:=by
   rcases Nat.lt_or_ge i K.length with h|h
   .exact h
   .rw[List.getElem?_eq_none h]at L;cases L
  refine⟨EB a t (some (cU x w)),rfl,?_⟩
  have B:aT l (x,w)=none:=by
   cases q:aT l (x,w)with
   |none=>rfl
   |some d=>
    have:(x,w)∈l.map (·.1):=cQ.mp (by rw[q];rfl)
    rw[y]at this;obtain⟨j,hj,ej⟩:=List.getElem_of_mem this;rw[List.length_take]at hj;rw[List.getElem_take]at ej;have Q:K[i]=(x,w):=by rw[List.getElem?_eq_getElem hi]at L;injection L
    have:=(List.getElem_inj U).mp (ej.trans Q.symm);omega
  have T:=mO (a:=x) (b:=w) H;rw[cj,B]at T;obtain⟨v,hv⟩:=hT _ (List.mem_of_getElem? L);have M:=C.get _ _ X (by simp;omega)
  have T2:yS k a.fn a.ak a.nw a.tl a.t0 a.t1 n (rs++K.take i):=⟨C.get _ _ P.hfn (by simp;omega),G,C.get _ _ P.hnw (by simp;omega),C.get _ _ P.htl (by simp;omega),by omega,by omega⟩
  have g0:l.length<=400:=by
   have:=congrArg List.length y;rw[List.length_map,List.length_take]at this;omega
  obtain⟨s,Z,F3,q3,N⟩:=uj (a:=x) (b:=w) H T2 hn (.inr M) (by rw[cj];exact hv) (by simp;omega) (by rw[List.length_take];omega) (by rw[jf];omega) (by omega) (by rw[cj];exact B)
  rw[je]at F3;have I:aL [a.ak,a.S',a.A'] u s:=C.trans N;have e4:=jw (a:=x) (b:=w) (.inr (N.get _ _ M (by simp;omega))) (by rw[cj];exact hv)
  have e5:=lr (Ω:=s) (W:=F2) hW (.inr ⟨v,rfl⟩);have A3:de s a.fn a.f a.S a.A (enc ls) rs:=A1.keep I (by simp;omega) (by simp;omega) (by simp;omega)
  have O:=I.get _ _ Y (by simp;omega)
  have e6:=mO (a:=x) (b:=w) A3;have e7:=jc (a:=x) (b:=w) O;rw[cj]at e6 e7;obtain⟨d,E,q1,q2⟩:=Fz h R (x,w);rw[q1]at e6;rw[q2]at e7;have e8:=lr (Ω:=s) hW E;have m1:=hO (m:="known") (F:=bh 3 3 oJ) (as:=vW 4) (ρ:=EB a t (some (cU x w))) (i:=0) rfl H.hf rfl;have m2:=hO (m:="strength") (F:=IF) (as:=vW 4) (ρ:=EB a t (some (cU x w))) (i:=0) rfl H.hf rfl;have m3:=hO (m:="known") (F:=bh 3 3 oJ) (as:=vW 4) (ρ:=EB a t (some (cU x w))) (i:=1) rfl A3.hf rfl
  have s1:Lc F2 (EB a t (some (cU x w))) k=.nx (EB a t (some (cU x w))) s:=by
   unfold Lc;simp[m1,i0,i1,T,bN,isD,m2,Z,e4,e5,m3,e6,cL,fJ O,e7,e8]
  rw[show Lc F2 (EB a t (some (cU x w))) k=_ from s1]
  have tk:K.take (i+1)=K.take i++[(x,w)]:=by rw[List.take_succ,L];rfl
  refine⟨some (cU x w),bE l (x,w) (.int v),rfl,?_,by rw[tk];exact F3,by rw[tk,←List.append_assoc];exact q3,I⟩
  rw[lp,tk,←y,if_neg (λhm=>by have:=cQ.mpr hm;rw[B]at this;cases this)]
 .rintro ρ k ⟨p0,l,rfl,y,H,G,C⟩
  rw[List.length_map,List.take_length]at y H G;have T:=uk H (by omega)
  have m1:=hO (m:="reads") (F:=Dh) (as:=aq) (ρ:=EB a t p0) (i:=0) rfl H.hf rfl;have q1:(k++[.lst (K.map pT)])[k.length]?=some (.lst (K.map pT)):=a_;have N:aL [a.ak,a.S',a.A'] u (k++[.lst (K.map pT)]):=C.trans aL.app;have a0:=aE (l:=[.lst (K.map pT)]) G;generalize k++[.lst (K.map pT)]=s at *;have Q:=uu (.inr (N.get _ _ X (by simp;omega)))
  rw[hK]at Q;have q2:(s++[.lst (K.map pT)])[s.length]?=some (.lst (K.map pT)):=a_;have K4:aL [a.ak,a.S',a.A'] u (s++[.lst (K.map pT)]):=N.trans aL.app;have b0:=aE (l:=[.lst (K.map pT)]) a0;have q3:=aE (l:=[.lst (K.map pT)]) q1;generalize s++[.lst (K.map pT)]=c0 at *;obtain⟨c,Z⟩:=y_ q3 q2 (by omega)
  refine⟨c0++[c],?_,aE b0,K4.trans aL.app⟩;rw[aQ];simp[m1,T,Q,Z]
end
end Mir
namespace Mir
open PySem PySem.Spec PyProof.Rows L2
section
variable{X:Cx}{pins:List (Addr×Obj)}{σ:L2.St}{s:Shared}
theorem mQ:∀(a xs:List Str) (H:Hp),Inv (X.fz xs) pins σ H s->a.Nodup->(∀y∈a,X.fn y=true/\y∉xs/\∃c o d,X.env.cells.lookup y=some c/\s.heap.get? c=some o/\o.data=.cell (some d)) ->
  ∃f,Inv (X.fz (a.reverse++xs)) pins σ f s/\(∀b o,H b=some o->f b=some o)/\∀y∈a,∀c o,X.env.cells.lookup y=some c->s.heap.get? c=some o->f c=some (kH c o)
 |[],xs,H,I,_,_=>⟨H,I,λ_ _ e=>e,λy p=>absurd p (by simp)⟩
 |y::a,xs,H,I,q,h=>by
  obtain⟨h1,h2,c,o,d,i,l,r⟩:=h y (by simp)
  have m:(X.fz xs).fn y=true:=by
   show(X.fn y&&!(xs.contains y))=true
   simp[h1,h2]
  have t:H c=none:=(I.cD y c i).2 m;have g:=List.nodup_cons.mp q
  obtain⟨f,x,n,A⟩:=mQ a (y::xs) _ (I.freeze i m l r) g.2 λz hz=>by
   obtain⟨B,C,D⟩:=h z (by simp[hz])
   exact⟨B,λw=>by
    rcases List.mem_cons.mp w with e|w
    .subst e;exact g.1 hz
    .exact C w,D⟩
  refine⟨f,?_,λb u e=>n b u ?_,λz hz E F j k=>?_⟩
  .rw[show(y::a).reverse++xs=a.reverse++(y::xs)by simp]
   exact x
  .rw[ai (aM e t)];exact e
  .rcases List.mem_cons.mp hz with rfl|hz
   .rw[i]at j;cases j
    rw[l]at k;cases k
    exact n _ _ aF
   .exact A z hz E F j k
end
variable [aw]
noncomputable def lB(ρ:aS):List Nat->Option (List D)
 |[]=>some []
 |i::a=>match ρ[i]?,lB ρ a with
  |some (some d),some ds=>some (d::ds)
  |_,_=>none
def qH(i j:Nat)(c:List Nat):SM:=λa b=>match lB a c with
 |some d=>.nx (a.set i (some (.ref b.length))) (b++[.fn j d])
 |none=>.bad
def zg(n:Nat)(c1:SM)(i j:Nat)(a:List Nat)(c2:SM):b_:=λb c=>cG (ao c1 (ao (qH i j a) c2) (aP n b) c)
def oG(T0:Addr)(ck:List Addr)(Dk:aI)(F:b_):Sp:=λe H Q _=>H T0=some (.lS #[])/\T0∉ck/\∃(a:Addr) (d:List Int) (c:aI),e=[.ref a]/\a≠T0/\(∀f,bb f ck (λb=>b=a) Dk H)/\Rd H a (.lst (d.map V.int))/\F [.lst (d.map D.int)] Dk=.ok (.bl true) c/\∀g,Q (.bl true) g
section
variable{κ:Str->Addr->Prop}{α ck:List Addr}{Z Z0:Addr->Prop}{Ω:aI}{H H0 H2:Hp}{ρ:aS}{σ:L2.St}
theorem aG.IY{c d:Type}{R S:c->d->Prop}:∀{as:List c}{bs:List d},aG R as bs->(∀a b,b∈bs->R a b->S a b)->aG S as bs
 |_,_,.nil,_=>.nil
 |_,_,.cons r t,h=>.cons (h _ _ (by simp) r) (aG.IY t λa b m=>h a b (by simp[m]))
theorem bb.made(S:bb κ α Z Ω H){T0 f:Addr}{ps:Array Value}{c:Cell}(s:H T0=some (.lS ps))(g:¬ Z T0)(i:T0∉α)(keep:∀b o,H b=some o->b≠T0->H2 b=some o)(p:H f=none)
  (j:∀R:D->V->Prop,(∀d v,ah α Z H d v->R d v)->e_ κ R H2 f c):bb κ (α++[f]) Z (Ω++[c]) H2/\∀d v,ah α Z H d v->ah (α++[f]) Z H2 d v:=by
 have k:∀a∈α,a≠f:=λa ha e=>S.has a ha (e▸p)
 have l:∀d v,ah α Z H d v->ah (α++[f]) Z H2 d v:=λd v r=>r.mono (λn a e=>by rw[List.getElem?_append_left (List.getElem?_eq_some_iff.mp e).1];exact e) (λa o z e=>keep a o e λq=>g (q▸z)) λ_ h=>h
 refine⟨⟨?_,?_,λa ha m=>?_,λa ha=>?_⟩,l⟩
 .refine List.nodup_append.mpr ⟨S.jT,by simp,λa ha b t=>?_⟩
  rw[List.mem_singleton.mp t];exact k a ha
 .refine aG.append (S.ti.IY λc a ha j=>?_) (.one (j _ l))
  exact j.imp l (λu e=>keep a u e λq=>i (q▸ha)) λb w x e=>keep b _ e λq=>by rw[q,s]at e;cases e
 .rcases List.mem_append.mp ha with ha|ha
  .exact S.sep a ha m
  .rw[List.mem_singleton.mp ha]at m;exact S.dom _ m p
 .cases q:H a with
  |none=>exact absurd q (S.dom a ha)
  |some o=>rw[keep a o q λe=>g (e▸ha)];simp
theorem mR(S:bY κ ck Z0 H0 α Z Ω ρ σ H):∀{b:List Nat}{ds:List D},lB ρ b=some ds->∃a,aG (ah α Z H) ds a/\a.length=b.length/\∀(m i:Nat) (v:V),b[m]?=some i->a[m]?=some v->σ[i]?=some (some v)
 |[],ds,h=>by cases h;exact⟨[],.nil,rfl,λm i v h=>by simp at h⟩
 |i::b,ds,h=>by
  unfold lB at h;split at h
  .rename_i d g h1 h2
   cases h;obtain⟨a,r,j,k⟩:=mR S h2;obtain⟨v,e,l⟩:=S.val i d h1;refine⟨v::a,.cons l r,by simp[j],λm n o c f=>?_⟩
   cases m with
   |zero=>simp at c f;subst c;subst f;exact e
   |succ m=>exact k m n o (by simpa using c) (by simpa using f)
  .cases h
def sm(X:Cx)(κ:Str->Addr->Prop)(ck:List Addr)(Z0:Addr->Prop)(H0:Hp)(rest:List Stmt)(Q:Flow->Shared->Prop):fS->Prop
 |.nx ρ Ω=>∀c H a Z b,bY κ ck Z0 H0 a Z Ω ρ c H->Inv X [] c H b->wpAny (model X.prog X.w) X.A (execs rest X.env) Q X.xe b
 |.rt d Ω=>∀v u c H a Z b,bU ck Z0 H0 a Z H->bb κ a Z Ω H->ah a Z H d v->Inv X [] c H b->RelV v u->Q (.ret u) b
 |_=>False
theorem uv{X:Cx}{f:Stmt->Option SM}{rest:List Stmt}{Q:Flow->Shared->Prop}(r:∀s c,f s=some c->jV X κ ji s c):∀{n:List Stmt}{c:SM},cS f n=some c->∀{ρ:aS}{Ω:aI}{k:L2.St}{H:Hp}{s:Shared}{i:List Addr}{Z:Addr->Prop},
  bY κ ck Z0 H0 i Z Ω ρ k H->Inv X [] k H s->sm X κ ck Z0 H0 rest Q (c ρ Ω)->wpAny (model X.prog X.w) X.A (execs (n++rest) X.env) Q X.xe s
 |[],c,h,ρ,Ω,k,H,s,i,Z,S,I,g=>by cases h;exact g k H i Z s S I
 |st::n,c,h,ρ,Ω,k,H,s,i,Z,S,I,g=>by
  obtain⟨a,b,h1,h2,rfl⟩:=bt h;have t:=r st a h1 ck Z0 H0 ρ Ω;refine wpAny_execs_cons ?_;cases q:a ρ Ω with
  |nx j e=>
   have o:sm X κ ck Z0 H0 rest Q (b j e):=by
    have:ao a b ρ Ω=b j e:=by unfold ao;rw[q]
    rw[←this];exact g
   refine bM (t [] s k H {nx:=λk H=>∃i Z,bY κ ck Z0 H0 i Z e j k H,rt:=λ_ _=>False} I ⟨i,Z,S,by rw[q];exact λk H i Z S=>⟨i,Z,S⟩⟩) λfl y z=>?_
   cases fl with
   |next=>obtain⟨l,B,p,m,C,D⟩:=z;exact uv r h2 D p o
   |ret u=>obtain⟨_,_,_,_,_,z⟩:=z;exact z.elim
   |brk=>obtain⟨_,_,_,z⟩:=z;exact z.elim
   |cont=>obtain⟨_,_,_,z⟩:=z;exact z.elim
  |rt d e=>
   have o:sm X κ ck Z0 H0 rest Q (.rt d e):=by
    have:ao a b ρ Ω=.rt d e:=by unfold ao;rw[q]
    rw[←this];exact g
   refine bM (t [] s k H {nx:=λ_ _=>False,rt:=λv H=>∃i Z,bU ck Z0 H0 i Z H/\bb κ i Z e H/\ah i Z H d v} I ⟨i,Z,S,by rw[q];exact λv H i Z h1 h2 E=>⟨i,Z,h1,h2,E⟩⟩) λfl y z=>?_
   cases fl with
   |next=>obtain⟨_,_,_,z⟩:=z;exact z.elim
   |ret u=>obtain⟨v,l,B,p,F,m,C,G,J,K⟩:=z;exact o v u l B m C y G J K p F
   |brk=>obtain⟨_,_,_,z⟩:=z;exact z.elim
   |cont=>obtain⟨_,_,_,z⟩:=z;exact z.elim
  |bk j e=>unfold ao at g;rw[q]at g;exact g.elim
  |ct j e=>unfold ao at g;rw[q]at g;exact g.elim
  |exc x e=>unfold ao at g;rw[q]at g;exact g.elim
  |bad=>unfold ao at g;rw[q]at g;exact g.elim
end
section
variable{P:Program}{w:World}{K:PySem.W.Frag}{mg:Str->Option Value}{base:Heap}{T T2:aK}{k:Nat}
structure zh(qual:Str)(sc:Scope)(N:List Str)(d:pA)(i:Nat)(is:List Nat)(cl:Nat->List (Str×Addr)):Prop where
 slot:N[i]?=some d.name
 loc:sc.names.lookup d.name=some .local
 dh:is.map (λm=>N[m]?)=d.cn.map some
 cell:∀y∈d.cn,sc.names.lookup y=some .cell
 nd:d.cn.Nodup
 qn:∀(L f c:Addr),qualnameIn (envOfC qual sc L f (.ref c)) d.name d.name=d.qual
 df:d.params.defaults=[]
 kd:d.params.kw_defaults=[]
 ann:∀env,annTrees d.params none env=[]
 clos:∀(L f c:Addr),closureFor d.scope (envOfC qual sc L f (.ref c))=pure (cl L)
 only:∀(L:Addr) y cc,(cl L).lookup y=some cc->y∈d.cn/\(cellsFrom (L+1) sc.names []).lookup y=some cc
 has:∀(L:Addr),∀y∈d.cn,∃cc,(cl L).lookup y=some cc
theorem Co{ck:List Addr}{Dk:aI}(W:aY P w K mg base T k)(W2:aY P w K mg base T2 k){x qual x0:Str}{st:Stmt}{f c T0:Addr}{fd:FuncData}(F:vY K x qual st f fd)(v0:fd.code=.ref c){N td:List Str}(hs:bK N [x0] (ae st)=true)
    {g0 j0:List Stmt}{d:pA}{pos:Pos} (hb:ay st=g0++.FunctionDef d.name d.params d.body [] none [] d.scope none d.name pos::j0) {c1 c2:SM} (h1:cS (iX T td 60 (ae st) N 30) g0=some c1) (h2:cS (iX T2 td 60 (ae st) N 30) j0=some c2)
    {i j:Nat}{L:List Nat}{cl:Nat->List (Str×Addr)} (hj:aw.tab j=d) (w0:T2.fz=d.cn) (A:zh qual (ae st) N d i L cl) (hC:PySem.W.CodeHd base c T0) (hB:∃Pl,base.BuiltinsAt mg Pl) :
    bF P w K mg base ek (k+1) f fd [x0] (oG T0 ck Dk (zg N.length c1 i j L c2)):=by
  have Sc:=fP hs;subst hj;refine F.Pk v0 Sc (λvs H Q E h=>?_) λAr outer s s1 H vs Q E hr h I=>?_
  · obtain⟨_,_,a,ns,M0,rfl,_⟩:=h;rfl
  obtain⟨hT,b0,a,ns,m0,rfl,y0,n0,hR,p,hQ⟩:=h;have S0:=n0 (bO mg);generalize O:(cx ek P w K mg base N qual (ae st) f (.ref c) Ar outer s H E).hP=X at *
  have r0:aG (ah ck (λb=>b=a) H) [.lst (ns.map D.int)] [.ref a]:=.one (by
    simp only[ah];refine⟨a,ns.map V.int,rfl,rfl,hR,?_⟩;clear p hR S0 n0
    induction ns with
    |nil=>exact cq.mpr .nil
    |cons n ns ih=>exact cq.mpr (.cons (by simp only[ah]) (cq.mp ih)))
  have o0:∀{α:List Addr}{Z:Addr->Prop}{H':Hp}{Ω:aI}{dd:D}{v:V},dd=.bl true->ah α Z H' dd v->Q v H':=λ{α Z H' Ω dd v} e r=>by
    subst e;simp only[ah]at r;subst r;exact hQ _
  have G:cZ X (bO mg) T k (ae st) N:=by
    subst O
    exact
      { scope:=rfl,names:=rfl,calm:=rfl,room:=hr,cM:=W.cM,own:=PassesOwn.never,EF:=λ_ _ _=>.inl rfl,jT:=Sc.nd,kind:=Sc.kind,hP:=λ_ _ _ h=>h,fld:=W.fld,cst:=W.cst
        gh:=λx F h=>⟨W.gh x F h⟩,fn:=λx F h=>⟨W.fn x F h⟩,met:=λm C F h=>⟨W.met m C F h⟩,cls:=λC F h=>let ⟨j,h1,h2⟩:=W.cls C F h;⟨j,h1,⟨h2⟩⟩,clo:=W.clo }
  have G2:cZ (X.fz ((aw.tab j).cn.reverse++[])) (bO mg) T2 k (ae st) N:=by
    subst O
    exact
      { scope:=rfl,names:=rfl,calm:=rfl,room:=hr,cM:=W2.cM,own:=PassesOwn.never,jT:=Sc.nd,kind:=Sc.kind,hP:=λ_ _ _ h=>h,fld:=W2.fld,cst:=W2.cst
        EF:=λy _ hy=>.inl (by
            show(true&&!(((aw.tab j).cn.reverse++[]).contains y))=true
            rw[w0]at hy;simpa using hy)
        gh:=λx F h=>⟨W2.gh x F h⟩,fn:=λx F h=>⟨W2.fn x F h⟩,met:=λm C F h=>⟨W2.met m C F h⟩,cls:=λC F h=>let ⟨j,h1,h2⟩:=W2.cls C F h;⟨j,h1,⟨h2⟩⟩,clo:=W2.clo }
  have eP:X.prog=P:=by subst O;rfl
  have ew:X.w=w:=by subst O;rfl
  have eA:X.A=Ar.deeper (envOfC qual (ae st) s.heap.objs.size f (.ref c)):=by subst O;rfl
  have ee:X.env=envOfC qual (ae st) s.heap.objs.size f (.ref c):=by subst O;rfl
  have eN:X.N=N:=by subst O;rfl
  have ex:X.xe=λ_ _=>False:=by subst O;rfl
  have eb:X.base=base:=by subst O;rfl
  have em:X.mg=mg:=by subst O;rfl
  have ef:∀y,X.fn y=true:=by subst O;exact λ_=>rfl
  rw[hb,←eP,←ew,←eA,←ee,←ex];unfold zg at p;refine uv (κ:=bO mg) (ck:=ck) (Z0:=λb=>b=a) (H0:=H) (λs c h=>gU G 30 60 s c h) h1 (eL S0 r0) I ?_
  cases q1:c1 (aP N.length [.lst (ns.map D.int)]) Dk with
  |bk q g=>unfold ao at p;rw[q1]at p;cases p
  |ct q g=>unfold ao at p;rw[q1]at p;cases p
  |exc x1 g=>unfold ao at p;rw[q1]at p;cases p
  |bad=>unfold ao at p;rw[q1]at p;cases p
  |rt dd g=>
    have hd:dd=.bl true:=by unfold ao at p;rw[q1]at p;cases p;rfl
    intro v u c0 H' z0 Z' s' g1 g2 g3 I' rv;exact⟨[],v,u,c0,H',.inl rfl,I'.nL,rv,o0 (Ω:=g) hd g3⟩
  |nx q g=>
    have p:cG (ao (qH i j L) c2 q g)=.ok (.bl true) m0:=by
      have:ao c1 (ao (qH i j L) c2) (aP N.length [.lst (ns.map D.int)]) Dk=ao (qH i j L) c2 q g:=(λb=>by unfold ao;rw[q1]:∀b:SM,ao c1 b (aP N.length [.lst (ns.map D.int)]) Dk=b q g) _
      rw[←this];exact p
    intro p0 H1 S Z1 s2 S1 I1;have q0:H1 T0=some (.lS #[]):=S1.gr.frm T0 _ hT b0
    have s0:T0∉S:=λz=>by
      rcases S1.gr.zu T0 z with z|z
      · exact b0 z
      · rw[hT]at z;cases z
    have A0:¬ Z1 T0:=λz=>by
      rcases S1.gr.new T0 z with z|z|⟨_,vs,z⟩
      · exact y0 z.symm
      · rw[hT]at z;cases z
      · rw[hT]at z;cases z
    cases q2:lB q L with
    |none=>unfold ao qH at p;rw[q2]at p;cases p
    |some ds=>
      have p:cG (c2 (q.set i (some (.ref g.length))) (g++[.fn j ds]))=.ok (.bl true) m0:=by
        have:ao (qH i j L) c2 q g=c2 (q.set i (some (.ref g.length))) (g++[.fn j ds]):=by unfold ao qH;rw[q2]
        rw[←this];exact p
      obtain⟨cv,rc,lc,gc⟩:=mR S1 q2;have P0:L.length=(aw.tab j).cn.length:=by simpa using congrArg List.length A.dh
      have C0:∀(m:Nat) (y:Str),(aw.tab j).cn[m]?=some y->∃mi v,L[m]?=some mi/\N[mi]?=some y/\cv[m]?=some v/\p0[mi]?=some (some v)/\mi≠i:=λm y hm=>by
        have e0:m<(aw.tab j).cn.length:=(List.getElem?_eq_some_iff.mp hm).1;have M:L[m]?=some L[m]:=List.getElem?_eq_getElem (by omega)
        have B:=congrArg (λl=>l[m]?) A.dh
        simp only[List.getElem?_map,M,hm,Option.map_some]at B;have B:N[L[m]]?=some y:=Option.some.inj B;have e3:cv[m]?=some cv[m]:=List.getElem?_eq_getElem (by omega)
        refine⟨_,_,M,B,e3,gc m _ _ M e3,λz=>?_⟩
        rw[z,A.slot]at B;have:=A.cell y (List.mem_of_getElem? hm);rw[←Option.some.inj B,A.loc]at this;cases this
      refine wpAny_execs_cons (An (qual:=(aw.tab j).qual) (i:=i) (cl:=cl s.heap.objs.size) I1 q0 trivial rfl (by rw[ee];rfl) (by rw[eb];exact hC) (by rw[eb,em];exact hB) (by rw[ee];exact A.qn _ _ _) A.df A.kd (A.ann _) (by rw[ee];exact A.clos _ _ _) (by rw[eN];exact Sc.nd) (by rw[eN];exact A.slot) (by rw[ee];exact A.loc) ?_)
      intro fn c' oc D0 pm G0 I0 t s3 n1 n2 J0 Q0 R0 _ _ K0 hv I3
      have cells:∀(m:Nat) (y:Str),(aw.tab j).cn[m]?=some y->∃U o J v,X.env.cells.lookup y=some U/\s3.heap.get? U=some o/\o.data=.cell (some J)/\cv[m]?=some v/\RelV v J:=λm y hm=>by
        obtain⟨mi,v,M,B,e3,e4,ne⟩:=C0 m y hm;obtain⟨mm,_,hl⟩:=I3.loc;have hc:=A.cell y (List.mem_of_getElem? hm);obtain⟨u,rv,lk⟩:=hl mi y v (by rw[eN];exact B) (by rw[List.getElem?_set_ne (Ne.symm ne)];exact e4) (.inr (.inl (by rw[ee];exact hc)))
        rcases lk with ⟨lk,_⟩|⟨_,U,h3,o,h4,h5⟩
        · rw[ee]at lk
          have lk:(ae st).names.lookup y=some (.local):=lk;rw[hc]at lk;cases lk
        · exact⟨U,o,u,v,h3,h4,h5,e3,rv⟩
      obtain⟨H4,I4,k4,z4⟩:=mQ (aw.tab j).cn [] _ I3.nL A.nd λy hy=>by
        obtain⟨m,hm⟩:=List.mem_iff_getElem?.mp hy;obtain⟨U,o,J,v,Y,q4,q5,_⟩:=cells m y hm;exact⟨ef y,by simp,U,o,J,Y,q4,q5⟩
      have keep:∀b o,H1 b=some o->b≠T0->H4 b=some o:=λb o e hb=>k4 b o (by
        unfold eD;rw[ai (aM e n2),ai (aM e n1),ai hb];exact e)
      obtain⟨S4,rp⟩:=S1.st.made (c:=.fn j ds) q0 A0 s0 keep n2 λR hR=>by
        refine⟨c',cl s.heap.objs.size,cv,⟨⟨D0,pm,G0,_,k4 _ _ Al⟩,oc,_,I0,t,k4 _ _ (Am J0),K0,hv⟩,⟨by omega,λm y v M B=>?_,λy U e=>(A.only _ _ _ e).1,λy z U M B=>?_⟩,rc.imp hR⟩
        · obtain⟨U,o,J,v',Y,q4,q5,q6,q7⟩:=cells m y M
          rw[B]at q6;cases q6
          obtain⟨c3,u0⟩:=A.has s.heap.objs.size y (List.mem_of_getElem? M);have q8:=(A.only _ _ _ u0).2;have a0:=Y;rw[ee]at a0;have a0:(cellsFrom (s.heap.objs.size+1) (ae st).names []).lookup y=some U:=a0;rw[q8]at a0;cases a0
          exact⟨_,o,_,J,u0,z4 y (List.mem_of_getElem? M) _ o Y q4,q5,q7⟩
        · have o1:=(A.only _ _ _ M).2
          have o2:=(A.only _ _ _ B).2;exact I1.ok.inj y z U (by rw[ee];exact o1) (by rw[ee];exact o2)
      have R4:=dU (λs c h=>gU (Φ:=ji) G2 30 60 s c h) h2 (S++[fn]) Z1 H4 (q.set i (some (.ref g.length))) (g++[.fn j ds])
      have L0:=S1.st.len
      have S5:bY (bO mg) (S++[fn]) Z1 H4 (S++[fn]) Z1 (g++[.fn j ds]) (q.set i (some (.ref g.length))) (p0.set i (some (.ref fn))) H4:=by
        refine⟨S4,bU.refl S4.has,by simp[S1.len],λn dd e=>?_⟩
        by_cases f0:n=i
        · subst f0
          have e0:n<q.length:=by
            have:=(List.getElem?_eq_some_iff.mp e).1;simpa using this
          rw[List.getElem?_set_self e0]at e;cases e;refine⟨.ref fn,List.getElem?_set_self (by rw[S1.len];exact e0),?_⟩
          simp only[ah];exact⟨fn,by rw[←L0];simp,rfl⟩
        · rw[List.getElem?_set_ne (Ne.symm f0)]at e
          obtain⟨v,M,B⟩:=S1.val n dd e;exact⟨v,by rw[List.getElem?_set_ne (Ne.symm f0)];exact M,rp _ _ B⟩
      refine bM (R4 [] s3 _ H4 {nx:=λ_ _=>False,rt:=λv H'=>Q v H' } I4 ⟨S++[fn],Z1,S5,?_⟩) λfl s' z=>?_
      · cases Y:c2 (q.set i (some (.ref g.length))) (g++[.fn j ds])with
        |rt dd V0=>rw[Y]at p;cases p;exact λv H' z0 Z' _ _ r=>o0 (Ω:=[]) rfl r
        |nx _ _=>rw[Y]at p;cases p
        |bk _ _=>rw[Y]at p;cases p
        |ct _ _=>rw[Y]at p;cases p
        |exc _ _=>rw[Y]at p;cases p
        |bad=>rw[Y]at p;cases p
      · cases fl with
        |next=>obtain⟨_,_,_,z⟩:=z;exact z.elim
        |ret u=>obtain⟨v,c0,H',I',rv,z⟩:=z;exact⟨_,v,u,c0,H',.inl rfl,I',rv,z⟩
        |brk=>obtain⟨_,_,_,z⟩:=z;exact z.elim
        |cont=>obtain⟨_,_,_,z⟩:=z;exact z.elim
end
noncomputable def zi(cn:List Str)(a:Scope)(L:Nat):List (Str×Addr):=cn.reverse.filterMap λy=>((cellsFrom (L+1) a.names []).lookup y).map λc=>(y,c)
theorem vX{cn:List Str}{a:Scope}{L:Addr}{y:Str}{b:Addr}(h:(zi cn a L).lookup y=some b):y∈cn/\(cellsFrom (L+1) a.names []).lookup y=some b:=by
 obtain⟨z,d,e⟩:=List.mem_filterMap.mp (PySem.mem_of_lookup h);obtain⟨c,f,g⟩:=Option.map_eq_some_iff.mp e;cases g;exact⟨List.mem_reverse.mp d,f⟩
theorem zj{l:List (Str×Addr)}{y:Str}{c:Addr}(h:(y,c)∈l):∃a,l.lookup y=some a:=by
 induction l with
 |nil=>cases h
 |cons p r b=>
  obtain⟨z,k⟩:=p;rw[List.lookup_cons];cases e:y==z with
  |true=>exact⟨k,rfl⟩
  |false=>
   rcases List.mem_cons.mp h with q|q
   .cases q;simp at e
   .exact b q
theorem zk{cn:List Str}{a:Scope}(b:∀y∈cn,a.names.lookup y=some .cell)(L:Addr){y:Str}(h:y∈cn):∃d,(zi cn a L).lookup y=some d:=by
 obtain⟨c,e⟩:=kj (n:=L+1) (b y h);refine zj (c:=c) (List.mem_filterMap.mpr ⟨y,List.mem_reverse.mpr h,?_⟩);rw[e];rfl
noncomputable def zl(a:Scope)(N:List Str)(d:pA)(i:Nat)(b:List Nat):Bool:=
 N[i]?==some d.name&&a.names.lookup d.name==some .local&&b.map (λm=>N[m]?)==d.cn.map some&&d.cn.all (λy=>a.names.lookup y==some .cell)&&decide d.cn.Nodup&&d.params.defaults.isEmpty&&d.params.kw_defaults.isEmpty
theorem zm{qual:Str}{a:Scope}{N:List Str}{d:pA}{i:Nat}{g:List Nat}(h:zl a N d i g=true)(k:∀(L f c:Addr),qualnameIn (envOfC qual a L f (.ref c)) d.name d.name=d.qual)(b:∀env,annTrees d.params none env=[])
  (clos:∀(L f c:Addr),closureFor d.scope (envOfC qual a L f (.ref c))=pure (zi d.cn a L)):zh qual a N d i g (zi d.cn a):=by
 simp only[zl,Bool.and_eq_true,beq_iff_eq,List.all_eq_true,decide_eq_true_eq,List.isEmpty_iff]at h;obtain⟨⟨⟨⟨⟨⟨l,m⟩,n⟩,j⟩,o⟩,p⟩,q⟩:=h;exact⟨l,m,n,j,o,k,p,q,b,clos,λL y s e=>vX e,λL y r=>zk j L r⟩
noncomputable def FA:Stmt->Pos
 |.FunctionDef _ _ _ _ _ _ _ _ _ p=>p
 |_=>⟨0,0,0,0⟩
section
variable{P:Program}{w:World}{K:PySem.W.Frag}{mg:Str->Option Value}{base:Heap}{T:aK}{k:Nat}
theorem aY.FC(W:aY P w K mg base T k)(fz:List Str):aY P w K mg base {T with fz:=fz} k:=⟨W.cM,W.gh,W.fn,W.cst,W.met,W.cls,W.fld,W.clo⟩
theorem Cp{K:PySem.W.Frag}(b:pv K=true){a:Addr}{o:Obj}(h:K.lookup a=some o):o.cls≠.type "list":=λz=>by
 have:=List.all_eq_true.mp b _ (pw h);rw[z]at this;exact absurd this (by decide)
end
section
variable{Ω aD:aI}{a:Ad}{xs ws:List Str}{l0 l1 lk ls lt:PD}{n v:Int}{rs:List (Str×Str)}{x w:Str}{F F2 F4:List D->Out Rs}{ns:List Int}{k:Int}{δ:List Int->Int->Int->Int}{p8 p9:Option D}{t:Nat}
def MN:EM:=cL pM cX (cO "Facts" "reads" Dh (af 4) aq) (aa (mN lK (aa (ag (.str "x")) (aa (ag (.str "x")) aq))) aq)
def MO(F2:List D->Out Rs):EM:=gf (mN (cm (bh 5 4 (IW F2))) (aa (af 5) (aa (af 4) (aa (af 6) (aa (m2 aZ (af 12) (m2 aZ (af 11) (ag (.int 0)))) aq)))))
def MP:EM:=fQ (m2 (bg .Eq) (af 10) (m2 (aJ .Add) (af 7) (mN (dc .list) (aa (m2 aZ (af 12) (ag (.int 0))) aq)))) (m2 (bg .Eq) (cO "Facts" "reads" Dh (af 4) aq) (af 7))
def MQ(F2:List D->Out Rs):SM:=ao (gF MN) (ao (eJ (MO F2) ur au) (ao (cu MP) au))
theorem IZ(h:J Ω a xs ws l0 l1 n lk ls rs)(R:Rel lk ls)(b3:rs.length<=100)(U:n=0\/n=1){K:List (Str×Str)}(k0:l0.map (·.1)=K)(k1:l1.map (·.1)=K)(u:K.Nodup)(k:K.length<=400)(L:∀p∈K,p.1∈xs/\p.2∈ws)(T0:lA l0 xs ws)(V:lA l1 xs ws)(X:∀i:Int,F2 [.int i]=.ok (false,.bl true)) :
  ∃aD,cG (MQ F2 (EL ns a p8 p9) Ω)=.ok (.bl true) aD:=by
 have Y:=uk h.fa (by omega)
 have m1:=hO (m:="reads") (F:=Dh) (as:=aq) (ρ:=EL ns a p8 p9) (i:=4) rfl h.fa.hf rfl;have M:(Ω++[.lst (rs.map pT)])[Ω.length]?=some (.lst (rs.map pT)):=a_;have N:=dB (d:=cU "x" "x") M (by simp;omega)
 have Z:(Ω++[Cell.lst (rs.map pT)]).set Ω.length (.lst (rs.map pT++[cU "x" "x"]))=Ω++[.lst (rs.map pT++[cU "x" "x"])]:=by
  rw[List.set_append_right _ _ (Nat.le_refl _)];simp
 rw[Z]at N
 have s1:gF MN (EL ns a p8 p9) Ω=.nx (EL ns a p8 p9) (Ω++[.lst (rs.map pT++[cU "x" "x"])]):=by
  unfold MN;rw[tX,ou (x:=.ref Ω.length) (aD:=Ω++[.lst (rs.map pT)]) (by rw[m1];simp[Y]) (fY M)]
  simp[N,az]
 have c:=h.app (l:=[.lst (rs.map pT++[cU "x" "x"])]);generalize Ω++[.lst (rs.map pT++[cU "x" "x"])]=w at *;obtain⟨t,y,O,z,c3,c4,c5⟩:=zf c U T0 V;have kt:y.map (·.1)=K:=by rcases c5 with rfl|rfl<;>assumption
 obtain⟨b,e4,q4,g⟩:=IX c R b3 O z c3 kt u k (λp P=>by obtain⟨v,_,_,hv⟩:=c4 p.1 (L p P).1 p.2 (L p P).2;exact⟨v,hv⟩) X
 have i1:=cg (i:=0) (d:=.int n) c.hnw rfl;have i2:=cg c.htl O;have s2:eJ (MO F2) ur au (EL ns a p8 p9) w=.nx (EL ns a p8 p9) b:=gJ (by unfold MO;simp[i1,i2,e4])
 have o:=h.o;unfold Ad.Ord at o
 have t0:yR b a.t0 (enc l0):=by
  rcases Decidable.em (t=a.t0)with rfl|ne
  .have:=z.symm.trans c.h0
   injection this with this;injection this with this;rw[←this];exact .inr (g.get _ _ (aV z) (by simp;omega))
  .exact .inl (g.get _ _ (aj c.h0 (Ne.symm ne)) (by simp;omega))
 have q:=g.get _ _ (aj (e:=.dG (enc y)) c.hrd (show a.rd≠t by omega)) (by simp;omega)
 have B:=g.get _ _ (aj (e:=.dG (enc y)) c.htl (show a.tl≠t by omega)) (by simp;omega)
 have C:de b a.fn a.f a.S a.A (enc ls) rs:=⟨g.get _ _ (aj c.fa.hf (by omega)) (by simp;omega),g.get _ _ (aj c.fa.hS (by omega)) (by simp;omega),g.get _ _ (aj c.fa.hA (by omega)) (by simp;omega)⟩
 have Q:=cg (i:=0) (d:=.ref a.t0) B rfl;have D:=uu t0;rw[k0]at D;have q5:(b++[.lst (K.map pT)])[b.length]?=some (.lst (K.map pT)):=a_;have T:=za (aE (l:=[.lst (K.map pT)]) q) q5 (by simp;omega)
 rw[←List.map_append]at T;have a0:(b++[Cell.lst (K.map pT)]).length=b.length+1:=by simp
 have q6:(b++[Cell.lst (K.map pT)]++[.lst ((rs++K).map pT)])[(b++[Cell.lst (K.map pT)]).length]?=some (.lst ((rs++K).map pT)):=a_;have E:=aE (l:=[.lst ((rs++K).map pT)]) (aE (l:=[.lst (K.map pT)]) q4);have G:=aE (l:=[.lst ((rs++K).map pT)]) (aE (l:=[.lst (K.map pT)]) q);have r:=jy (l:=[.lst ((rs++K).map pT)]) (jy (l:=[.lst (K.map pT)]) C);generalize b++[.lst (K.map pT)]=H at *;generalize H++[.lst ((rs++K).map pT)]=j at *;have e7:=oC (da E) (da q6) (jg _);have e8:=uk r (by omega)
 have m8:=hO (m:="reads") (F:=Dh) (as:=aq) (ρ:=EL ns a p8 p9) (i:=4) rfl r.hf rfl;have q8:(j++[.lst (rs.map pT)])[j.length]?=some (.lst (rs.map pT)):=a_;have I:=aE (l:=[.lst (rs.map pT)]) G;generalize j++[.lst (rs.map pT)]=s at *;have e9:=oC (da q8) (da I) (jg _);refine⟨s,?_⟩
 have s3:MP (EL ns a p8 p9) b=.ok (.bl true) s:=by
  unfold MP;simp only[Bw,CS,iY,qk,dX,fT,tP,hZ,List.getElem?_cons_succ,List.getElem?_cons_zero,Q,D];simp[Q,D,T,e7,m8,e8,e9,-oj,-qm]
 unfold MQ;rw[ax,s1,aQ,ax,s2,aQ,ax,oo,s3];rfl
def cA(F:List D->Out Rs):SM:=
 (ao (aU 1 (mN (cm (bh 12 3 (Fu F))) (aa (af 0) (aa (ag (.int 0)) (aa (m2 (aJ .Add) (ag (.int 1)) (mN (bZ F) (aa (af 0) (aa (ag (.int 6)) (aa (ag (.int 4)) aq))))) aq)))))
 (ao (aU 2 (mN (cm (bh 12 3 (Fu F))) (aa (af 0) (aa (ag (.int 7)) (aa (m2 (aJ .Add) (ag (.int 1)) (mN (bZ F) (aa (af 0) (aa (ag (.int 8)) (aa (ag (.int 3)) aq))))) aq)))))
 (ao (eJ (m2 (bg .Eq) (mN (bZ F) (aa (af 0) (aa (ag (.int 74)) (aa (ag (.int 3)) aq)))) (ag (.int 1)))
 (ao (pX [1,2] (mN (cm (bh 7 2 (Fv F))) (aa (af 0) (aa (mN dm (aa (ag (.str "")) (aa (ag (.str " ")) (aa (ag (.str ".")) (aa (ag (.str "a")) (aa (ag (.str ":")) (aa (ag (.str "|")) (aa (ag (.str "/")) (aa (ag (.str ",")) aq))))))))) aq))))
 au)
 au)
 (ao (aU 12 (mN dm (aa (mN (cm (bh 9 4 (iZ F))) (aa (af 0) (aa (ag (.int 20)) (aa (af 1) (aa (af 2) aq))))) (aa (mN (cm (bh 9 4 (iZ F))) (aa (af 0) (aa (ag (.int 40)) (aa (af 1) (aa (af 2) aq))))) aq))))
 (ao (aU 11 (mN dm (aa (ag (.int 0)) aq)))
 (ao (aU 10 (mN dm aq))
 au))))))
def cB(F F2 F4:List D->Out Rs):SM:=
 (ao (aU 4 (mN (ju "Facts" (bh 2 2 zw)) (aa (af 3) aq)))
 (ao (aU 5 (mN (ju "Facts" (bh 2 2 zw)) (aa (af 3) aq)))
 (ao (aU 6 d_)
 (ao (aU 7 (mN dm aq))
 (ao (MM F F2 F4) (MQ F2))))))
abbrev EV(ns:List Int)(p1 p2 p3 d e f g a b c:Option D):aS:=[some (SC ns),p1,p2,p3,d,e,f,g,none,none,a,b,c]
theorem I_{kx kw j k b d e fn:Nat}{f h:List (List Key×D)}(s:eM δ F)(O:ns.length<=63)(l:Ω[kx]?=some (.lst (xs.map .str)))(n:Ω[kw]?=some (.lst (ws.map .str)))(P:Ω[j]?=some (.dT f))(Q:Ω[k]?=some (.dT h))(t:Ω[b]?=some (.lst [.ref j,.ref k]))(u:Ω[d]?=some (.lst [.int 0]))(y:Ω[e]?=some (.lst []))(o:Ω[fn]?=some (.fn 0 [.ref e,.ref d,.ref b]))
  (o1:kx<j) (o2:kw<j) (o3:j<k) (o4:k<b) (o5:b<d) (o6:d<e) (o7:e<fn) (T0:i_ f λx w=>x∈xs/\w∈ws) (S:i_ h λx w=>x∈xs/\w∈ws) (E0:ly f (Ck xs ws)) (T:ly h (Ck xs ws)) (G:f.length<=400) (z:1<=xs.length) (A:1<=ws.length) (B:xs.length<=20) (H:∀i:Int,F2 [.int i]=.ok (false,.bl true)) (U:Fx F4) :
  ∃aD,cG (cB F F2 F4 (EV ns (some (.ref kx)) (some (.ref kw)) (some (.ref fn)) none none none none (some (.ref e)) (some (.ref d)) (some (.ref b))) Ω)=.ok (.bl true) aD:=by
 obtain⟨I,rfl,K⟩:=E0;obtain⟨L,rfl,V⟩:=T;have M:lA I xs ws:=λx l w n=>by obtain⟨v,C,v1,E⟩:=T0 x w ⟨l,n⟩;exact⟨v,C,v1,by rw[←cj];exact E⟩
 have N:lA L xs ws:=λx l w n=>by obtain⟨v,C,v1,E⟩:=S x w ⟨l,n⟩;exact⟨v,C,v1,by rw[←cj];exact E⟩
 have q:(Ck xs ws).length<=400:=by rw[←K,List.length_map];rw[jf]at G;exact G
 have lf:=fX o
 let c:List Cell:=[.ins "Facts" (ll fn (Ω.length+1) (Ω.length+2)),.dT [],.lst [],.ins "Facts" (ll fn (Ω.length+4) (Ω.length+5)),.dT [],.lst [],.dT [],.lst []]
 let a:Ad:=⟨kx,kw,j,k,b,d,e,fn,Ω.length,Ω.length+1,Ω.length+2,Ω.length+3,Ω.length+4,Ω.length+5,Ω.length+6,Ω.length+7⟩
 have g:∀i,(Ω++c)[Ω.length+i]?=c[i]?:=λi=>by rw[List.getElem?_append_right (by omega)];simp
 have X:J (Ω++c) a xs ws I L 0 [] [] []:=⟨aE l,aE n,aE P,aE Q,aE t,aE u,aE y,aE o,⟨g 0,g 1,g 2⟩,⟨g 3,g 4,g 5⟩,g 6,g 7,by unfold Ad.Ord;simp only[a];omega⟩
 have Y:∀(m:SM),(ao (aU 4 (mN (ju "Facts" (bh 2 2 zw)) (aa (af 3) aq))) (ao (aU 5 (mN (ju "Facts" (bh 2 2 zw)) (aa (af 3) aq))) (ao (aU 6 d_) (ao (aU 7 (mN dm aq)) m)))) (EV ns (some (.ref kx)) (some (.ref kw)) (some (.ref fn)) none none none none (some (.ref e)) (some (.ref d)) (some (.ref b))) Ω=m (EL ns a none none) (Ω++c):=by
  intro m;have Z:aU 4 (mN (ju "Facts" (bh 2 2 zw)) (aa (af 3) aq)) (EV ns (some (.ref kx)) (some (.ref kw)) (some (.ref fn)) none none none none (some (.ref e)) (some (.ref d)) (some (.ref b))) Ω=.nx (EV ns (some (.ref kx)) (some (.ref kw)) (some (.ref fn)) (some (.ref Ω.length)) none none none (some (.ref e)) (some (.ref d)) (some (.ref b))) (Ω++[.ins "Facts" (ll fn (Ω.length+1) (Ω.length+2)),.dT [],.lst []]):=by simp[yQ]
  have r:=yQ (Ω:=Ω++[.ins "Facts" (ll fn (Ω.length+1) (Ω.length+2)),.dT [],.lst []]) (fn:=fn);have hL:(Ω++[Cell.ins "Facts" (ll fn (Ω.length+1) (Ω.length+2)),.dT [],.lst []]).length=Ω.length+3:=by simp
  rw[hL,List.append_assoc]at r
  have s2:aU 5 (mN (ju "Facts" (bh 2 2 zw)) (aa (af 3) aq)) (EV ns (some (.ref kx)) (some (.ref kw)) (some (.ref fn)) (some (.ref Ω.length)) none none none (some (.ref e)) (some (.ref d)) (some (.ref b))) (Ω++[.ins "Facts" (ll fn (Ω.length+1) (Ω.length+2)),.dT [],.lst []])=.nx (EV ns (some (.ref kx)) (some (.ref kw)) (some (.ref fn)) (some (.ref Ω.length)) (some (.ref (Ω.length+3))) none none (some (.ref e)) (some (.ref d)) (some (.ref b))) (Ω++[.ins "Facts" (ll fn (Ω.length+1) (Ω.length+2)),.dT [],.lst [],.ins "Facts" (ll fn (Ω.length+4) (Ω.length+5)),.dT [],.lst []]):=by
   simp only[ka,qk,dX,iY,fT,hZ,List.getElem?_cons_succ,List.getElem?_cons_zero];simp[r]
  have s3:aU 6 d_ (EV ns (some (.ref kx)) (some (.ref kw)) (some (.ref fn)) (some (.ref Ω.length)) (some (.ref (Ω.length+3))) none none (some (.ref e)) (some (.ref d)) (some (.ref b))) (Ω++[.ins "Facts" (ll fn (Ω.length+1) (Ω.length+2)),.dT [],.lst [],.ins "Facts" (ll fn (Ω.length+4) (Ω.length+5)),.dT [],.lst []])=.nx (EV ns (some (.ref kx)) (some (.ref kw)) (some (.ref fn)) (some (.ref Ω.length)) (some (.ref (Ω.length+3))) (some (.ref (Ω.length+6))) none (some (.ref e)) (some (.ref d)) (some (.ref b))) (Ω++[.ins "Facts" (ll fn (Ω.length+1) (Ω.length+2)),.dT [],.lst [],.ins "Facts" (ll fn (Ω.length+4) (Ω.length+5)),.dT [],.lst [],.dT []]):=by
   simp[d_,tQ]
  have s4:aU 7 (mN dm aq) (EV ns (some (.ref kx)) (some (.ref kw)) (some (.ref fn)) (some (.ref Ω.length)) (some (.ref (Ω.length+3))) (some (.ref (Ω.length+6))) none (some (.ref e)) (some (.ref d)) (some (.ref b))) (Ω++[.ins "Facts" (ll fn (Ω.length+1) (Ω.length+2)),.dT [],.lst [],.ins "Facts" (ll fn (Ω.length+4) (Ω.length+5)),.dT [],.lst [],.dT []])=.nx (EL ns a none none) (Ω++c):=by
   simp[az,c,a]
  rw[ax,Z,aQ,ax,s2,aQ,ax,s3,aQ,ax,s4,aQ]
 unfold cB;rw[Y];obtain⟨a0,n',p8,p9,r,hn,lk,ls,rs,J2,R,b1,b2,b3⟩:=IV (F2:=F2) (F4:=F4) s O X z A B M N H U;rw[ax,r,aQ];exact IZ J2 R (by omega) hn K V (Fw xs ws) q (λp hp=>Cn hp) M N H
theorem FD(c:eM δ F)(f:ns.length<=63)(V:∀i:Int,F2 [.int i]=.ok (false,.bl true))(X:Fx F4):∃aD,zg 13 (cA F) 3 0 [10,11,12] (cB F F2 F4) [.lst (ns.map .int)] []=.ok (.bl true) aD:=by
 obtain⟨p0,p1,Y⟩:=c ns 6 4 f (by omega) (by omega) (by omega)
 obtain⟨q0,q1,Z⟩:=c ns 8 3 f (by omega) (by omega) (by omega)
 obtain⟨j0,j1,Q⟩:=c ns 74 3 f (by omega) (by omega) (by omega)
 generalize δ ns 6 4=p at *;generalize δ ns 8 3=q at *;generalize δ ns 74 3=j at *;obtain⟨r,h,g,lx,R,G,K1,_⟩:=uo (Ω:=[]) c f (a:=0) (by omega) (by omega) (n:=(1+p).toNat) (by omega)
 obtain⟨s,e,l,lw,S,H,K2,_⟩:=uo (Ω:=h) c f (a:=7) (by omega) (by omega) (n:=(1+q).toNat) (by omega)
 have I:=K2.get _ _ G (by simp)
 rw[show(((1+p).toNat:Nat):Int)=1+p by omega]at R
 rw[show(((1+q).toNat:Nat):Int)=1+q by omega]at S
 unfold zg;have e0:aP 13 [Mir.D.lst (ns.map .int)]=EV ns none none none none none none none none none none:=rfl;rw[e0];have s1:aU 1 (mN (cm (bh 12 3 (Fu F))) (aa (af 0) (aa (ag (.int 0)) (aa (m2 (aJ .Add) (ag (.int 1)) (mN (bZ F) (aa (af 0) (aa (ag (.int 6)) (aa (ag (.int 4)) aq))))) aq)))) (EV ns none none none none none none none none none none) []=.nx (EV ns (some (.ref g)) none none none none none none none none none) h:=by simp[Y,R]
 have s2:aU 2 (mN (cm (bh 12 3 (Fu F))) (aa (af 0) (aa (ag (.int 7)) (aa (m2 (aJ .Add) (ag (.int 1)) (mN (bZ F) (aa (af 0) (aa (ag (.int 8)) (aa (ag (.int 3)) aq))))) aq)))) (EV ns (some (.ref g)) none none none none none none none none none) h=.nx (EV ns (some (.ref g)) (some (.ref l)) none none none none none none none none) e:=by simp[Z,S]
 obtain⟨r,s,g,l,d,s3,m,o,x1,J,w1,T⟩:∃(r s:List Str) (t u:Nat) (d:aI),(eJ (m2 (bg .Eq) (mN (bZ F) (aa (af 0) (aa (ag (.int 74)) (aa (ag (.int 3)) aq)))) (ag (.int 1)))
 (ao (pX [1,2] (mN (cm (bh 7 2 (Fv F))) (aa (af 0) (aa (mN dm (aa (ag (.str "")) (aa (ag (.str " ")) (aa (ag (.str ".")) (aa (ag (.str "a")) (aa (ag (.str ":")) (aa (ag (.str "|")) (aa (ag (.str "/")) (aa (ag (.str ",")) aq))))))))) aq)))) au) au) (EV ns (some (.ref g)) (some (.ref l)) none none none none none none none none) e=.nx (EV ns (some (.ref t)) (some (.ref u)) none none none none none none none none) d/\d[t]?=some (.lst (r.map .str))/\d[u]?=some (.lst (s.map .str))/\1<=r.length/\r.length<=20/\1<=s.length/\s.length<=20:=by
  by_cases w:j=1
  .have gs:(e++[Cell.lst (([""," ",".","a",":","|","/",","]:List Str).map .str)])[e.length]?=some (.lst (([""," ",".","a",":","|","/",","]:List Str).map .str)):=a_
   obtain⟨us,vs,d,i,k,lu,lv,e3,gu,gv,K3⟩:=IE c f gs rfl (by decide +kernel)
   refine⟨us,vs,i,k,d,?_,gu,gv,by omega,by omega,by omega,by omega⟩
   have K:bh 7 2 (Fv F) [SC ns,.ref e.length] (e++[.lst [.str "",.str " ",.str ".",.str "a",.str ":",.str "|",.str "/",.str ","]])=.ok (.tup [.ref i,.ref k]) d:=e3;simp[Q,w,bN,aH,du,az,pX,K,mJ]
  .exact⟨r,s,g,l,e,by simp[Q,w,bN,aH,du],I,H,by omega,by omega,by omega,by omega⟩
 obtain⟨a0,L,x,e4,y,T0,E0,b0,U,o4⟩:=zb (Ω:=d) c f (a:=20) (by omega) (by omega) m o J T
 have z:=U.get _ _ m (by simp)
 have A:=U.get _ _ o (by simp)
 obtain⟨c0,b,B,e5,C,T1,E1,b1,M,o5⟩:=zb (Ω:=L) c f (a:=40) (by omega) (by omega) z A J T
 have N:=M.get _ _ z (by simp)
 have O:=M.get _ _ A (by simp)
 have P:=M.get _ _ y (by simp)
 have lx:=fX m;have lw:=fX o;have l0:=fX y;have l1:=fX C
 have sA:cA F (EV ns none none none none none none none none none none) []=.nx (EV ns (some (.ref g)) (some (.ref l)) none none none none none (some (.ref (b.length+2))) (some (.ref (b.length+1))) (some (.ref b.length))) (b++[.lst [.ref x,.ref B],.lst [.int 0],.lst []]):=by
  unfold cA;rw[ax,s1,aQ,ax,s2,aQ,ax,s3,aQ];simp[e4,e5,az]
 have sD:qH 3 0 [10,11,12] (EV ns (some (.ref g)) (some (.ref l)) none none none none none (some (.ref (b.length+2))) (some (.ref (b.length+1))) (some (.ref b.length))) (b++[.lst [.ref x,.ref B],.lst [.int 0],.lst []])=.nx (EV ns (some (.ref g)) (some (.ref l)) (some (.ref (b.length+3))) none none none none (some (.ref (b.length+2))) (some (.ref (b.length+1))) (some (.ref b.length))) (b++[.lst [.ref x,.ref B],.lst [.int 0],.lst []]++[.fn 0 [.ref (b.length+2),.ref (b.length+1),.ref b.length]]):=by
  show fS.nx _ _=_
  simp
 rw[ax,sA,aQ,ax,sD,aQ,List.append_assoc];have E:∀i,(b++[Cell.lst [.ref x,.ref B],.lst [.int 0],.lst [],.fn 0 [.ref (b.length+2),.ref (b.length+1),.ref b.length]])[b.length+i]?=([Cell.lst [.ref x,.ref B],.lst [.int 0],.lst [],.fn 0 [.ref (b.length+2),.ref (b.length+1),.ref b.length]])[i]?:=λi=>by rw[List.getElem?_append_right (by omega)];simp
 exact I_ c f (aE N) (aE O) (aE P) (aE C) (E 0) (E 1) (E 2) (E 3) (by omega) (by omega) (by omega) (by omega) (by omega) (by omega) (by omega) T0 T1 E0 E1 b0 x1 w1 J V X
end
end Mir
namespace Mir
open PySem
open PySem.Spec PyProof.Rows L2
end Mir
namespace L2
open PySem PySem.Spec PyProof.Rows
noncomputable def zo(e:DictEntry):Bool:=match e.key with
 |.str _ _=>true
 |_=>false
def Ld(K:PySem.W.Frag)(N:Addr)(nm:Str):Option (Option Value):=match K.lookup N with
 |some ⟨_,_,.dict a _,_⟩=>if a.toList.all zo=true then some (nsFind a nm)else none
 |_=>none
theorem Dl{K:PySem.W.Frag}{N:Addr}{nm:Str}{r:Option Value}(h:Ld K N nm=some r)(f:Heap)(X:K.In f):∃mN,f.Ns N mN/\mN nm=r:=by
 unfold Ld at h;split at h
 .rename_i c d g n l i
  split at h
  .rename_i j
   cases h;refine⟨nsFind g,⟨_,g,n,X _ _ i,rfl,λe k=>?_,λ_=>rfl⟩,rfl⟩
   have:=List.all_eq_true.mp j e (by simpa using k)
   unfold zo at this;split at this
   .rename_i a b q;exact⟨a,b,q⟩
   .cases this
  .cases h
 .cases h
def qI(K:PySem.W.Frag):List Value->Bool
 |.ref A::tl=>(match K.lookup A with
  |some ⟨_,_,.cls cd,_⟩=>Ld K cd.ns "__init__"==some none
  |_=>false)&&qI K tl
 |l=>l==iu
theorem uw{K:PySem.W.Frag}:∀{l:List Value},qI K l=true->∀h:Heap,K.In h->OwnTail h iu l
 |[],e,h,X=>by simp[qI]at e
 |a::r,e,h,X=>by
  cases a with
  |ref A=>
   simp only[qI,Bool.and_eq_true]at e;obtain⟨b,f⟩:=e;split at b
   .rename_i c d k m g
    obtain⟨mN,i,j⟩:=Dl (eq_of_beq b) h X;exact .own (X _ _ g) i j (uw f h X)
   .cases b
  |_=>rw[eq_of_beq (show(_==iu)=true from e)];exact .base
end L2
namespace FE
open PySem PySem.Spec PyProof.Rows L2 Mir
noncomputable def top(i:Nat):Stmt:=PySem.Challenge.pw_taglook_k37_facts_known.main.body.getD i (.Pass ⟨0,0,0,0⟩)
def cst:Stmt:=(ay (top 30)).getD 6 (.Pass ⟨0,0,0,0⟩)
def CD0:pA:={name:="_law_teller",qual:="law.<locals>._law_teller",params:=aN cst,body:=ay cst,scope:=ae cst,ps:=["_law_kind","_law_word"],cn:=["_law_asked","_law_now","_law_tables"]}
instance clos:aw:=⟨λ_=>CD0,λ_=>0⟩
noncomputable def td:List Str:=["strengths","_law_table_here","_law_known"]
def MR:aK:=((((({}:aK).Bq "DEEPEST" (.int 8)).qj "teller" ["Facts"]).qj "strengths" ["Facts"]).qj "asked" ["Facts"])
noncomputable def PJ:List Str:=["_law_cell","_law_turn","_law_many","_law_rest","_law_k","_law_turns","_law_one","_law_two"]
noncomputable def PK:List Str:=["_law_cell","_law_turn","_law_many"]
def PL:SM:=qz
def QR:b_:=bh 8 3 PL
def F0:List Mir.D->Out Rs:=pureOf QR
def MS:aK:=MR.jP "_law_mix" F0
theorem QS:bK PJ PK (ae (top 17))=true:=by decide +kernel
theorem QT:cH MR td (top 17) PJ=some PL:=rfl
noncomputable def PM:List Str:=["_law_script","_law_k","_law_many","_law_cell"]
noncomputable def PN:List Str:=["_law_script","_law_k","_law_many"]
def PQ:SM:=t_ (pureOf (bh 8 3 qz))
def QU:b_:=bh 4 3 PQ
def F1:List Mir.D->Out Rs:=pureOf QU
def MT:aK:=MS.jP "_law_drawn" F1
theorem QV:bK PM PN (ae (top 18))=true:=by decide +kernel
theorem QW:cH MS td (top 18) PM=some PQ:=rfl
noncomputable def PR:List Str:=["_law_found"]
noncomputable def PU:List Str:=["_law_found"]
def Le:SM:=
 (ao (cu (fQ (m1 (eo .int) (af 0)) (gf (m1 (eo .bool) (af 0)))))
 au)
def PV:b_:=bh 1 1 Le
def F2:List Mir.D->Out Rs:=pureOf PV
def MU:aK:=MT.jP "_law_whole" F2
theorem QX:bK PR PU (ae (top 23))=true:=by decide +kernel
theorem QY:cH MT td (top 23) PR=some Le:=rfl
noncomputable def PX:List Str:=["thing","least","most"]
noncomputable def PY:List Str:=["thing","least","most"]
def FF:SM:=
 (ao (eJ (vd (m1 (eo .bool) (af 0)) (gf (m1 (eo .int) (af 0))))
 (ao (cu (ag (.bl false)))
 au)
 au)
 (ao (cu (lL .LtE .LtE (af 1) (af 0) (af 2)))
 au))
def MV:b_:=bh 3 3 FF
def F3:List Mir.D->Out Rs:=pureOf MV
def MW:aK:=MU.jP "is_whole" F3
theorem QZ:bK PX PY (ae (top 11))=true:=by decide +kernel
theorem Q_:cH MU td (top 11) PX=some FF:=rfl
noncomputable def PZ:List Str:=["thing"]
noncomputable def P_:List Str:=["thing"]
def Lf:SM:=
 (ao (cu (mN (bZ F3) (aa (af 0) (aa (ag (.int 0)) (aa (ag (.int 2)) aq)))))
 au)
def Qa:b_:=bh 1 1 Lf
def F4:List Mir.D->Out Rs:=pureOf Qa
def Qb:aK:=MW.jP "is_strength" F4
theorem Ra:bK PZ P_ (ae (top 13))=true:=by decide +kernel
theorem Rb:cH MW td (top 13) PZ=some Lf:=rfl
def U0:aK:=Qb
def d0:SM:=Cb
def O0:List Mir.D->b_:=lj 2 d0
def U1:aK:=U0.B_ O0
theorem Rc:oB CD0.ps CD0.cn CD0.scope=true:=by decide +kernel
theorem Rf:C_ U0 CD0=some d0:=rfl
noncomputable def Qc:List Str:=["thing","depth"]
noncomputable def FG:List Str:=["thing","depth"]
def d1:SM:=Cj cy cy cy
def O1:b_:=bh 2 2 d1
def U2:aK:=U1.dW "own_copy" O1
theorem Rg:bK Qc FG (ae (top 3))=true:=by decide +kernel
theorem Rh:cH U1 td (top 3) Qc=some d1:=rfl
noncomputable def Qd:List Str:=["thing","depth"]
noncomputable def Ri:List Str:=["thing","depth"]
def d2:SM:=Cj (cu (Iv Mir.Fl)) (cu (mN (dc .tuple) (aa (Iv Mir.Fl) aq))) cy
def O2:b_:=bh 2 2 d2
def U3:aK:=U2.dW "own_copy" O2
theorem Rj:bK Qd Ri (ae (top 3))=true:=by decide +kernel
theorem Rk:cH U2 td (top 3) Qd=some d2:=rfl
noncomputable def Qe:List Str:=["self","teller"]
noncomputable def Qf:List Str:=["self","teller"]
def d3:SM:=zw
def O3:b_:=bh 2 2 d3
def U4:aK:=U3.hJ "Facts" "__init__" O3
theorem Rl:bK Qe Qf (ae (inClass (top 15) 0))=true:=by decide +kernel
theorem Rm:cH U3 td (inClass (top 15) 0) Qe=some d3:=rfl
def U5:aK:=U4.Bp "Facts" O3
noncomputable def Qg:List Str:=["self","kind","word"]
noncomputable def Qh:List Str:=["self","kind","word"]
def d5:SM:=oJ
def O5:b_:=bh 3 3 d5
def U6:aK:=U5.hJ "Facts" "known" O5
theorem Rn:bK Qg Qh (ae (inClass (top 15) 2))=true:=by decide +kernel
theorem Ro:cH U5 td (inClass (top 15) 2) Qg=some d5:=rfl
noncomputable def Qi:List Str:=["self","kind","word"]
noncomputable def Qj:List Str:=["self","kind","word"]
def d6:SM:=cStr (bh 3 3 oJ) [lj 2 Cb]
def O6:b_:=bh 3 3 d6
def U7:aK:=U6.hJ "Facts" "strength" O6
theorem Rp:bK Qi Qj (ae (inClass (top 15) 1))=true:=by decide +kernel
theorem Rq:cH U6 td (inClass (top 15) 1) Qi=some d6:=rfl
noncomputable def Lg:List Str:=["self","kind","word","one"]
noncomputable def MX:List Str:=["self","kind","word","one"]
def d7:SM:=zx F4 cy
def O7:b_:=bh 4 4 d7
def U8:aK:=U7.hJ "Facts" "tell" O7
theorem Qk:bK Lg MX (ae (inClass (top 15) 3))=true:=by decide +kernel
theorem Rr:cH U7 td (inClass (top 15) 3) Lg=some d7:=rfl
def T7:aK:={U7 with xt:=true}
def Rt:b_:=KZ F4
theorem MY:cS (oA (ui T7 (ae (inClass (top 15) 3)) Lg "NoStrength" "value" FZ) T7 td 60 (ae (inClass (top 15) 3)) Lg 30) (ay (inClass (top 15) 3))=some (zx F4 (lh "NoStrength" "value" FZ (af 3))):=rfl
noncomputable def Ql:List Str:=["self","kind","word"]
noncomputable def Qm:List Str:=["self","kind","word"]
def d8:SM:=FW
def O8:b_:=bh 3 3 d8
def U9:aK:=U8.hJ "Facts" "forget" O8
theorem Ru:bK Ql Qm (ae (inClass (top 15) 4))=true:=by decide +kernel
theorem Rv:cH U8 td (inClass (top 15) 4) Ql=some d8:=rfl
noncomputable def Qn:List Str:=["self"]
noncomputable def Qo:List Str:=["self"]
def d9:SM:=Ij
def O9:b_:=bh 1 1 d9
def MZ:aK:=U9.hJ "Facts" "reads" O9
theorem Rw:bK Qn Qo (ae (inClass (top 15) 5))=true:=by decide +kernel
theorem Rx:cH U9 td (inClass (top 15) 5) Qn=some d9:=rfl
noncomputable def Ja:List Str:=["self","kind"]
noncomputable def Jb:List Str:=["self","kind"]
def Qp:SM:=vS
def Ry:b_:=dr (bh 2 2 Qp)
def M_:aK:=MZ.hJ "Facts" "words_known" Ry
theorem Na:bK Ja Jb (ae (inClass (top 15) 6))=true:=by decide +kernel
theorem Nb:cH MZ td (inClass (top 15) 6) Ja=some Qp:=rfl
noncomputable def Jc:List Str:=["_law_one","_law_other","_law_many","_law_names_here","_law_k"]
noncomputable def Jd:List Str:=["_law_one","_law_other","_law_many"]
def Qq:SM:=Iz
def Rz:b_:=bh 5 3 Qq
def Nc:aK:=M_.dW "_law_short" Rz
theorem Nd:bK Jc Jd (ae (top 19))=true:=by decide +kernel
theorem Nf:cH M_ td (top 19) Jc=some Qq:=rfl
noncomputable def Je:List Str:=["_law_script","_law_at","_law_many","_law_letters","_law_first","_law_step_here","_law_base","_law_size","_law_place","_law_names_here","_law_k","_law_sign"]
noncomputable def Jf:List Str:=["_law_script","_law_at","_law_many"]
def Qr:SM:=Fu F1
def RA:b_:=bh 12 3 Qr
def Ng:aK:=Nc.dW "_law_names" RA
theorem Nh:bK Je Jf (ae (top 20))=true:=by decide +kernel
theorem Ni:cH Nc td (top 20) Je=some Qr:=rfl
noncomputable def Jg:List Str:=["_law_script","_law_signs","_law_letters","_law_one","_law_two","_law_three","_law_sign"]
noncomputable def Jh:List Str:=["_law_script","_law_signs"]
def Qs:SM:=Fv F1
def RB:b_:=bh 7 2 Qs
def Nj:aK:=Ng.dW "_law_joined" RB
theorem Nk:bK Jg Jh (ae (top 21))=true:=by decide +kernel
theorem Nl:cH Ng td (top 21) Jg=some Qs:=rfl
noncomputable def Ji:List Str:=["_law_script","_law_at","_law_kinds","_law_words_here","_law_table_here","_law_dense","_law_kind","_law_word","_law_pick"]
noncomputable def Jj:List Str:=["_law_script","_law_at","_law_kinds","_law_words_here"]
def Qt:SM:=iZ F1
def RC:b_:=bh 9 4 Qt
def Nm:aK:=Nj.dW "_law_table" RC
theorem Nn:bK Ji Jj (ae (top 22))=true:=by decide +kernel
theorem Np:cH Nj td (top 22) Ji=some Qt:=rfl
noncomputable def Jk:List Str:=["_law_found","_law_due"]
noncomputable def Jl:List Str:=["_law_found","_law_due"]
def Qu:SM:=vU
def RD:b_:=bh 2 2 Qu
def Nq:aK:=Nm.dW "_law_pairs" RD
theorem Nr:bK Jk Jl (ae (top 24))=true:=by decide +kernel
theorem Nt:cH Nm td (top 24) Jk=some Qu:=rfl
noncomputable def Jm:List Str:=["_law_found","_law_due"]
noncomputable def Jn:List Str:=["_law_found","_law_due"]
def Qv:SM:=oE F2
def RE:b_:=bh 2 2 Qv
def Qw:aK:=Nq.dW "_law_number" RE
theorem Nu:bK Jm Jn (ae (top 25))=true:=by decide +kernel
theorem Nv:cH Nq td (top 25) Jm=some Qv:=rfl
noncomputable def Nw:List Str:=["_law_facts","_law_pair","_law_thing","e"]
noncomputable def Jo:List Str:=["_law_facts","_law_pair","_law_thing"]
def RF:b_:=Fo F4
def Nx:aK:=Qw.dW "_law_refused" RF
theorem Ny:bK Nw Jo (ae (top 26))=true:=by decide +kernel
noncomputable def Jp:List Str:=["_law_facts","_law_kinds","_law_known","_law_kind","_law_due","_law_found"]
noncomputable def Jq:List Str:=["_law_facts","_law_kinds","_law_known"]
def Qx:SM:=FX (dr (bh 2 2 vS))
def RG:b_:=dr (bh 6 3 Qx)
def Nz:aK:=Nx.dW "_law_words" RG
theorem NA:bK Jp Jq (ae (top 27))=true:=by decide +kernel
theorem NB:cH Nx td (top 27) Jp=some Qx:=rfl
noncomputable def Jr:List Str:=["_law_script","_law_k","_law_facts","_law_pair","_law_state","_law_table_here","_law_known","_law_reads","_law_way","_law_one"]
noncomputable def Js:List Str:=["_law_script","_law_k","_law_facts","_law_pair","_law_state","_law_table_here"]
def Qy:SM:=zc F1 F2 F4
def RH:b_:=bh 10 6 Qy
def NC:aK:=Nz.dW "_law_step" RH
theorem ND:bK Jr Js (ae (top 28))=true:=by decide +kernel
theorem NF:cH Nz td (top 28) Jr=some Qy:=rfl
noncomputable def Jt:List Str:=["_law_beside_here","_law_facts","_law_known","_law_table_here","_law_pair"]
noncomputable def Ju:List Str:=["_law_beside_here","_law_facts","_law_known","_law_table_here"]
def Qz:SM:=IW F2
def RI:b_:=bh 5 4 Qz
def NG:aK:=NC.dW "_law_beside" RI
theorem NH:bK Jt Ju (ae (top 29))=true:=by decide +kernel
theorem NI:cH NC td (top 29) Jt=some Qz:=rfl
noncomputable def Cq:List Str:=["_law_script","_law_kinds","_law_words_here","_law_teller","_law_facts","_law_beside_here","_law_known","_law_reads","_law_k","_law_pair","_law_asked","_law_now","_law_tables"]
noncomputable def FH:List Str:=["_law_script"]
def Jv:SM:=cA F1
def Jw:SM:=cB F1 F2 F4
def Lh:b_:=zg 13 Jv 3 0 [10,11,12] Jw
def UF:aK:={NG with fz:=["_law_asked","_law_now","_law_tables"]}
def Jx:List Stmt:=(ay (top 30)).take 6
def Jy:List Stmt:=(ay (top 30)).drop (6+1)
theorem NJ:bK Cq FH (ae (top 30))=true:=by decide +kernel
theorem NK:cS (iX NG td 60 (ae (top 30)) Cq 30) Jx=some Jv:=rfl
theorem NL:cS (iX UF td 60 (ae (top 30)) Cq 30) Jy=some Jw:=rfl
theorem NM:ay (top 30)=Jx++.FunctionDef CD0.name CD0.params CD0.body [] none [] CD0.scope none CD0.name (FA cst)::Jy:=rfl
theorem RJ:zh "law" (ae (top 30)) Cq CD0 3 [10,11,12] (zi CD0.cn (ae (top 30))):=zm (by decide +kernel) (λ_ _ _=>rfl) (λ_=>rfl) λ_ _ _=>rfl
end FE
namespace FE
open PySem PySem.Spec L2 Mir
theorem RK:∃a,eM a F1:=EU (vL λc t m b d e=>BK b d e)
theorem Jz(i:Int):F2 [.int i]=.ok (false,.bl true):=by
 refine dC (aD:=[]) rfl ?_ rfl;unfold PV;rw[bo (by rfl)]
 show cG (Le [some (.int i)] [])=_
 have a:eo .bool (.int i) []=.ok (.bl false) []:=rfl;have b:eo .int (.int i) []=.ok (.bl true) []:=rfl;simp[Le,a,b]
theorem zp(i:Int):F3 [.int i,.int 0,.int 2]=.ok (false,.bl (decide (0<=i/\i<=2))):=by
 refine dC (aD:=[]) rfl ?_ rfl;unfold MV;rw[bo (by rfl)]
 show cG (FF [some (.int i),some (.int 0),some (.int 2)] [])=_
 have c:eo .bool (.int i) []=.ok (.bl false) []:=rfl;have d:eo .int (.int i) []=.ok (.bl true) []:=rfl
 by_cases a:0<=i<;>by_cases b:i<=2<;>simp[FF,c,d,lL,bN,a,b]
theorem ux{d:Mir.D}(a:CU d=true)(h:eo .bool d []=.ok (.bl true) []\/eo .bool d []=.ok (.bl false) []/\eo .int d []=.ok (.bl false) []):F3 [d,.int 0,.int 2]=.ok (false,.bl false):=by
 refine dC (aD:=[]) (by simp only[List.all_cons,a];rfl) ?_ rfl
 unfold MV;rw[bo (by rfl)]
 show cG (FF [some d,some (.int 0),some (.int 2)] [])=_
 rcases h with h|⟨b,c⟩
 .simp[FF,h]
 .simp[FF,b,c]
theorem mS{d:Mir.D}{b:Bool}(a:CU d=true)(c:dE [] 8 d=some d)(h:F3 [d,.int 0,.int 2]=.ok (false,.bl b)):F4 [d]=.ok (false,.bl b):=by
 refine dC (aD:=[]) (by simp only[List.all_cons,a];rfl) ?_ rfl
 unfold Qa;rw[bo (by rfl)]
 show cG (Lf [some d] [])=_
 simp[Lf,j_,og,c,h]
theorem JA:Fx F4 where
 yes i h0 h1:=mS rfl rfl (by rw[zp,decide_eq_true ⟨h0,h1⟩])
 no i h:=mS rfl rfl (by rw[zp,decide_eq_false (by omega)])
 non:=mS rfl rfl (ux rfl (.inr ⟨rfl,rfl⟩))
 bl b:=mS rfl rfl (ux rfl (.inl rfl))
 str z:=mS rfl rfl (ux rfl (.inr ⟨rfl,rfl⟩))
 lst i:=mS rfl rfl (ux rfl (.inr ⟨rfl,rfl⟩))
theorem zq(ns:List Int)(b:ns.length<=63):∃aD,Lh [.lst (ns.map .int)] []=.ok (.bl true) aD:=by
 obtain⟨c,a⟩:=RK;exact FD a b Jz JA
open PyProof.Rows
noncomputable section
def stI:Stmt:=inClass (top 7) 0
def vI:Expr:=match ay stI with
 |.Assign _ v _::_=>v
 |_=>.Constant .none 0 ⟨0,0,0,0⟩
theorem RL:bK ["self","value"] ["self","value"] (ae stI)=true:=by decide +kernel
def NN:List Stmt:=match ay (top 26)with
 |.Try _ [.ExceptHandler _ _ b _] _ _ _::_=>b
 |_=>[]
end
theorem Cr{κ:Str->Addr->Prop}{H:Hp}{a:Addr}{o:HO}(c:L2.Rd H a o):bb κ [] (λb=>b=a) [] H:=
 ⟨by simp,.nil,λa d=>by simp at d,λb e=>by
  subst e;rcases c with e|⟨o,e⟩<;>rw[e]<;>simp⟩
theorem JB{K:PySem.W.Frag}{c:Str->Option Value}{a:Addr}(g:XBase K c "LookError" a):∃(bn:Str) (a:Addr) (a1 a2 d p1 p2 p3 b h apos pos:Pos) (pl:Env->Sem Bool),XBase K c bn a/\(bn==("__debug__":Str))=false/\(ae stI).names.lookup bn=some .globalImplicit /\
  ay stI=[.Assign [.Attribute (.Name "self" a1) "value" a2] vI d,.Expr (.Call (.Attribute (.Name bn p1) "__init__" apos) [.Name "self" p2,.Attribute (.Name "self" p3) "value" b] [] pos) h] /\
  (∀env,swapsWith vI (some (.Attribute (.Name "self" a1) "value" a2)) d.line env=pure false)/\(apos.endLine==pos.line)=true /\
  (∀env:Env,eval (.Call (.Attribute (.Name bn p1) "__init__" apos) [.Name "self" p2,.Attribute (.Name "self" p3) "value" b] [] pos) env=(do
   let e ←eval (.Name bn p1) env
   standAt apos.atName
   let (f,first) ←holding [e] (getMethod e "__init__" (pl env))
   callWith pos f first (backTo pos (starEach [.Name "self" p2,.Attribute (.Name "self" p3) "value" b] env)) (backToKw pos (keywordEach [] env)))):=
 ⟨"LookError",a,_,_,_,_,_,_,_,_,_,_,_,g,rfl,rfl,rfl,λ_=>rfl,rfl,λ_=>rfl⟩
theorem NO{P:Program}{w:World}{K:PySem.W.Frag}{a:Str->Option Value}{base:Heap}(W:aY P w K a base U7 12){d f g:Addr}{n:FuncData}{tk:Tok}(F:bF P w K a base ek 12 d n FG (dq (bO a) O2))(p:Binds K n FG [.int 0 tk])(q:a "own_copy"=some (.ref d))(r:PySem.W.keepIn K (.ref d)=true) :
    ∀(b:Around) (i:List Env) (c:Shared) (e:Addr) (k:Hp) (l:XK),br 12 (b.deeper (envOfC "NoStrength.__init__" (ae stI) c.heap.objs.size f (.ref g)))->bc ((cx ek P w K a base ["self","value"] "NoStrength.__init__" (ae stI) f (.ref g) b i c k l).hP.mk1 e) (bO a) ji vI FZ:=by
  intro b i c e k l o
  have G:GoodO ((cx ek P w K a base ["self","value"] "NoStrength.__init__" (ae stI) f (.ref g) b i c k l).hP.mk1 e) (bO a) U7 12 (ae stI) ["self","value"]:=
    { scope:=rfl,names:=rfl,calm:=rfl,room:=o,cM:=W.cM,fld:=W.fld,cst:=W.cst
      gh:=λx F h=>⟨W.gh x F h⟩,fn:=λx F h=>⟨W.fn x F h⟩,met:=λm C F h=>⟨W.met m C F h⟩,cls:=λC F h=>let ⟨j,s,t⟩:=W.cls C F h;⟨j,s,⟨t⟩⟩,clo:=W.clo }
  exact vR (Dd:=[.int 0]) (iz:=[.int 0]) F o rfl q r p (.cons ⟨tk,rfl⟩ .nil) (λ_ _ _=>.one (by simp only[ah])) rfl rfl rfl (pD ((iq 60 _ (ae stI) ["self","value"] _ (af 1) G rfl).1 _) tp rfl)
theorem JC{K:PySem.W.Frag}{a:Str->Option Value}{C q1 q2 q3 q4:Addr}(d:a "NoStrength"=some (.ref C))(e:a "NoKind"=some (.ref q1))(f:a "NoName"=some (.ref q2))(g:a "NoRoom"=some (.ref q3))(i:a "NotThere"=some (.ref q4))(j:a "ValueError"=none)
  (c:PySem.W.kitOne K (.ref C) (.type "ValueError")=some true) (k:PySem.W.kitAny K (.ref C) [.ref q1,.ref q2,.ref q3,.ref q4]=some false) (l:PySem.W.kitOne K (.ref C) (.ref C)=some true) :
  Ih K a (ae (top 26)) C "e" "_law_thing" "value" NN:=by
 refine⟨"ValueError","NoStrength",[("NoKind",_),("NoName",_),("NoRoom",_),("NotThere",_)],[.ref q1,.ref q2,.ref q3,.ref q4],.type "ValueError",_,_,_,_,_,_,_,_,_,_,_,_,_,_,_,_,_,_,_,_,_,_,_,_,_,_,_,_,_,_,_,_,_,_,_,_,rfl,λX m n=>?_,by simp,c,k,l⟩
 have b:∀x:Str,(ae (top 26)).names.lookup x=some .globalImplicit->Gl X x:=λx h=>by show X.env.scope.names.lookup x=_;rw[m];exact h
 subst n;exact⟨rZ (b _ rfl) j rfl (by decide) rfl,.cons (eO (b _ rfl) e rfl) (.cons (eO (b _ rfl) f rfl) (.cons (eO (b _ rfl) g rfl) (.cons (eO (b _ rfl) i rfl) .nil))),eO (b _ rfl) d rfl⟩
theorem all_mk{P:Program}{w:World}{K:PySem.W.Frag}{h:Heap}{c:Str->Option Value}{fa:Addr}(X:K.In h)(G:h.Ns mainGlobals c)(J8:c "law"=some (.ref fa))
  (nb:sZ K=true)
  {q0:Tok} (z0:PySem.W.nsIn K mainGlobals "DEEPEST"=some (some (.int 8 q0)))
  {f0:Addr}{K8 L8:Option Addr}{M8:Array (Option Value)}{FY N8 P8 Q8 n5 R8:Value} (a0:PySem.W.nsIn K mainGlobals "_law_mix"=some (some (.ref f0))) (l0:K.lookup f0=some ⟨FY,K8,.func (PySem.W.fnOf "_law_mix" "_law_mix" (aN (top 17)) (ay (top 17)) (ae (top 17)) .none N8 P8 Q8 L8 n5 R8),M8⟩) (y0:PySem.W.codeIn K n5 "_law_mix"=true) (w0:PySem.W.keepIn K (.ref f0)=true)
  {f1:Addr}{S8 T8:Option Addr}{V8:Array (Option Value)}{Fl S1 W8 Y8 o5 Z8:Value} (a1:PySem.W.nsIn K mainGlobals "_law_drawn"=some (some (.ref f1))) (l1:K.lookup f1=some ⟨Fl,S8,.func (PySem.W.fnOf "_law_drawn" "_law_drawn" (aN (top 18)) (ay (top 18)) (ae (top 18)) .none S1 W8 Y8 T8 o5 Z8),V8⟩) (y1:PySem.W.codeIn K o5 "_law_drawn"=true) (w1:PySem.W.keepIn K (.ref f1)=true)
  {f2:Addr}{a9 b9:Option Addr}{c9:Array (Option Value)}{e9 f9 g9 h9 t5 j9:Value} (a2:PySem.W.nsIn K mainGlobals "_law_whole"=some (some (.ref f2))) (l2:K.lookup f2=some ⟨e9,a9,.func (PySem.W.fnOf "_law_whole" "_law_whole" (aN (top 23)) (ay (top 23)) (ae (top 23)) .none f9 g9 h9 b9 t5 j9),c9⟩) (y2:PySem.W.codeIn K t5 "_law_whole"=true) (w2:PySem.W.keepIn K (.ref f2)=true)
  {f3:Addr}{k9 l9:Option Addr}{m9:Array (Option Value)}{n9 o9 q9 u9 u5 v9:Value} (a3:PySem.W.nsIn K mainGlobals "is_whole"=some (some (.ref f3))) (l3:K.lookup f3=some ⟨n9,k9,.func (PySem.W.fnOf "is_whole" "is_whole" (aN (top 11)) (ay (top 11)) (ae (top 11)) .none o9 q9 u9 l9 u5 v9),m9⟩) (y3:PySem.W.codeIn K u5 "is_whole"=true) (w3:PySem.W.keepIn K (.ref f3)=true)
  {f4:Addr}{w9 y9:Option Addr}{z9:Array (Option Value)}{A9 B9 C9 D9 v5 E9:Value} (a4:PySem.W.nsIn K mainGlobals "is_strength"=some (some (.ref f4))) (l4:K.lookup f4=some ⟨A9,w9,.func (PySem.W.fnOf "is_strength" "is_strength" (aN (top 13)) (ay (top 13)) (ae (top 13)) .none B9 C9 D9 y9 v5 E9),z9⟩) (y4:PySem.W.codeIn K v5 "is_strength"=true) (w4:PySem.W.keepIn K (.ref f4)=true)
  {l:Addr} (F9:PySem.W.nsIn K mainGlobals "Facts"=some (some (.ref l))) (G9:PySem.W.plainGet K l Str.empty=true) (H9:PySem.W.hasDictIn K l=true) (I9:PySem.W.plainOver K l=true) (J9:PySem.W.findIn K (.ref l) "__setattr__"=some (some (.builtin "object.__setattr__"))) (K9:PySem.W.makesIn K l=true) (L9:PySem.W.keepIn K (.ref l)=true)
  (M9:PySem.W.findIn K (.ref l) "teller"=some none)
  (N9:PySem.W.findIn K (.ref l) "strengths"=some none)
  (P9:PySem.W.findIn K (.ref l) "asked"=some none)
  {p0 T1:Addr}{w5:Obj}{y5:Tok}{n1:Nat}{z5 o:Option Addr}{A5:Array (Option Value)}{B5 p q r m t:Value} (W1:PySem.W.nsIn K mainGlobals "own_copy"=some (some (.ref p0))) (Q9:K.lookup p0=some ⟨B5,z5,.func (PySem.W.fnOf "own_copy" "own_copy" (aN (top 3)) (ay (top 3)) (ae (top 3)) (.ref T1) p q r o m t),A5⟩) (R9:PySem.W.codeIn K m "own_copy"=true) (s0:PySem.W.keepIn K (.ref p0)=true) (C5:K.lookup T1=some w5) (D5:w5.data=.seq #[.int 0 y5] n1)
  {u0:Addr}{E5 F5:Option Addr}{G5:Array (Option Value)}{H5 I5 J5 K5 I0 L5:Value} (M5:PySem.W.findIn K (.ref l) "__init__"=some (some (.ref u0))) (S9:K.lookup u0=some ⟨H5,E5,.func (PySem.W.fnOf "__init__" "Facts.__init__" (aN (inClass (top 15) 0)) (ay (inClass (top 15) 0)) (ae (inClass (top 15) 0)) .none I5 J5 K5 F5 I0 L5),G5⟩) (T9:PySem.W.codeIn K I0 "Facts.__init__"=true) (N5:PySem.W.keepIn K (.ref u0)=true)
  (i3:PySem.W.isFn K (.ref u0)=true)
  {v0:Addr}{P5 Q5:Option Addr}{R5:Array (Option Value)}{S5 T5 V5 W5 J0 Z5:Value} (V9:PySem.W.findIn K (.ref l) "known"=some (some (.ref v0))) (W9:K.lookup v0=some ⟨S5,P5,.func (PySem.W.fnOf "known" "Facts.known" (aN (inClass (top 15) 2)) (ay (inClass (top 15) 2)) (ae (inClass (top 15) 2)) .none T5 V5 W5 Q5 J0 Z5),R5⟩) (Y9:PySem.W.codeIn K J0 "Facts.known"=true) (a6:PySem.W.keepIn K (.ref v0)=true)
  (i5:PySem.W.isFn K (.ref v0)=true)
  {x0:Addr}{b6 c6:Option Addr}{e6:Array (Option Value)}{f6 g6 h6 j6 K0 k6:Value} (Z9:PySem.W.findIn K (.ref l) "strength"=some (some (.ref x0))) (NP:K.lookup x0=some ⟨f6,b6,.func (PySem.W.fnOf "strength" "Facts.strength" (aN (inClass (top 15) 1)) (ay (inClass (top 15) 1)) (ae (inClass (top 15) 1)) .none g6 h6 j6 c6 K0 k6),e6⟩) (NQ:PySem.W.codeIn K K0 "Facts.strength"=true) (l6:PySem.W.keepIn K (.ref x0)=true)
  (i6:PySem.W.isFn K (.ref x0)=true)
  {u:Addr}{m6 n6:Option Addr}{o6:Array (Option Value)}{p6 t6 u6 v6 L0 w6:Value} (y6:PySem.W.findIn K (.ref l) "tell"=some (some (.ref u))) (NR:K.lookup u=some ⟨p6,m6,.func (PySem.W.fnOf "tell" "Facts.tell" (aN (inClass (top 15) 3)) (ay (inClass (top 15) 3)) (ae (inClass (top 15) 3)) .none t6 u6 v6 n6 L0 w6),o6⟩) (NS:PySem.W.codeIn K L0 "Facts.tell"=true) (Z1:PySem.W.keepIn K (.ref u)=true)
  (i7:PySem.W.isFn K (.ref u)=true)
  {A0:Addr}{z6 A6:Option Addr}{B6:Array (Option Value)}{C6 D6 E6 F6 M0 G6:Value} (NT:PySem.W.findIn K (.ref l) "forget"=some (some (.ref A0))) (NU:K.lookup A0=some ⟨C6,z6,.func (PySem.W.fnOf "forget" "Facts.forget" (aN (inClass (top 15) 4)) (ay (inClass (top 15) 4)) (ae (inClass (top 15) 4)) .none D6 E6 F6 A6 M0 G6),B6⟩) (NV:PySem.W.codeIn K M0 "Facts.forget"=true) (H6:PySem.W.keepIn K (.ref A0)=true)
  (i8:PySem.W.isFn K (.ref A0)=true)
  {D0:Addr}{I6 J6:Option Addr}{K6:Array (Option Value)}{L6 M6 N6 P6 P0 Q6:Value} (NW:PySem.W.findIn K (.ref l) "reads"=some (some (.ref D0))) (NX:K.lookup D0=some ⟨L6,I6,.func (PySem.W.fnOf "reads" "Facts.reads" (aN (inClass (top 15) 5)) (ay (inClass (top 15) 5)) (ae (inClass (top 15) 5)) .none M6 N6 P6 J6 P0 Q6),K6⟩) (NY:PySem.W.codeIn K P0 "Facts.reads"=true) (R6:PySem.W.keepIn K (.ref D0)=true)
  (i9:PySem.W.isFn K (.ref D0)=true)
  {n:Addr}{g2 h2:Option Addr}{t2:Array (Option Value)}{u2 z2 A2 B2 y C2:Value} (S6:PySem.W.findIn K (.ref l) "words_known"=some (some (.ref n))) (T6:K.lookup n=some ⟨u2,g2,.func (PySem.W.fnOf "words_known" "Facts.words_known" (aN (inClass (top 15) 6)) (ay (inClass (top 15) 6)) (ae (inClass (top 15) 6)) .none z2 A2 B2 h2 y C2),t2⟩) (V6:PySem.W.codeIn K y "Facts.words_known"=true) (Q0:PySem.W.keepIn K (.ref n)=true)
  (NZ:PySem.W.isFn K (.ref n)=true)
  {z:Addr}{D2 G2:Option Addr}{H2:Array (Option Value)}{I2 J2 K2 M2 B N2:Value} (W6:PySem.W.nsIn K mainGlobals "_law_short"=some (some (.ref z))) (Y6:K.lookup z=some ⟨I2,D2,.func (PySem.W.fnOf "_law_short" "_law_short" (aN (top 19)) (ay (top 19)) (ae (top 19)) .none J2 K2 M2 G2 B N2),H2⟩) (Z6:PySem.W.codeIn K B "_law_short"=true) (R0:PySem.W.keepIn K (.ref z)=true)
  {D:Addr}{P2 Q2:Option Addr}{S2:Array (Option Value)}{T2 W2 Z2 c3 F g3:Value} (a7:PySem.W.nsIn K mainGlobals "_law_names"=some (some (.ref D))) (b7:K.lookup D=some ⟨T2,P2,.func (PySem.W.fnOf "_law_names" "_law_names" (aN (top 20)) (ay (top 20)) (ae (top 20)) .none W2 Z2 c3 Q2 F g3),S2⟩) (c7:PySem.W.codeIn K F "_law_names"=true) (S0:PySem.W.keepIn K (.ref D)=true)
  {I:Addr}{h3 m3:Option Addr}{n3:Array (Option Value)}{o3 t3 u3 v3 J z3:Value} (e7:PySem.W.nsIn K mainGlobals "_law_joined"=some (some (.ref I))) (f7:K.lookup I=some ⟨o3,h3,.func (PySem.W.fnOf "_law_joined" "_law_joined" (aN (top 21)) (ay (top 21)) (ae (top 21)) .none t3 u3 v3 m3 J z3),n3⟩) (g7:PySem.W.codeIn K J "_law_joined"=true) (W0:PySem.W.keepIn K (.ref I)=true)
  {L:Addr}{A3 B3:Option Addr}{C3:Array (Option Value)}{D3 G3 H3 I3 M J3:Value} (h7:PySem.W.nsIn K mainGlobals "_law_table"=some (some (.ref L))) (j7:K.lookup L=some ⟨D3,A3,.func (PySem.W.fnOf "_law_table" "_law_table" (aN (top 22)) (ay (top 22)) (ae (top 22)) .none G3 H3 I3 B3 M J3),C3⟩) (k7:PySem.W.codeIn K M "_law_table"=true) (g1:PySem.W.keepIn K (.ref L)=true)
  {N:Addr}{K3 L3:Option Addr}{M3:Array (Option Value)}{N3 Q3 R3 S3 O T3:Value} (l7:PySem.W.nsIn K mainGlobals "_law_pairs"=some (some (.ref N))) (m7:K.lookup N=some ⟨N3,K3,.func (PySem.W.fnOf "_law_pairs" "_law_pairs" (aN (top 24)) (ay (top 24)) (ae (top 24)) .none Q3 R3 S3 L3 O T3),M3⟩) (n7:PySem.W.codeIn K O "_law_pairs"=true) (o1:PySem.W.keepIn K (.ref N)=true)
  {Q:Addr}{W3 Z3:Option Addr}{c4:Array (Option Value)}{d4 g4 h4 i4 R k4:Value} (o7:PySem.W.nsIn K mainGlobals "_law_number"=some (some (.ref Q))) (p7:K.lookup Q=some ⟨d4,W3,.func (PySem.W.fnOf "_law_number" "_law_number" (aN (top 25)) (ay (top 25)) (ae (top 25)) .none g4 h4 i4 Z3 R k4),c4⟩) (s7:PySem.W.codeIn K R "_law_number"=true) (u1:PySem.W.keepIn K (.ref Q)=true)
  {S:Addr}{m4 n4:Option Addr}{o4:Array (Option Value)}{t4 u4 v4 z4 A4:Value}{t7:Addr} (u7:PySem.W.nsIn K mainGlobals "_law_refused"=some (some (.ref S))) (v7:K.lookup S=some ⟨t4,m4,.func (PySem.W.fnOf "_law_refused" "_law_refused" (aN (top 26)) (ay (top 26)) (ae (top 26)) .none u4 v4 z4 n4 (.ref t7) A4),o4⟩) (w7:PySem.W.codeIn K (.ref t7) "_law_refused"=true) (z1:PySem.W.keepIn K (.ref S)=true)
  {T:Addr}{B4 C4:Option Addr}{D4:Array (Option Value)}{G4 H4 I4 J4 U K4:Value} (y7:PySem.W.nsIn K mainGlobals "_law_words"=some (some (.ref T))) (z7:K.lookup T=some ⟨G4,B4,.func (PySem.W.fnOf "_law_words" "_law_words" (aN (top 27)) (ay (top 27)) (ae (top 27)) .none H4 I4 J4 C4 U K4),D4⟩) (A7:PySem.W.codeIn K U "_law_words"=true) (A1:PySem.W.keepIn K (.ref T)=true)
  {V:Addr}{L4 M4:Option Addr}{N4:Array (Option Value)}{O4 P4 Q4 R4 Y S4:Value} (B7:PySem.W.nsIn K mainGlobals "_law_step"=some (some (.ref V))) (C7:K.lookup V=some ⟨O4,L4,.func (PySem.W.fnOf "_law_step" "_law_step" (aN (top 28)) (ay (top 28)) (ae (top 28)) .none P4 Q4 R4 M4 Y S4),N4⟩) (D7:PySem.W.codeIn K Y "_law_step"=true) (B1:PySem.W.keepIn K (.ref V)=true)
  {Z:Addr}{T4 W4:Option Addr}{Z4:Array (Option Value)}{a5 b5 c5 f5 c0 g5:Value} (E7:PySem.W.nsIn K mainGlobals "_law_beside"=some (some (.ref Z))) (F7:K.lookup Z=some ⟨a5,T4,.func (PySem.W.fnOf "_law_beside" "_law_beside" (aN (top 29)) (ay (top 29)) (ae (top 29)) .none b5 c5 f5 W4 c0 g5),Z4⟩) (G7:PySem.W.codeIn K c0 "_law_beside"=true) (C1:PySem.W.keepIn K (.ref Z)=true)
  {e0:Addr}{h5 g0:Option Addr}{j5:Array (Option Value)}{l5 j0 m0 n0 k o0:Value} (H7:PySem.W.nsIn K mainGlobals "law"=some (some (.ref e0))) (I7:K.lookup e0=some ⟨l5,h5,.func (PySem.W.fnOf "law" "law" (aN (top 30)) (ay (top 30)) (ae (top 30)) .none j0 m0 n0 g0 k o0),j5⟩) (J7:PySem.W.codeIn K k "law"=true) (K7:PySem.W.keepIn K (.ref e0)=true)
  {C N0 B0 fI cI q1 q2 q3 q4:Addr} (aC:PySem.W.nsIn K mainGlobals "NoStrength"=some (some (.ref C)))
  {RM qC:Str}{RN L7:List Value}{RO:List Str}{M7:List Value}{RP:Bool}{N7:Option Bool}{RQ:Option Addr}{RR RS RT RU RV:Option Value} (lC:K.lookup C=some (excClassObj RM qC C N0 RN L7 true RO M7 RP N7 RQ RR RS RT RU RV "ValueError.__new__")) (nC:PySem.W.nsIn K N0 "__init__"=some (some (.ref fI))) (tC:qI K L7=true) {m5:ClassData} (x1:PySem.W.clsIn K C=some m5) (x2:fe m5.mro=true) (x3:m5.hasDict=true) (x4:PySem.W.findIn K (.ref C) "__setattr__"=some (some (.builtin "object.__setattr__"))) (x5:PySem.W.findIn K (.ref C) "__getattribute__"=some (some (.builtin "BaseException.__getattribute__"))) (N_:PySem.W.findIn K (.ref C) "__getattr__"=some none) (x5c:PySem.W.mroIn K C (.type "BaseException")=some true) (x6:PySem.W.hasDictIn K C=true) (x7:Ld K N0 "__init__"=some (some (.ref fI))) (x8:PySem.W.keepIn K (.ref C)=true) (x9:PySem.W.typeIn K (.ref fI)=some (.type "function"))
  {RW RX:Option Addr}{RY:Array (Option Value)}{RZ R_ Sa Sb Sd:Value} (lI:K.lookup fI=some ⟨RZ,RW,.func (PySem.W.fnOf "__init__" "NoStrength.__init__" (aN stI) (ay stI) (ae stI) .none R_ Sa Sb RX (.ref cI) Sd),RY⟩) (yI:PySem.W.codeIn K (.ref cI) "NoStrength.__init__"=true) (wI:PySem.W.keepIn K (.ref fI)=true)
  (P7:PySem.W.findIn K (.ref C) "value"=some none) (aB:PySem.W.nsIn K mainGlobals "LookError"=some (some (.ref B0))) (gB:PySem.W.specialIn K (.ref B0) "__getattribute__"=some (some (.builtin "type.__getattribute__"))) (rB:PySem.W.readsIn K B0 (.type "type")=true) (iB:PySem.W.findCls K (.ref B0) (.type "type") "__init__"=some (.val (.builtin "ValueError.__init__")))
  (j1:PySem.W.findIn K (.ref C) "__class__"=some (some (.builtin "object.__class__"))) (j2:PySem.W.specialIn K (.builtin "object.__class__") "__get__"=some (some (.builtin "getset_descriptor.__get__"))) (j3:PySem.W.takesIn K (.builtin "object.__class__")=some true) (j4:PySem.W.mroIn K C (.type "object")=some true)
  (e1:PySem.W.nsIn K mainGlobals "NoKind"=some (some (.ref q1))) (e2:PySem.W.nsIn K mainGlobals "NoName"=some (some (.ref q2))) (e3:PySem.W.nsIn K mainGlobals "NoRoom"=some (some (.ref q3))) (e4:PySem.W.nsIn K mainGlobals "NotThere"=some (some (.ref q4))) (e5:PySem.W.nsIn K mainGlobals "ValueError"=some none)
  (hex:PySem.W.exmOne K (.ref C) (.ref B0)=some true) (S1:PySem.W.kitOne K (.ref C) (.type "ValueError")=some true) (kA:PySem.W.kitAny K (.ref C) [.ref q1,.ref q2,.ref q3,.ref q4]=some false) (kO:PySem.W.kitOne K (.ref C) (.ref C)=some true)
  {cA tA:Addr} (hcd:k=.ref cA)
  : ∃fd:FuncData,(∀(s:Shared) (v:Value),BindsTo s fd ⟨[v],[]⟩ [("_law_script",v)])/\∀base:Heap,K.In base->base.Ns mainGlobals c->PySem.W.CodeHd base cA tA->(∃Pl,base.BuiltinsAt c Pl)->bF P w K c base ek 27 fa fd FH (oG tA [] [] Lh):=by
 have e:=J8.symm.trans (PySem.W.mg_of X G H7);cases e;have E0:=bG (st:=top 17) l0 y0 w0;have b0:=E0.binds (ps:=PK) λ_ _ _ _ _ _ a b=>match a,b with|[_,_,_],_=>rfl
 have E1:=bG (st:=top 18) l1 y1 w1;have b1:=E1.binds (ps:=PN) λ_ _ _ _ _ _ a b=>match a,b with|[_,_,_],_=>rfl
 have E2:=bG (st:=top 23) l2 y2 w2;have b2:=E2.binds (ps:=PU) λ_ _ _ _ _ _ a b=>match a,b with|[_],_=>rfl
 have E3:=bG (st:=top 11) l3 y3 w3;have b3:=E3.binds (ps:=PY) λ_ _ _ _ _ _ a b=>match a,b with|[_,_,_],_=>rfl
 have E4:=bG (st:=top 13) l4 y4 w4;have b4:=E4.binds (ps:=P_) λ_ _ _ _ _ _ a b=>match a,b with|[_],_=>rfl
 have Q7:Fe K "own_copy" "own_copy" (top 3) (.ref T1) p0 _:=⟨⟨_,_,_,_,_,_,_,_,_,rfl,Q9,R9⟩,s0⟩;have R7:Binds K (PySem.W.fnOf "own_copy" "own_copy" (aN (top 3)) (ay (top 3)) (ae (top 3)) (.ref T1) p q r o m t) FG []:=λs a X b=>match a,b with|[_,_],_=>PySem.W.binds_K X rfl C5 D5 rfl rfl
 have S7:Binds K (PySem.W.fnOf "own_copy" "own_copy" (aN (top 3)) (ay (top 3)) (ae (top 3)) (.ref T1) p q r o m t) FG [.int 0 y5]:=λs a X b=>by
  match a,b with
  |[],h=>simp[FG]at h
  |[_],_=>exact PySem.W.binds_K X rfl C5 D5 rfl rfl
  |_::_::_,h=>simp[FG]at h
 have EI:=bG (st:=stI) lI yI wI;have bI:=EI.binds (ps:=["self","value"]) λ_ _ _ _ _ _ a b=>match a,b with|[_,_],_=>rfl
 have XB:XBase K c "LookError" B0:=⟨PySem.W.mg_of X G aB,gB,rB,iB⟩;have XC:qB K C N0 fI:=⟨⟨_,_,_,_,_,_,_,_,_,_,_,_,_,_,lC,uw tC⟩,⟨_,x1,x2,x3⟩,x4,⟨x5,N_,x5c⟩,x6,Dl x7,x8,x9⟩;have XD:yC K c C N0 fI cI _ stI "NoStrength.__init__" "value" "self" "value" vI:=⟨⟨_,EI⟩,rfl,fP RL,XC,bI,P7,rfl,rfl,rfl,JB XB⟩;have V7:=bG (st:=(inClass (top 15) 0)) S9 T9 N5;have W7:=V7.binds (ps:=Qf) λ_ _ _ _ _ _ a b=>match a,b with|[_,_],_=>rfl
 have Y7:=bG (st:=(inClass (top 15) 2)) W9 Y9 a6;have Se:=Y7.binds (ps:=Qh) λ_ _ _ _ _ _ a b=>match a,b with|[_,_,_],_=>rfl
 have Z7:=bG (st:=(inClass (top 15) 1)) NP NQ l6;have Sf:=Z7.binds (ps:=Qj) λ_ _ _ _ _ _ a b=>match a,b with|[_,_,_],_=>rfl
 have G0:=bG (st:=(inClass (top 15) 3)) NR NS Z1;have a8:=G0.binds (ps:=MX) λ_ _ _ _ _ _ a b=>match a,b with|[_,_,_,_],_=>rfl
 have b8:=bG (st:=(inClass (top 15) 4)) NU NV H6;have Sg:=b8.binds (ps:=Qm) λ_ _ _ _ _ _ a b=>match a,b with|[_,_,_],_=>rfl
 have c8:=bG (st:=(inClass (top 15) 5)) NX NY R6;have Sh:=c8.binds (ps:=Qo) λ_ _ _ _ _ _ a b=>match a,b with|[_],_=>rfl
 have D1:=bG (st:=(inClass (top 15) 6)) T6 V6 Q0;have f8:=D1.binds (ps:=Jb) λ_ _ _ _ _ _ a b=>match a,b with|[_,_],_=>rfl
 have G1:=bG (st:=(top 19)) Y6 Z6 R0;have g8:=G1.binds (ps:=Jd) λ_ _ _ _ _ _ a b=>match a,b with|[_,_,_],_=>rfl
 have H1:=bG (st:=(top 20)) b7 c7 S0;have h8:=H1.binds (ps:=Jf) λ_ _ _ _ _ _ a b=>match a,b with|[_,_,_],_=>rfl
 have I1:=bG (st:=(top 21)) f7 g7 W0;have j8:=I1.binds (ps:=Jh) λ_ _ _ _ _ _ a b=>match a,b with|[_,_],_=>rfl
 have J1:=bG (st:=(top 22)) j7 k7 g1;have k8:=J1.binds (ps:=Jj) λ_ _ _ _ _ _ a b=>match a,b with|[_,_,_,_],_=>rfl
 have K1:=bG (st:=(top 24)) m7 n7 o1;have l8:=K1.binds (ps:=Jl) λ_ _ _ _ _ _ a b=>match a,b with|[_,_],_=>rfl
 have M1:=bG (st:=(top 25)) p7 s7 u1;have m8:=M1.binds (ps:=Jn) λ_ _ _ _ _ _ a b=>match a,b with|[_,_],_=>rfl
 have N1:=bG (st:=(top 26)) v7 w7 z1;have n8:=N1.binds (ps:=Jo) λ_ _ _ _ _ _ a b=>match a,b with|[_,_,_],_=>rfl
 have P1:=bG (st:=(top 27)) z7 A7 A1;have o8:=P1.binds (ps:=Jq) λ_ _ _ _ _ _ a b=>match a,b with|[_,_,_],_=>rfl
 have Q1:=bG (st:=(top 28)) C7 D7 B1;have q8:=Q1.binds (ps:=Js) λ_ _ _ _ _ _ a b=>match a,b with|[_,_,_,_,_,_],_=>rfl
 have R1:=bG (st:=(top 29)) F7 G7 C1;have u8:=R1.binds (ps:=Ju) λ_ _ _ _ _ _ a b=>match a,b with|[_,_,_,_],_=>rfl
 have v8:=bG (st:=(top 30)) I7 J7 K7;refine⟨PySem.W.fnOf "law" "law" (aN (top 30)) (ay (top 30)) (ae (top 30)) .none j0 m0 n0 g0 k o0,λs v=>.of_eq rfl,λbase _ _ hC hB=>?_⟩
 have g:=PySem.W.mg_of X G F9;have i:lW K l:=⟨G9,H9,I9,J9⟩;have V0:aY P w K c base ({}:aK) 0:=aY.start (xb X G nb);have V1:=V0.Bq (x:="DEEPEST") (d:=.int 8) (v:=.int 8) (PySem.W.mg_of X G z0) ⟨_,rfl⟩ rfl;have V2:=V1.qj (f:="teller") (Cs:=["Facts"]) (plain1 g i M9);have V3:=V2.qj (f:="strengths") (Cs:=["Facts"]) (plain1 g i N9);have V4:=V3.qj (f:="asked") (Cs:=["Facts"]) (plain1 g i P9);have Y0:aY P w K c base MR 0:=V4;have q0:=bq Y0 E0 QS QT;have Y1:aY P w K c base MS 1:=(Y0.mono (Nat.le_succ 0)).jP (x:="_law_mix") (PySem.W.mg_of X G a0) w0 b0 (ja q0) (Nat.le_refl _);have q1:=bq Y1 E1 QV QW;have Y2:aY P w K c base MT 2:=(Y1.mono (Nat.le_succ 1)).jP (x:="_law_drawn") (PySem.W.mg_of X G a1) w1 b1 (ja q1) (Nat.le_refl _);have q2:=bq Y2 E2 QX QY;have Y3:aY P w K c base MU 3:=(Y2.mono (Nat.le_succ 2)).jP (x:="_law_whole") (PySem.W.mg_of X G a2) w2 b2 (ja q2) (Nat.le_refl _);have q3:=bq Y3 E3 QZ Q_;have Y4:aY P w K c base MW 4:=(Y3.mono (Nat.le_succ 3)).jP (x:="is_whole") (PySem.W.mg_of X G a3) w3 b3 (ja q3) (Nat.le_refl _);have q4:=bq Y4 E4 Ra Rb;have Y5:aY P w K c base Qb 5:=(Y4.mono (Nat.le_succ 4)).jP (x:="is_strength") (PySem.W.mg_of X G a4) w4 b4 (ja q4) (Nat.le_refl _);have X0:aY P w K c base U0 5:=Y5;have r0:=Fg X0 (j:=0) (d:=CD0) rfl Rc Rf (λcl doc pm c1 ctv a b=>match a,b with|[_,_],_=>rfl)
 have X1:aY P w K c base U1 6:=X0.B_ (j:=0) rfl r0;have r1:=ug X1 Q7 Rg Rh;have X2:aY P w K c base U2 7:=X1.dW (PySem.W.mg_of X G W1) s0 R7 r1;have r2:=ug X2 Q7 Rj Rk;have X3:aY P w K c base U3 8:=X2.dW (PySem.W.mg_of X G W1) s0 R7 r2;have r3:=bq X3 V7 Rl Rm;have X4:aY P w K c base U4 9:=X3.hJ g i ⟨M5,i3,N5⟩ W7 r3;have X5:aY P w K c base U5 10:=X4.Bp g ⟨K9,M5,i3,L9⟩ W7 r3 (by decide)
 have r5:=bq X5 Y7 Rn Ro;have X6:aY P w K c base U6 11:=X5.hJ g i ⟨V9,i5,a6⟩ Se r5;have r6:=bq X6 Z7 Rp Rq;have X7:aY P w K c base U7 12:=X6.hJ g i ⟨Z9,i6,l6⟩ Sf r6;have r7:=bq X7 G0 Qk Rr;have Si:aY P w K c base T7 12:=X7.toXt;have Sj:bF P w K c base (oI P w) 15 u _ MX (yJ (bO c) Rt):=BW Si rfl ⟨G0.ex,G0.kp⟩ Qk MY (λcdv A outer s H E hr G' st' c' h=>r_ XD hr (PySem.W.mg_of X G aC) rfl G' (NO X7 (r2.mono (by decide)) S7 (PySem.W.mg_of X G W1) s0) st' c' h)
 have X8:aY P w K c base U8 13:=X7.hJ g i ⟨y6,i7,Z1⟩ a8 r7;have r8:=bq X8 b8 Ru Rv;have X9:aY P w K c base U9 14:=X8.hJ g i ⟨NT,i8,H6⟩ Sg r8;have r9:=bq X9 c8 Rw Rx;have w8:aY P w K c base MZ 15:=X9.hJ g i ⟨NW,i9,R6⟩ Sh r9;have r10:=ua (bq w8 D1 Na Nb);have y8:aY P w K c base M_ 16:=w8.hJ g i ⟨S6,NZ,Q0⟩ f8 r10;have r11:=bq y8 G1 Nd Nf;have z8:aY P w K c base Nc 17:=y8.dW (PySem.W.mg_of X G W6) R0 g8 r11;have r12:=bq z8 H1 Nh Ni;have A8:aY P w K c base Ng 18:=z8.dW (PySem.W.mg_of X G a7) S0 h8 r12;have r13:=bq A8 I1 Nk Nl;have B8:aY P w K c base Nj 19:=A8.dW (PySem.W.mg_of X G e7) W0 j8 r13;have r14:=bq B8 J1 Nn Np;have C8:aY P w K c base Nm 20:=B8.dW (PySem.W.mg_of X G h7) g1 k8 r14;have r15:=bq C8 K1 Nr Nt;have D8:aY P w K c base Nq 21:=C8.dW (PySem.W.mg_of X G l7) o1 l8 r15;have r16:=bq D8 M1 Nu Nv;have E8:aY P w K c base Qw 22:=D8.dW (PySem.W.mg_of X G o7) u1 m8 r16
 have r17:=Ii (en:="e") (bn:="LookError") (fld:="value") (cn:="NoStrength") (as:=K_) E8 N1 rfl (fP Ny) g i ⟨y6,i7,Z1⟩ (Sj.mono (by decide)) a8 rfl rfl (by decide) rfl (PySem.W.mg_of X G aC) XC ⟨j1,j2,j3,j4⟩ P7
  (JC (PySem.W.mg_of X G aC) (PySem.W.mg_of X G e1) (PySem.W.mg_of X G e2) (PySem.W.mg_of X G e3) (PySem.W.mg_of X G e4) (PySem.W.mg_none_of X G e5) S1 kA kO)
  (PySem.W.mg_of X G aB) hex rfl rfl rfl rfl rfl rfl rfl rfl rfl rfl rfl rfl rfl
 have F8:aY P w K c base Nx 23:=E8.dW (PySem.W.mg_of X G u7) z1 n8 r17;have r18:=ua (bq F8 P1 NA NB);have G8:aY P w K c base Nz 24:=F8.dW (PySem.W.mg_of X G y7) A1 o8 r18;have r19:=bq G8 Q1 ND NF;have H8:aY P w K c base NC 25:=G8.dW (PySem.W.mg_of X G B7) B1 q8 r19;have r20:=bq H8 R1 NH NI;have I8:aY P w K c base NG 26:=H8.dW (PySem.W.mg_of X G E7) C1 u8 r20;have r21:=Co (ck:=[]) (Dk:=[]) (T0:=tA) I8 (I8.FC CD0.cn) v8 hcd NJ NM NK NL (j:=0) rfl rfl RJ hC hB;exact r21
theorem walk{l:PySem.W.OpenLaw}{q:Program}{b:List Str}{y:(Str->Option Value)->Heap->Prop}{j:World->Heap->Prop}{d:DefRec}{K:Params->PySem.W.Frag}{cA tA:Addr}(z:l.most=some 63)(i:d.params.defaults=[])
  (A:∀(w:World) (h:Heap),j w h->(K w.params).In h/\h.get? tA=some (PySem.W.tabObj #[])) (B:∀e,pv (K e)=true) (C:∀e,PySem.W.noTabs (K e)=true) (D:∀e,PySem.W.codeHdIn (K e) cA tA=true)
  (F:∀(w:World) (g:Str->Option Value) (m:Addr) (h:Heap),(K w.params).In h->h.Ns mainGlobals g->g d.name=some (.ref m) ->
   ∃p:FuncData,(∀(s:Shared) (u:Value),BindsTo s p ⟨[u],[]⟩ [("_law_script",u)])/\∀base:Heap,(K w.params).In base->base.Ns mainGlobals g->PySem.W.CodeHd base cA tA->(∃E,base.BuiltinsAt g E)->bF l.prog w (K w.params) g base ek 27 m p FH (oG tA [] [] Lh)) :
  PySem.W.WalkO q b y j l.row.toRowW d [] (λf vs=>PySem.call f vs):=
 L2.xo (n:=63) (k:=27) (x:="_law_script") (c:=cA) (T:=tA) (sp:=λw=>oG tA [] [] Lh) z (by decide) i ⟨rfl,by decide,by decide⟩ A D C (λe a o h=>Cp (B e) h) F λw H a r G I J t=>⟨I,by simp,a,r,_,rfl,J,λL=>Cr t,t,(zq r G).choose_spec,λ_=>rfl⟩
end FE
def PySem.W.Fast.tw2063202648612493021:PySem.Program:=PySem.Challenge.pw_taglook_k37_facts_known
theorem PySem.W.Fast.te2063202648612493021:PySem.Challenge.pw_taglook_k37_facts_known=PySem.W.Fast.tw2063202648612493021:=rfl
structure PySem.W.Fast:Prop where(tw9572154028917080219 tw3503527594203926387 tw10145245477031789569 tw4677672594068176737 tw11270176377902656679 tw17790010133041260696 tw11550956816858577389 tw17762099834570275300 tw7520851690560330175 tw17326967379390013562 tw12068068763324560141 tw13584482924951468383 tw12482550991779674733 tw16463814622184464896 tw14436086520494847259 tw4851416505392078696 tw2256876194603522864 tw2081357027822835148 tw1445286128242262071 tw12474088942857946424 tw12889044738962781209 tw13610427345422578268 tw10927559075352888537 tw1981360442679451482 tw277613050236057797 tw12346164185291604245 tw4120464135222230495 tw6895663100848344102 tw3655894549950724915 tw7435120207149641993 tw9511888924383413752 tw17687855267011634344 tw2773735609601672576 tw10597501642797795447 tw7861546020007167458 tw17357705046987820271 tw208449885323927277 tw10783281814880766301 tw7785958444841446436 tw12327614399967874247 tw14415363860089165872 tw8107562352930409511 tw12321016714899832237 tw14373139800651883425 tw1736168730701969869 tw13936960401104471696 tw16325218975816379851 tw10926087601907457799 tw8707793050402855769 tw14519763323433533063 tw13872880062573556321 tw11349880872725719294 tw5699078119280402616 tw10115249642838667256 tw5536824246121043480 tw4875951142024979456 tw16248698962721692568 tw13947041176714011801 tw14305245732801358622 tw1500435587931056611 tw2412069877672292701 tw17115048927655633660 tw15169788491631625784 tw2402907032139514104 tw93861090770344743 tw532053918386154625 tw9862584097700987329 tw14744216495856317527 tw11231393334744691 tw11543245086756296161 tw11174283164444261924 tw12000115688995848721 tw14757797082851955370 tw11186102715105933114 tw11270413504065763843 tw7653446622112688345 tw13147753986846834762 tw3177524856185128799 tw7581364854038001069 tw15870948426024254188 tw7983419990798382192 tw16090246177423252866 tw13005140390465695233 tw17781839314824025543 tw8953943249144337867 tw13805164745379893023 tw11186661088398840838 tw988746373744204102 tw9519175510242456745 tw11570196904185396753 tw1793558647909871810 tw9599953222490499726 tw308559760902520760 tw17661775265746285003 tw12993439131155972162 tw287573769103664365 tw13409382672144715125 tw11949373828740081854 tw6175018551153610492 tw6075906022929261156 tw18240900581677135779 tw733625081571725216 tw3308080002139719736 tw5035322683819578544 tw6405671566086573775 tw5189454470958702173 tw11560429421322239267 tw1380408226233701462 tw1842690982460237173 tw7213807743864667154 tw10677991636027356715 tw16823326789804752876 tw6881052893974509876 tw17054815161729416019 tw17172030215399125147 tw16787333879033341921 tw13176731054812377332 tw14212003141710222078 tw1834483413428842733 tw13374482379561974829 tw1465904829178576493 tw12869878332278372018 tw10245381954687621140 tw14586670813092548865 tw10151972601611391472 tw967981034528632885 tw14591382303846627698 tw9618635391229146779 tw12061754933470174131 tw11967665290960793869 tw13821620690779691137 tw12358024496843558441 tw1944665852493019192 tw3609390815967679688 tw12225004106749363263 tw12768180357196319993 tw6671254899280869692 tw2113521631490152787 tw12900244497755941964 tw10578006564661089416 tw11164938603051293184 tw14028740090098992820 tw9928792513677415202 tw8857905756570230524 tw16398003145780393747 tw3642363062768551495 tw18149895678098367055 tw14268816410873158711 tw8642146395106060296 tw1702671409409571530 tw14896347425284028676 tw17168106671632456373 tw17765805173212593918 tw15079704570050993520 tw12515313550550476266 tw8726621491777944536 tw15149603647880437832 tw201912587960360614 tw1312956370870988982 tw10113294047850345615 tw18326533509535671473 tw16272302689638435884 tw12867640714910578823 tw14009550898697397000 tw12008326680285656406 tw6558048404094169306 tw16001703327798776451 tw1666126342412264802 tw16459501877869682253 tw3526404917862953717 tw3449078524393977819 tw12852326633475074684 tw11980797688502611247 tw14994243381328728673 tw8094148326306588756 tw5481582910887605898 tw5039529424110089289 tw2653596821266945796 tw16024147837526827860 tw10854878860942445571 tw3663102007098371718 tw15513500619211486170 tw3432613363959024641 tw11955529538161516872 tw13092411698642558976 tw9018269011344438647 tw13038223444228945057 tw8922208897735663633 tw12487568997230670021 tw6502837151293424940 tw13011720629204415042 tw7055829467571307139 tw7802175673109994491 tw15952364275856971148 tw10655691445596486297 tw4954929829025386273 tw1732481470234415009 tw16172934606324128668 tw10700231409291339450 tw1971656414572488830 tw9478766336824236835 tw1536709226227540366 tw15874531773755494331 tw13150824957934558463 tw10470879791317057135 tw7359387343987898928 tw10391434545859916918 tw15118323410186143175 tw9699048760444750644 tw749229605742795426 tw9106612833381194719 tw9529608434087651671 tw14522209107685455993 tw345272265030512318 tw6150415048416730364 tw2971542251406438176 tw2104933224320313015 tw1653861255306596295 tw2692114877961271566 tw6539033326394441384 tw3816743845888345057 tw13475131187091084258 tw16436304612193657342 tw3395610236882647971 tw17106871128761031751 tw401352359381098351 tw12399534106745527175 tw3465467208860116844 tw4639055160346436454 tw15639612808537082848 tw15731139253049917734 tw9790502619353207217 tw17161075217339208928 tw260300028485283806 tw8124220567817975161 tw5751966212346547354 tw9633156141702057383 tw2975997931379318461 tw17761667208681821051 tw565029348757987586 tw15402160511825282800 tw12629626388021636317 tw7135551133520831784 tw15637644555108130798 tw5901653849446346710 tw1308636362554033779 tw9669030319729142149 tw637423730146461427 tw6612953110140957036 tw12749832406803023879 tw8074561083883948624 tw8469720415847461724 tw2147172048614333239 tw3186069014093970025 tw14311303368683922372 tw6637554609914359529 tw7867756071978224944 tw12020056389688410590 tw9719132831720125210 tw8989664479583953176 tw15100332052278538249 tw7254746718820781699 tw18422698787175633001 tw927388251385240967 tw11912169089875344569 tw12982053120509681538 tw11135143009166849444 tw16953602295214759682 tw14487550942276552180 tw10616026293512948422 tw4316309172706011694 tw1796673753520583008 tw1803800617722714044 tw4112226609452456639 tw2772537678118016128 tw2273155479606586558 tw16662065628353344125 tw1139784793879707984 tw8284884523796145991 tw4336772933574397407 tw10038711710952339401 tw2079243924730352338 tw6515524702025681956 tw7183569733289256197 tw10905554075098827539 tw3459298732696003546 tw7312267451487951571 tw5282475400155051259 tw6103564239372647435 tw6969888551064807186 tw11379756338046380419 tw14716465986196662965 tw11471169877247964290 tw13588239849641508346 tw17579679067058627609 tw9919220107859978894:True)
open PySem PySem.W PyProof.Rows
set_option maxRecDepth 100000 in
set_option maxHeartbeats 0 in
theorem PySem.Challenge.cw_taglook_k37_facts_known_holds : PySem.Challenge.rw_taglook_k37_facts_known.Holds := by
 w_on;o_law;k_head;(case hw=>w_witness2)
 k_fill
 refine FE.walk (l:=PySem.Challenge.rw_taglook_k37_facts_known) (cA:=306) (tA:=302) rfl rfl (λw h Y=>⟨PySem.W.km_in_of Y,PySem.W.km_tabs_of Y _ (List.Mem.head _)⟩) ?hK ?hT ?hC ?F
 case hK=>intro pm;exact(Eq.refl true)
 case hT=>intro pm;exact(Eq.refl true)
 case hC=>intro pm;exact(Eq.refl true)
 case F=>
  intro w mg fa h KX G hmg;refine' FE.all_mk KX G hmg ?nb ?z0 ?a0 ?l0 ?y0 ?w0 ?a1 ?l1 ?y1 ?w1 ?a2 ?l2 ?y2 ?w2 ?a3 ?l3 ?y3 ?w3 ?a4 ?l4 ?y4 ?w4 ?Sk ?Sl ?hd0 ?Sm ?Sn ?So ?Sq ?Sr ?Ss ?Su ?Sv ?lo1 ?Sw ?Sx ?Sy ?Sz ?SA ?SD ?SE ?SF ?i3 ?SG ?SH ?SI ?SJ ?i5 ?SK ?NP ?NQ ?SN ?i6 ?SO ?NR ?NS ?SQ ?i7 ?NT ?NU ?NV ?SR ?i8 ?NW ?NX ?NY ?SS ?i9 ?Oa ?Ob ?Oc ?Od ?NZ ?Oe ?Of ?Og ?Oh ?Oi ?Oj ?Ol ?Om ?Oo ?Oq ?Ot ?Ou ?Ov ?Ow ?Ox ?Oy ?Oz ?OA ?OB ?OC ?OD ?OE ?OF ?OG ?OH ?OI ?OJ ?OK ?OL ?OM ?ON ?OO ?OP ?OQ ?OR ?OS ?OT ?OU ?OV ?OW ?OX ?OY ?OZ ?O_ ?aC ?lC ?nC ?tC ?x1 ?x2 ?x3 ?x4 ?x5 ?N_ ?x5c ?x6 ?x7 ?x8 ?x9 ?lI ?yI ?wI ?SU ?aB ?gB ?rB ?iB ?j1 ?j2 ?j3 ?j4 ?e1 ?e2 ?e3 ?e4 ?e5 ?hex ?SV ?kA ?kO ?hcd
  (case nb=>exact(Eq.refl true))
  (case z0=>k_is)
  (case a0=>k_is)
  (case l0=>k_is)
  (case y0=>k_is)
  (case w0=>k_is)
  (case a1=>k_is)
  (case l1=>k_is)
  (case y1=>k_is)
  (case w1=>k_is)
  (case a2=>k_is)
  (case l2=>k_is)
  (case y2=>k_is)
  (case w2=>k_is)
  (case a3=>k_is)
  (case l3=>k_is)
  (case y3=>k_is)
  (case w3=>k_is)
  (case a4=>k_is)
  (case l4=>k_is)
  (case y4=>k_is)
  (case w4=>k_is)
  (case Sk=>k_is)
  (case Sl=>k_is)
  (case hd0=>k_is)
  (case Sm=>k_is)
  (case Sn=>k_is)
  (case So=>k_is)
  (case Sq=>k_is)
  (case Sr=>k_is)
  (case Ss=>k_is)
  (case Su=>k_is)
  (case Sv=>k_is)
  (case lo1=>k_is)
  (case Sw=>k_is)
  (case Sx=>k_is)
  (case Sy=>k_is)
  (case Sz=>exact rfl)
  (case SA=>k_is)
  (case SD=>k_is)
  (case SE=>k_is)
  (case SF=>k_is)
  (case i3=>k_is)
  (case SG=>k_is)
  (case SH=>k_is)
  (case SI=>k_is)
  (case SJ=>k_is)
  (case i5=>k_is)
  (case SK=>k_is)
  (case NP=>k_is)
  (case NQ=>k_is)
  (case SN=>k_is)
  (case i6=>k_is)
  (case SO=>k_is)
  (case NR=>k_is)
  (case NS=>k_is)
  (case SQ=>k_is)
  (case i7=>k_is)
  (case NT=>k_is)
  (case NU=>k_is)
  (case NV=>k_is)
  (case SR=>k_is)
  (case i8=>k_is)
  (case NW=>k_is)
  (case NX=>k_is)
  (case NY=>k_is)
  (case SS=>k_is)
  (case i9=>k_is)
  (case Oa=>k_is)
  (case Ob=>k_is)
  (case Oc=>k_is)
  (case Od=>k_is)
  (case NZ=>k_is)
  (case Oe=>k_is)
  (case Of=>k_is)
  (case Og=>k_is)
  (case Oh=>k_is)
  (case Oi=>k_is)
  (case Oj=>k_is)
  (case Ol=>k_is)
  (case Om=>k_is)
  (case Oo=>k_is)
  (case Oq=>k_is)
  (case Ot=>k_is)
  (case Ou=>k_is)
  (case Ov=>k_is)
  (case Ow=>k_is)
  (case Ox=>k_is)
  (case Oy=>k_is)
  (case Oz=>k_is)
  (case OA=>k_is)
  (case OB=>k_is)
  (case OC=>k_is)
  (case OD=>k_is)
  (case OE=>k_is)
  (case OF=>k_is)
  (case OG=>k_is)
  (case OH=>k_is)
  (case OI=>k_is)
  (case OJ=>k_is)
  (case OK=>k_is)
  (case OL=>k_is)
  (case OM=>k_is)
  (case ON=>k_is)
  (case OO=>k_is)
  (case OP=>k_is)
  (case OQ=>k_is)
  (case OR=>k_is)
  (case OS=>k_is)
  (case OT=>k_is)
  (case OU=>k_is)
  (case OV=>k_is)
  (case OW=>k_is)
  (case OX=>k_is)
  (case OY=>k_is)
  (case OZ=>k_is)
  (case O_=>k_is)
  (case aC=>k_is)
  (case lC=>k_is)
  (case nC=>k_is)
  (case tC=>exact(Eq.refl true))
  (case x1=>k_is)
  (case x2=>exact rfl)
  (case x3=>exact rfl)
  (case x4=>k_is)
  (case x5=>k_is)
  (case N_=>k_is)
  (case x5c=>k_is)
  (case x6=>k_is)
  (case x7=>exact rfl)
  (case x8=>k_is)
  (case x9=>k_is)
  (case lI=>k_is)
  (case yI=>k_is)
  (case wI=>k_is)
  (case SU=>k_is)
  (case aB=>k_is)
  (case gB=>k_is)
  (case rB=>k_is)
  (case iB=>k_is)
  (case j1=>k_is)
  (case j2=>k_is)
  (case j3=>k_is)
  (case j4=>k_is)
  (case e1=>k_is)
  (case e2=>k_is)
  (case e3=>k_is)
  (case e4=>k_is)
  (case e5=>k_is)
  (case hex=>exact(Eq.refl (some true)))
  (case SV=>exact(Eq.refl (some true)))
  (case kA=>exact(Eq.refl (some false)))
  (case kO=>exact(Eq.refl (some true)))
  (case hcd=>rfl)
