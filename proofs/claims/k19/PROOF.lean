import PyProof.Rows.All
import Wide.All
import OpenK.AllK
import Wide.FinOn
import Lean
import PyProof.EqAt
import PyProof.EqKinds
import PyProof.TupleCall
import PyProof.EnumFor
import PyProof.EnumMake
import PyProof.EnumStmt
import PyProof.Rows.EnumRows
import PyProof.RulesTry
import PyProof.Rows.StrWeight2
import PyProof.AutoListH
import PyProof.Draws
import PyProof.Rows.SortStr
import PyProof.Rows.SortShell
import PyProof.Rows.SortWalk
import PyProof.Rows.StrMeet
import PyProof.ExcClass3
import PyProof.ExcAttrAll.ValueError
import KE.KIsAll
import PyProof.ExcBaseAll.ValueError
import PyProof.RulesAs
import KE.KTryMore
import PyProof.FitsReplace
import PyProof.ListRange
import PyProof.ListCopy
import PyProof.Rows.FactsT1
import PyProof.Rows.FactsT2
import PyProof.Rows.SetFrom
import PyProof.SetRoads
import PySem.Challenge.RW_taglook_k19_refusals_apart
set_option Elab.async false
set_option bootstrap.genMatcherCode false
set_option genSizeOfSpec false
set_option linter.all false
set_option maxRecDepth 100000
set_option maxHeartbeats 4000000
noncomputable section
namespace L2
open PySem PySem.Spec PyProof.Rows
abbrev Key:=Sum Int Str
noncomputable def uf:Key->Value->Bool
 |.inl k,v=>Value.isInt k v
 |.inr x,v=>Value.isStrOf x v
noncomputable def AS(w:World):Key->Int
 |.inl k=>hashInt k
 |.inr x=>hashStr w x
theorem bh:∀{k:Key}{v:Value},uf k v=true->(∃i t,k=Sum.inl i/\v=Value.int i t)\/(∃x t,k=Sum.inr x/\v=Value.str x t)
 |.inl i,v,h=>by
  obtain⟨t,e⟩:=Value.isInt_shape (k:=i) (v:=v) h;exact .inl ⟨i,t,rfl,e⟩
 |.inr x,v,h=>by
  obtain⟨t,e⟩:=Value.isStrOf_shape (x:=x) (v:=v) h;exact .inr ⟨x,t,rfl,e⟩
theorem uO(a b:Int):decide ((Sum.inl a:Key)=Sum.inl b)=(a==b):=by
 by_cases e:a=b
 .subst e;simp
 .have h:¬ (Sum.inl a:Key)=Sum.inl b:=λq=>e (Sum.inl.inj q)
  rw[decide_eq_false h];exact(beq_eq_false_iff_ne.mpr e).symm
theorem uP(a b:Str):decide ((Sum.inr a:Key)=Sum.inr b)=decide (a=b):=by
 by_cases e:a=b
 .subst e;simp
 .have h:¬ (Sum.inr a:Key)=Sum.inr b:=λq=>e (Sum.inr.inj q)
  rw[decide_eq_false h,decide_eq_false e]
theorem uQ(a:Int)(b:Str):decide ((Sum.inl a:Key)=Sum.inr b)=false:=decide_eq_false (λq=>nomatch q)
theorem uR(a:Str)(b:Int):decide ((Sum.inr a:Key)=Sum.inl b)=false:=decide_eq_false (λq=>nomatch q)
def iM(prog:Program)(w:World):PySem.KeyKind prog w Key where
 is:=uf
 hash:=AS w
 inj:=λv a b g f=>by
  rcases bh g with ⟨i,t,rfl,rfl⟩|⟨x,t,rfl,rfl⟩
  .rcases bh f with ⟨j,u,rfl,e⟩|⟨y,u,rfl,e⟩
   .injection e with c _;rw[c]
   .exact nomatch e
  .rcases bh f with ⟨j,u,rfl,e⟩|⟨y,u,rfl,e⟩
   .exact nomatch e
   .injection e with c _;rw[c]
 byValue:=λk v h=>by
  rcases bh h with ⟨i,t,rfl,rfl⟩|⟨x,t,rfl,rfl⟩<;>rfl
 pyHash:=λd h=>by
  rcases bh d with ⟨i,t,rfl,rfl⟩|⟨x,t,rfl,rfl⟩
  .exact wpAny_pyHash_int h
  .exact wpAny_pyHash_str h
 eqBool:=λl d h=>by
  rcases bh l with ⟨i,t,rfl,rfl⟩|⟨x,t,rfl,rfl⟩
  .rcases bh d with ⟨j,u,rfl,rfl⟩|⟨y,u,rfl,rfl⟩
   .rw[uO]at h;exact wpAny_eqBool_int h
   .rw[uQ]at h;exact SeqAt.EqAt.int_str i t y u _ _ _ _ h
  .rcases bh d with ⟨j,u,rfl,rfl⟩|⟨y,u,rfl,rfl⟩
   .rw[uR]at h;exact SeqAt.EqAt.str_int x t j u _ _ _ _ h
   .rw[uP]at h;exact wpAny_eqBool_str h
 «strs» := λk x t v h=>by
  rcases bh h with ⟨i,u,rfl,e⟩|⟨y,u,rfl,e⟩
  .exact nomatch e
  .injection e with c _
   subst c;cases v<;>rfl
inductive V where
 |non|bl (b:Bool)|int (i:Int)|str (x:Str)|wK (b:Array UInt8)|flt (b:UInt64)|ref (a:Addr)|ty (n:String)
 deriving DecidableEq
def RelV:V->Value->Prop
 |.non,u=>u=Value.none
 |.bl b,u=>u=Value.bool b
 |.int i,u=>∃t,u=Value.int i t
 |.str x,u=>∃t,u=Value.str x t
 |.wK b,u=>∃t,u=Value.bytes b t
 |.flt b,u=>∃t,u=Value.float b t
 |.ref a,u=>u=Value.ref a
 |.ty n,u=>u=Value.type n
abbrev Vals:List V->List Value->Prop:=Paired RelV
theorem Vals.length{xs:List V}{us:List Value}(r:Vals xs us):xs.length=us.length:=Paired.length r
theorem Vals.get:∀{xs:List V}{us:List Value}{i:Nat}{x:V},Vals xs us->xs[i]?=some x->∃u,us[i]?=some u/\RelV x u
 |_,_,_,_,.nil,e=>by simp at e
 |_,_,0,_,.cons r _,e=>by simp at e;subst e;exact⟨_,rfl,r⟩
 |_,_,i+1,x,.cons _ t,e=>by
  obtain⟨u,h1,h2⟩:=Vals.get (i:=i) (x:=x) t (by simpa using e)
  exact⟨u,by simpa using h1,h2⟩
theorem Vals.append:∀{xs a:List V}{us b:List Value},Vals xs us->Vals a b->Vals (xs++a) (us++b)
 |_,_,_,_,.nil,s=>s
 |_,_,_,_,.cons r t,s=>.cons r (Vals.append t s)
theorem Vals.take:∀{xs:List V}{us:List Value} (n:Nat),Vals xs us->Vals (xs.take n) (us.take n)
 |_,_,0,_=>.nil
 |_,_,_+1,.nil=>.nil
 |_,_,n+1,.cons r t=>.cons r (Vals.take n t)
theorem Vals.drop:∀{xs:List V}{us:List Value} (n:Nat),Vals xs us->Vals (xs.drop n) (us.drop n)
 |_,_,0,r=>r
 |_,_,_+1,.nil=>.nil
 |_,_,n+1,.cons _ t=>Vals.drop n t
def eM:Option V->Option Value->Prop
 |some v,some u=>RelV v u
 |none,none=>True
 |_,_=>False
def KV{κ:Type}:List (κ×V)->List (κ×Value)->Prop:=Paired λ(p:κ×V) (q:κ×Value)=>p.1=q.1/\RelV p.2 q.2
noncomputable def kV:Key->V
 |.inl i=>.int i
 |.inr x=>.str x
inductive HO where
 |lst (xs:List V)
 |tup (xs:List V)
 |dK (kvs:List (Key×V))|dT (kvs:List (List Key×V))
 |set (S:Int->Bool) (n:Nat)
 |ins (C dx:Addr) (fs:List (Str×V))
 |own (x:Addr)
 |xd (fs:List (Str×V))
 |met (f x:Addr)
 |AU (lo hi:Int)
 |eK (o:Obj) (u:HO)
 |uS (ps:Array Value)
 |ext (φ:Heap->Prop)
abbrev Hp:=Addr->Option HO
noncomputable def upd(H:Hp)(a:Addr)(o:HO):Hp:=λb=>if b=a then some o else H b
theorem aI{H:Hp}{a:Addr}{o:HO}:upd H a o a=some o:=by unfold upd;rw[if_pos rfl]
theorem ao{H:Hp}{a b:Addr}{o:HO}(h:b≠a):upd H a o b=H b:=by unfold upd;rw[if_neg h]
theorem aL{H:Hp}{a b:Addr}{o:HO}(h:H a=some o)(h':H b=none):a≠b:=by
 intro e;subst e;rw[h]at h';cases h'
section
variable(P:Program)(w:World)
def bA(H:Hp)(h:Heap)(a:Addr):HO->Prop
 |.lst xs=>xs.length<=sizeLine/\∃(b:List Value) (n:Nat),Vals xs b/\h.get? a=some {cls:=.type "list",data:=.seq b.toArray n}
 |.tup xs=>xs.length<=sizeLine/\∃b:List Value,Vals xs b/\IsTup h a b.toArray
 |.dK kvs=>kvs.length<=sizeLine/\(a==sysModules)=false/\∃vs,KV kvs vs/\h.DictOf (iM P w) a vs
 |.dT kvs=>kvs.length<=sizeLine/\(a==sysModules)=false/\∃xs:List (List Key×Addr×Value),
   Paired (λ(p:List Key×V) (q:List Key×Addr×Value)=>p.1=q.1/\H q.2.1=some (.tup (p.1.map kV))/\RelV p.2 q.2.2) kvs xs /\
   ∃o es i,h.get? a=some o/\o.ExactDict/\o.data=.dict es i/\es.toList=xs.map (entryOfKey (tupleKind (iM P w)))/\(xs.map (·.1)).Nodup
 |.set S n=>h.SetOf (intKind P w) a S n
 |.ins C dx fs=>H dx=some (.own a)/\fs.length<=1000/\dx≠a/\h.get? a=some (PySem.W.instObj C dx) /\
   ∃c,h.Ns1 dx c/\(∀f,eM (fs.lookup f) (c f))/\PySem.Within c (fs.map (·.1))
 |.own _=>∃o,h.get? a=some o
 |.xd fs=>∃c,h.Ns1 a c/\∀f,eM (fs.lookup f) (c f)
 |.AU lo hi=>∃t u v,h.get? a=some {cls:=.type "range",data:=.fields #[.int lo t,.int hi u,.int 1 v]}
 |.eK o u=>h.get? a=some o/\bA H h a u
 |.uS ps=>h.get? a=some {cls:=.none,data:=.fields ps}
 |.met f x=>h.get? a=some (PySem.W.methodObj (.ref f) (.ref x))
 |.ext d=>d h/\(∃o,h.get? a=some o)/\∀e g:Heap,d e->(∀o,e.get? a=some o->g.get? a=some o)->d g
def fO(H:Hp)(h:Heap):Prop:=∀a o,H a=some o->bA P w H h a o
end
section
variable{P:Program}{w:World}{H H':Hp}{h h':Heap}{a:Addr}{o:HO}
theorem bA.lt(x:bA P w H h a o):a<h.objs.size:=by
 cases o with
 |lst c=>obtain⟨_,_,_,_,e⟩:=x;exact Heap.lt_size e
 |tup c=>obtain⟨_,_,_,p⟩:=x;exact p.lt
 |dK b=>obtain⟨_,_,_,_,o,_,_,e,_⟩:=x;exact Heap.lt_size e
 |dT b=>obtain⟨_,_,_,_,o,_,_,e,_⟩:=x;exact Heap.lt_size e
 |set S n=>obtain⟨o,_,_,_,e,_⟩:=x;exact Heap.lt_size e
 |ins C g d=>obtain⟨_,_,_,e,_⟩:=x;exact Heap.lt_size e
 |own y=>obtain⟨_,e⟩:=x;exact Heap.lt_size e
 |xd d=>obtain⟨_,⟨_,_,_,e,_⟩,_⟩:=x;exact Heap.lt_size e
 |AU i j=>obtain⟨_,_,_,e⟩:=x;exact Heap.lt_size e
 |eK k u=>obtain⟨e,_⟩:=x;exact Heap.lt_size e
 |uS l=>exact Heap.lt_size (show h.get? a=some _ from x)
 |met f y=>exact Heap.lt_size (show h.get? a=some _ from x)
 |ext m=>obtain⟨_,⟨_,e⟩,_⟩:=x;exact Heap.lt_size e
theorem Paired.wY{c d:Type}{F G:c->d->Prop}:∀{l₁:List c}{l₂:List d},Paired F l₁ l₂->(∀a b,F a b->G a b)->Paired G l₁ l₂
 |_,_,.nil,_=>.nil
 |_,_,.cons r t,f=>.cons (f _ _ r) (Paired.wY t f)
theorem bA.stay(x:bA P w H h a o)(k:∀b u,(b=a\/H b=some (.own a))->h.get? b=some u->h'.get? b=some u)
  (E:∀b,H b=some (.own a)->H' b=some (.own a)) (F:∀b xs,H b=some (.tup xs)->H' b=some (.tup xs)):bA P w H' h' a o:=by
 induction o with
 |lst xs=>obtain⟨z,l,n,r,e⟩:=x;exact⟨z,l,n,r,k _ _ (.inl rfl) e⟩
 |tup xs=>obtain⟨z,l,r,g,e,c⟩:=x;exact⟨z,l,r,g,k _ _ (.inl rfl) e,c⟩
 |dK m=>obtain⟨z,y,G,r,g,i,j,e,c⟩:=x;exact⟨z,y,G,r,g,i,j,k _ _ (.inl rfl) e,c⟩
 |dT m=>
  obtain⟨z,y,xs,r,g,i,j,e,c⟩:=x;exact⟨z,y,xs,Paired.wY r λp q z=>⟨z.1,F _ _ z.2.1,z.2.2⟩,g,i,j,k _ _ (.inl rfl) e,c⟩
 |set S n=>obtain⟨g,i,j,t,e,c⟩:=x;exact⟨g,i,j,t,k _ _ (.inl rfl) e,c⟩
 |ins C M I=>
  obtain⟨d,z,J,e,s,⟨A,i,j,K,c⟩,r⟩:=x;exact⟨E _ d,z,J,k _ _ (.inl rfl) e,s,⟨A,i,j,k _ _ (.inr d) K,c⟩,r⟩
 |own y=>obtain⟨g,e⟩:=x;exact⟨g,k _ _ (.inl rfl) e⟩
 |xd I=>obtain⟨s,⟨A,i,j,e,c⟩,r⟩:=x;exact⟨s,⟨A,i,j,k _ _ (.inl rfl) e,c⟩,r⟩
 |AU N O=>obtain⟨t,u,v,e⟩:=x;exact⟨t,u,v,k _ _ (.inl rfl) e⟩
 |eK g u L=>obtain⟨e,q⟩:=x;exact⟨k _ _ (.inl rfl) e,L q⟩
 |uS B=>
  have e:h.get? a=some {cls:=.none,data:=.fields B}:=x
  show h'.get? a=some {cls:=.none,data:=.fields B}
  exact k a _ (.inl rfl) e
 |met f y=>
  have e:h.get? a=some (PySem.W.methodObj (.ref f) (.ref y)):=x
  show h'.get? a=some (PySem.W.methodObj (.ref f) (.ref y))
  exact k a _ (.inl rfl) e
 |ext Q=>obtain⟨p,⟨o,e⟩,D⟩:=x;exact⟨D _ _ p λo q=>k _ _ (.inl rfl) q,⟨o,k _ _ (.inl rfl) e⟩,D⟩
theorem fO.lt(x:fO P w H h)(e:H a=some o):a<h.objs.size:=(x a o e).lt
theorem fO.fresh(x:fO P w H h)(e:h.objs.size<=a):H a=none:=by
 cases q:H a with
 |none=>rfl
 |some u=>exact absurd (Nat.lt_of_lt_of_le (x.lt q) e) (Nat.lt_irrefl _)
theorem fO.kept(x:fO P w H h)(k:∀b u,h.get? b=some u->h'.get? b=some u):fO P w H h':=λa o e=>
 (x a o e).stay (λb u _ q=>k b u q) (λ_ q=>q) λ_ _ q=>q
theorem fO.laid(x:fO P w H h)(k:∀b u,h.get? b=some u->h'.get? b=some u)(i:h.objs.size<=a)(d:bA P w (upd H a o) h' a o):fO P w (upd H a o) h':=λb u e=>by
 have f:=x.fresh i
 by_cases g:b=a
 .subst g;rw[aI]at e;cases e;exact d
 .rw[ao g]at e
  exact(x b u e).stay (λc v _ q=>k c v q) (λc q=>by rw[ao (aL q f)];exact q) λc j q=>by rw[ao (aL q f)];exact q
end
def Rd(H:Hp)(a:Addr)(u:HO):Prop:=H a=some u\/∃o,H a=some (.eK o u)
theorem Rd.ok{P:Program}{w:World}{H:Hp}{h:Heap}{a:Addr}{u:HO}(r:Rd H a u)(x:fO P w H h):bA P w H h a u:=by
 rcases r with r|⟨o,r⟩
 .exact x a u r
 .obtain⟨_,q⟩:=x a _ r
  exact q
def zC:Option HO->Prop
 |some (.lst _)=>True
 |some (.dK _)=>True
 |some (.dT _)=>True
 |some (.set _ _)=>True
 |some (.ins _ _ _)=>True
 |some (.ext _)=>True
 |_=>False
section
variable{P:Program}{w:World}{H:Hp}{h h':Heap}{x e:Addr}{o':HO}
theorem fO.write(ok:fO P w H h)(g:zC (H x))(n:e=x\/H e=some (.own x))(k:∀b u,b≠e->h.get? b=some u->h'.get? b=some u)(l:∃u,h'.get? e=some u)
  (m:bA P w (upd H x o') h' x o'):fO P w (upd H x o') h':=λb u q=>by
 have d:∀c y,H c=some (.own y)->c≠x:=λc y r z=>by subst z;rw[r]at g;exact g
 have f:∀c i,H c=some (.tup i)->c≠x:=λc i r z=>by subst z;rw[r]at g;exact g
 by_cases j:b=x
 .subst j;rw[aI]at q;cases q;exact m
 .rw[ao j]at q
  by_cases a:b=e
  .have o:H b=some (.own x):=by
    rcases n with z|z
    .exact absurd (a.trans z) j
    .rw[a];exact z
   rw[q]at o;cases o
   obtain⟨v,p⟩:=l;exact⟨v,by rw[a];exact p⟩
  .refine(ok b u q).stay (λc v hc r=>k c v ?_ r) (λc r=>by rw[ao (d c b r)];exact r) λc i r=>by rw[ao (f c i r)];exact r
   rcases hc with rfl|hc
   .exact a
   .rintro rfl
    rcases n with z|z
    .exact d c b hc z
    .rw[hc]at z;cases z;exact j rfl
end
structure Un(fs ex:List Addr)(H H':Hp)(h h':Heap):Prop where
 keep:∀b o,h.get? b=some o->H b=none->b∉fs->b∉ex->h'.get? b=some o
 slot:∀b o,h.get? b=some o->H b=none->b∈fs->b∉ex->∃sl,h'.get? b=some {o with slots:=sl}
 free:∀b o,h.get? b=some o->H b=none->b∉ex->H' b=none
 there:∀b o,h.get? b=some o->b∉ex->∃o',h'.get? b=some o'
 tups:∀b xs,H b=some (.tup xs)->H' b=some (.tup xs)
 fk:∀b o u,H b=some (.eK o u)->H' b=some (.eK o u)
 hG:∀b ps,H b=some (.uS ps)->∃more,H' b=some (.uS (ps++more))
section
variable{fs fs' ex ex':List Addr}{H H1 H2:Hp}{h h1 h2 h':Heap}{a x e:Addr}{o:HO}
theorem Un.any(u:Un fs ex H H1 h h1){b:Addr}{ob:Obj}(q:h.get? b=some ob)(n:H b=none)(a:b∉ex):∃d,h1.get? b=some {ob with slots:=d}:=by
 by_cases c:b∈fs
 .exact u.slot b ob q n c a
 .exact⟨ob.slots,u.keep b ob q n c a⟩
theorem Un.kept(k:∀b u,h.get? b=some u->h'.get? b=some u):Un fs ex H H h h':=
 ⟨λb a q _ _ _=>k b a q,λb a q _ _ _=>⟨a.slots,k b a q⟩,λ_ _ _ n _=>n,λb a q _=>⟨a,k b a q⟩,λ_ _ q=>q,λ_ _ _ q=>q,λ_ c q=>⟨#[],by rw[q];simp⟩⟩
theorem Un.refl:Un fs ex H H h h:=Un.kept λ_ _ q=>q
theorem Un.laid(k:∀b u,h.get? b=some u->h'.get? b=some u)(d:h.objs.size<=a)(c:H a=none):Un fs ex H (upd H a o) h h' where
 keep:=λb u q _ _ _=>k b u q
 slot:=λb u q _ _ _=>⟨u.slots,k b u q⟩
 free:=λb u q n _=>by rw[ao (Nat.ne_of_lt (Nat.lt_of_lt_of_le (Heap.lt_size q) d))];exact n
 there:=λb u q _=>⟨u,k b u q⟩
 tups:=λb e q=>by rw[ao (aL q c)];exact q
 fk:=λb u e q=>by rw[ao (aL q c)];exact q
 hG:=λb f q=>⟨#[],by rw[ao (aL q c),q];simp⟩
theorem Un.write(c:zC (H x))(j:e=x\/H e=some (.own x))(k:∀b u,b≠e->h.get? b=some u->h'.get? b=some u)(d:∃u,h'.get? e=some u):Un fs ex H (upd H x o) h h':=by
 have g:∀b,H b=none->b≠x:=λb n z=>by subst z;rw[n]at c;exact c
 have i:∀b,H b=none->b≠e:=λb n z=>by
  subst z;rcases j with r|r
  .exact g b n r
  .rw[n]at r;cases r
 have f:∀b u,H b=some u->¬ zC (some u)->b≠x:=λb u q l z=>by subst z;rw[q]at c;exact l c
 refine⟨λb u q n _ _=>k b u (i b n) q,λb u q n _ _=>⟨u.slots,k b u (i b n) q⟩,λb u q n _=>by rw[ao (g b n)];exact n,λb u q _=>?_,
  λb m q=>by rw[ao (f b _ q λz=>z)];exact q,λb u m q=>by rw[ao (f b _ q λz=>z)];exact q,λb p q=>⟨#[],by rw[ao (f b _ q λz=>z),q];simp⟩⟩
 by_cases a:b=e
 .subst a;exact d
 .exact⟨u,k b u a q⟩
theorem Un.mono(u:Un fs ex H H1 h h1)(e:∀b∈fs,b∈fs')(d:∀b∈ex,b∈ex'):Un fs' ex' H H1 h h1:=
 ⟨λb c q n f a=>u.keep b c q n (λz=>f (e b z)) λz=>a (d b z),λ_ _ q n _ a=>u.any q n λz=>a (d _ z),λb c q n a=>u.free b c q n λz=>a (d b z),λb c q a=>u.there b c q λz=>a (d b z),u.tups,u.fk,u.hG⟩
end
noncomputable def zD(h:Heap)(H:Hp):List Addr:=(List.range h.objs.size).filter λa=>(H a).isSome
def iN(h:Heap)(H:Hp):Heap:=PySem.W.hideAll h (zD h H)
theorem mM(h:Heap)(H:Hp):(iN h H).objs.size=h.objs.size:=PySem.W.hideAll_size _ _
theorem nR{h:Heap}{H:Hp}{b:Addr}{o:Obj}(e:h.get? b=some o)(n:H b=none):(iN h H).get? b=some o:=
 PySem.W.hideAll_get _ e λa=>by
  have q:(H b).isSome=true:=(List.mem_filter.mp a).2;rw[n]at q;simp at q
theorem qH{h:Heap}{H:Hp}{b:Addr}{o:Obj}(e:(iN h H).get? b=some o):h.get? b=some o/\H b=none:=by
 have a:h.get? b=some o:=PySem.W.of_hideAll (zD h H) e;refine⟨a,?_⟩;cases q:H b with
 |none=>rfl
 |some x=>
  have c:b∈zD h H:=List.mem_filter.mpr ⟨List.mem_range.mpr (Heap.lt_size a),by simp[q]⟩
  have z:(iN h H).get? b=none:=PySem.W.hideAll_none (zD h H) c;rw[z]at e;cases e
noncomputable def qI(g h:Heap)(L:Addr):List (Addr×Obj):=(List.range h.objs.size).filterMap λa=>if a=L\/(g.get? a).isSome=true then none else (h.get? a).map λo=>(a,o)
def rest(g h:Heap)(L d:Addr):List (Addr×Obj):=(qI g h L).filter λp=>decide (p.1≠d)
structure Mod(K:PySem.W.Frag)(mg:Str->Option Value)(base:Heap):Prop where
 wZ:K.In base
 glob:base.Ns mainGlobals mg
 blt:∃mb,base.Ns builtinsNs mb/\∀x:Str,x≠"__name__"->mb x=bootBuiltins x
 nolimit:base.NoLimit
structure Cx where
 prog:Program
 w:World
 K:PySem.W.Frag
 mg:Str->Option Value
 base:Heap
 A:Around
 N:List Str
 s₀:Shared
 H₀:Hp
 env:Env
 outer:List Env
 stack:List Env
 ex:List Addr
 fn:Str->Bool
 calm:Bool
 pn:List (Addr×Obj)
 xe:Value->Shared->Prop
noncomputable def frs(l:List Env):List Addr:=l.filterMap (·.frame)
abbrev Cx.fs(X:Cx):List Addr:=frs X.outer
def qC(a:Scope)(x:Str):Prop:=a.names.lookup x=some .local\/a.names.lookup x=some .cell\/a.names.lookup x=some .free
def Loc(a:Scope)(x:Str):Prop:=a.names.lookup x=some .local\/a.names.lookup x=some .cell
def Look(env:Env)(h:Heap)(m:Str->Option Value)(x:Str)(u:Value):Prop:=
 (env.kindOf x=some .local/\m x=some u)\/((env.kindOf x=some .cell\/env.kindOf x=some .free)/\∃c,env.cells.lookup x=some c/\h.IsCell c (some u))
structure Cx.Ok(X:Cx):Prop where
 mod:Mod X.K X.mg X.base
 kind:X.env.scope.kind=.function
 glob:X.env.globals=mainGlobals
 blt:X.env.builtins=builtinsNs
 above:X.s₀.heap.objs.size<=X.env.locals
 inj:∀x y c,X.env.cells.lookup x=some c->X.env.cells.lookup y=some c->x=y
 has:∀x,(X.env.kindOf x=some .cell\/X.env.kindOf x=some .free)->∃c,X.env.cells.lookup x=some c
 cab:∀x c,X.fn x=true->X.env.cells.lookup x=some c->X.s₀.heap.objs.size<=c
 hd:X.calm=true->X.A.handled=none
 frames:X.A.frames=some X.stack
 w4:X.stack=X.outer\/(X.stack=X.env::X.outer/\X.env.frame=some X.env.locals)
 zE:∀b∈X.ex,b≠X.env.locals/\∀x c,X.env.cells.lookup x=some c->c≠b
 bs:∀b o,X.base.get? b=some o->X.s₀.heap.get? b=some o/\X.H₀ b=none
 qD:X.base.objs.size<=X.s₀.heap.objs.size
 nS:∀b o,X.base.get? b=some o->b∉X.ex
 nT:∀b∈X.ex,b∉X.fs
 fm:X.s₀.heap.FunFrames X.base X.outer
 ug:∀b∈X.fs,X.H₀ b=none
structure Inv(X:Cx)(pins:List (Addr×Obj))(σ:List (Option V))(H:Hp)(s:Shared):Prop where
 ok:X.Ok
 os:s.os=X.s₀.os
 bare:AllBare s.gens
 base:Un X.fs X.ex X.H₀ H X.s₀.heap s.heap
 loc:∃m,s.heap.Ns X.env.locals m/\∀(i:Nat) (x:Str) (v:V),X.N[i]?=some x->σ[i]?=some (some v)->qC X.env.scope x->∃u,RelV v u/\Look X.env s.heap m x u
 cell:∀x c,X.env.cells.lookup x=some c->∃v,s.heap.IsCell c v
 free:H X.env.locals=none
 cJ:∀x c,X.env.cells.lookup x=some c->(H c=none\/∃o u,H c=some (.eK o u))/\(X.fn x=true->H c=none)
 pin:∀p∈X.pn++pins,s.heap.get? p.1=some p.2/\H p.1=none/\p.1≠X.env.locals/\p.1∉X.fs/\∀v,p.2.data≠.cell v
 hok:fO X.prog X.w H s.heap
 len:σ.length=X.N.length
section
variable{X:Cx}{pins:List (Addr×Obj)}{σ:List (Option V)}{H H':Hp}{s:Shared}{h':Heap}
theorem Cx.Ok.AV(ok:X.Ok){b:Addr}{o:Obj}(e:X.base.get? b=some o):b∉X.fs:=λa=>by
 have:=(ok.fm.mem a).1;rw[e]at this;cases this
theorem Inv.bs(I:Inv X pins σ H s):∀b o,X.base.get? b=some o->s.heap.get? b=some o/\H b=none:=λb o e=>
 ⟨I.base.keep b o (I.ok.bs b o e).1 (I.ok.bs b o e).2 (I.ok.AV e) (I.ok.nS b o e),I.base.free b o (I.ok.bs b o e).1 (I.ok.bs b o e).2 (I.ok.nS b o e)⟩
theorem Inv.bk(I:Inv X pins σ H s):∀b o,X.base.get? b=some o->s.heap.get? b=some o:=λb o e=>(I.bs b o e).1
theorem Inv.mod(I:Inv X pins σ H s):Mod X.K X.mg X.base:=I.ok.mod
theorem Inv.dB(I:Inv X pins σ H s):X.K.In s.heap:=I.ok.mod.wZ.keeps I.bk
theorem Inv.lt(I:Inv X pins σ H s):X.env.locals<s.heap.objs.size:=let ⟨_,a,_⟩:=I.loc;a.lt
theorem Inv.sz(I:Inv X pins σ H s):X.s₀.heap.objs.size<=s.heap.objs.size:=Nat.le_trans I.ok.above (Nat.le_of_lt I.lt)
theorem Inv.AW(I:Inv X pins σ H s){a:Addr}(h:s.heap.objs.size<=a):a∉X.fs:=λb=>by
 obtain⟨_,o,c,_⟩:=I.ok.fm.mem b;exact absurd (Nat.lt_of_lt_of_le (Heap.lt_size c) (Nat.le_trans I.sz h)) (Nat.lt_irrefl _)
theorem Inv.AX(I:Inv X pins σ H s):∀x c,X.env.cells.lookup x=some c->c≠X.env.locals:=λx c e z=>by
 obtain⟨v,o,d,f⟩:=I.cell x c e;obtain⟨m,⟨g,h,i,a,b,_⟩,_⟩:=I.loc;rw[z,a]at d;cases d;rw[b]at f;cases f
theorem Inv.fm(I:Inv X pins σ H s):s.heap.FunFrames X.base X.outer:=by
 have a:∀(l:List Env),(∀b∈frs l,b∈X.fs)->X.s₀.heap.FunFrames X.base l->s.heap.FunFrames X.base l:=by
  intro l
  induction l with
  |nil=>intro _ _;trivial
  |cons h r i=>
   intro g j;obtain⟨k,⟨L,o,c,m,n,p⟩,q⟩:=j;have d:L∈X.fs:=g L (by unfold frs;rw[List.filterMap_cons,c];exact List.mem_cons_self)
   obtain⟨t,e⟩:=I.base.slot L o n (I.ok.ug L d) d λz=>I.ok.nT L z d
   exact⟨k,⟨L,_,c,m,e,p⟩,i (λb f=>g b (by unfold frs;rw[List.filterMap_cons,c];exact List.mem_cons_of_mem _ f)) q⟩
 exact a X.outer (λ_ f=>f) I.ok.fm
theorem Inv.stack(I:Inv X pins σ H s):s.heap.FunFrames X.base X.stack:=by
 rcases I.ok.w4 with e|⟨e,a⟩
 .rw[e];exact I.fm
 .rw[e]
  obtain⟨m,b,_⟩:=I.loc;refine .cons (by rw[I.ok.kind];decide) a b ?_ I.fm
  exact Heap.get?_none_of_le (Nat.le_trans I.ok.qD I.ok.above)
theorem Inv.ky(I:Inv X pins σ H s):∀b∈frs X.stack,b∈X.env.locals::X.fs:=λb a=>by
 rcases I.ok.w4 with e|⟨e,c⟩
 .rw[e]at a;exact List.mem_cons_of_mem _ a
 .rw[e]at a
  unfold frs at a;rw[List.filterMap_cons,c]at a;exact a
theorem Inv.lA(I:Inv X pins σ H s):∀b∈frs X.stack,H b=none:=λb hb=>by
 rcases List.mem_cons.mp (I.ky b hb)with e|hb
 .rw[e];exact I.free
 .obtain⟨_,o,a,_⟩:=I.ok.fm.mem hb
  exact I.base.free b o a (I.ok.ug b hb) λz=>I.ok.nT b z hb
theorem Inv.step{g':Array GenState}{t':Nat}{d':Drawn}{ch:List Addr}(I:Inv X pins σ H s)
  (h:∀b∈ch,(b∈X.ex\/X.s₀.heap.objs.size<=b)/\b≠X.env.locals/\(∀x c,X.env.cells.lookup x=some c->c≠b)/\∀p∈X.pn++pins,p.1≠b)
  (keep:∀b o,b≠X.env.locals->b∉X.fs->b∉ch->s.heap.get? b=some o->H b=none->h'.get? b=some o)
  (slot:∀b o,b≠X.env.locals->b∈X.fs->b∉ch->s.heap.get? b=some o->H b=none->∃M,h'.get? b=some {o with slots:=M}) (free:∀b o,b∉ch->s.heap.get? b=some o->H b=none->H' b=none)
  (there:∀b o,b∉ch->s.heap.get? b=some o->∃E,h'.get? b=some E)
  (tups:∀b xs,H b=some (.tup xs)->H' b=some (.tup xs)) (fk:∀b o u,H b=some (.eK o u)->H' b=some (.eK o u)) (hG:∀b ps,H b=some (.uS ps)->∃more,H' b=some (.uS (ps++more)))
  (ns:∀m,s.heap.Ns X.env.locals m->h'.Ns X.env.locals m) (F:fO X.prog X.w H' h') (S:AllBare g') :
  Inv X pins σ H' {s with heap:=h',gens:=g',drawn:=d',toks:=t' }:=by
 have G:∀b o,X.s₀.heap.get? b=some o->b≠X.env.locals:=λb o e=>Nat.ne_of_lt (Nat.lt_of_lt_of_le (Heap.lt_size e) I.ok.above)
 have t:∀b o,X.s₀.heap.get? b=some o->b∉X.ex->b∉ch:=λb o e f A=>by
  rcases(h b A).1 with z|z
  .exact f z
  .exact absurd (Nat.lt_of_lt_of_le (Heap.lt_size e) z) (Nat.lt_irrefl _)
 have j:∀x c,X.env.cells.lookup x=some c->∀v,s.heap.IsCell c v->h'.IsCell c v:=λx c e v ⟨o,y,J⟩=>by
  have a:c∉ch:=λz=>(h c z).2.2.1 x c e rfl
  rcases(I.cJ x c e).1 with C|⟨D,K,L⟩
  .by_cases O:c∈X.fs
   .obtain⟨M,q⟩:=slot c o (I.AX x c e) O a y C
    exact⟨_,q,J⟩
   .exact⟨o,keep c o (I.AX x c e) O a y C,J⟩
  .have g:s.heap.get? c=some D:=(I.hok c _ L).1
   have B:h'.get? c=some D:=(F c _ (fk c D K L)).1;rw[y]at g;cases g
   exact⟨o,B,J⟩
 refine⟨I.ok,I.os,S,⟨λb o e n A f=>?_,λb o e n A f=>?_,λb o e n f=>?_,λb o e f=>?_,λb xs e=>tups b xs (I.base.tups b xs e),λb o xs e=>fk b o xs (I.base.fk b o xs e),λb ps e=>?_⟩,?_,λx c e=>?_,?_,λx c e=>?_,λp P=>?_,F,I.len⟩
 .exact keep b o (G b o e) A (t b o e f) (I.base.keep b o e n A f) (I.base.free b o e n f)
 .obtain⟨M,g⟩:=I.base.slot b o e n A f
  obtain⟨N,B⟩:=slot b _ (G b o e) A (t b o e f) g (I.base.free b o e n f);exact⟨N,B⟩
 .obtain⟨E,g⟩:=I.base.there b o e f
  exact free b E (t b o e f) g (I.base.free b o e n f)
 .obtain⟨E,g⟩:=I.base.there b o e f
  exact there b E (t b o e f) g
 .obtain⟨m1,g⟩:=I.base.hG b ps e
  obtain⟨m2,B⟩:=hG b _ g;exact⟨m1++m2,by rw[B,Array.append_assoc]⟩
 .obtain⟨m,C,T⟩:=I.loc
  refine⟨m,ns m C,λi x v g B U=>?_⟩
  obtain⟨u,r,l⟩:=T i x v g B U;refine⟨u,r,?_⟩;rcases l with l|⟨k,c,e,z⟩
  .exact .inl l
  .exact .inr ⟨k,c,e,j x c e _ z⟩
 .obtain⟨v,z⟩:=I.cell x c e
  exact⟨v,j x c e v z⟩
 .obtain⟨m,⟨o,_,_,y,_⟩,_⟩:=I.loc
  exact free _ o (λz=>(h _ z).2.1 rfl) y I.free
 .obtain⟨v,o,y,J⟩:=I.cell x c e
  have a:c∉ch:=λz=>(h c z).2.2.1 x c e rfl
  refine⟨?_,λV=>free c o a y ((I.cJ x c e).2 V)⟩
  rcases(I.cJ x c e).1 with C|⟨D,K,L⟩
  .exact .inl (free c o a y C)
  .exact .inr ⟨D,K,fk c D K L⟩
 .obtain⟨e,n,Q,R,d⟩:=I.pin p P
  have a:p.1∉ch:=λz=>(h p.1 z).2.2.2 p P rfl
  exact⟨keep p.1 p.2 Q R a e n,free p.1 p.2 a e n,Q,R,d⟩
theorem Inv.un{t':Nat}(I:Inv X pins σ H s)(u:Un X.fs [] H H' s.heap h')(c:fO X.prog X.w H' h'):Inv X pins σ H' {s with heap:=h',toks:=t' }:=by
 obtain⟨m,⟨o,l,p,h,r⟩,_⟩:=id I.loc;obtain⟨q,i⟩:=u.any h I.free (by simp)
 exact I.step (g':=s.gens) (d':=s.drawn) (ch:=[]) (λ_ z=>nomatch z) (λb o _ d _ e n=>u.keep b o e n d (by simp)) (λb o _ d _ e n=>u.slot b o e n d (by simp)) (λb o _ e n=>u.free b o e n (by simp)) (λb o _ e=>u.there b o e (by simp)) u.tups u.fk u.hG (λt j=>by
  obtain⟨x,f,g,a,k⟩:=j;rw[h]at a;cases a
  exact⟨_,f,g,i,k⟩) c I.bare
theorem Inv.call{g':Array GenState}{t':Nat}{d':Drawn}{ch:List Addr}(I:Inv X pins σ H s)(u:Un (frs X.stack) ch H H' s.heap h')(g:fO X.prog X.w H' h')(l:AllBare g')
  (d:∀b∈ch,(b∈X.ex\/X.s₀.heap.objs.size<=b)/\b≠X.env.locals/\(∀x c,X.env.cells.lookup x=some c->c≠b)/\∀p∈X.pn++pins,p.1≠b) :
  Inv X pins σ H' {s with heap:=h',gens:=g',drawn:=d',toks:=t' }:=by
 obtain⟨m,⟨o,A,B,k,r⟩,_⟩:=id I.loc;obtain⟨C,h⟩:=u.any k I.free λz=>(d _ z).2.1 rfl
 exact I.step (ch:=ch) d (λb o h q a e n=>u.keep b o e n (λz=>(List.mem_cons.mp (I.ky b z)).elim h q) a) (λb o _ _ a e n=>u.any e n a) (λb o a e n=>u.free b o e n a) (λb o a e=>u.there b o e a) u.tups u.fk u.hG (λD t=>by
  obtain⟨E,i,j,f,y⟩:=t;rw[k]at f;cases f
  exact⟨_,i,j,h,y⟩) g l
theorem Inv.turned{t':Nat}{it:Addr}(I:Inv X pins σ H s)(k:∀b o,b≠it->s.heap.get? b=some o->h'.get? b=some o)(g:H it=none)(f:it≠X.env.locals)
  (h:it∈X.ex\/X.s₀.heap.objs.size<=it) (i:∀x c,X.env.cells.lookup x=some c->c≠it) (j:∀p∈X.pn++pins,p.1≠it):Inv X pins σ H {s with heap:=h',toks:=t' }:=by
 have d:∀b u,H b=some u->b≠it:=λb u e z=>by rw[z,g]at e;cases e
 refine I.step (g':=s.gens) (d':=s.drawn) (ch:=[it]) (λb l=>?_) (λb o _ _ a e _=>k b o (λz=>a (by simp[z])) e) (λb o _ _ a e _=>⟨o.slots,k b o (λz=>a (by simp[z])) e⟩) (λ_ _ _ _ n=>n)
  (λb o a e=>⟨o,k b o (λz=>a (by simp[z])) e⟩) (λ_ _ e=>e) (λ_ _ _ e=>e) (λb B e=>⟨#[],by rw[e];simp⟩) (λm t=>?_) (λb u e=>?_) I.bare
 .have e:b=it:=by simpa using l
  subst e;exact⟨h,f,i,j⟩
 .obtain⟨o,w,y,A,r⟩:=t
  exact⟨o,w,y,k _ o (Ne.symm f) A,r⟩
 .refine(I.hok b u e).stay (λc v a q=>k c v ?_ q) (λ_ q=>q) λ_ _ q=>q
  rcases a with z|z
  .rw[z];exact d b u e
  .exact d c _ z
theorem Inv.tok(I:Inv X pins σ H s)(t:Nat):Inv X pins σ H {s with toks:=t}:=I.un (h':=s.heap) (t':=t) Un.refl I.hok
theorem Inv.kept{t':Nat}(I:Inv X pins σ H s)(k:∀b u,s.heap.get? b=some u->h'.get? b=some u):Inv X pins σ H {s with heap:=h',toks:=t' }:=I.un (Un.kept k) (I.hok.kept k)
theorem Inv.laid{a:Addr}{o:HO}{t':Nat}(I:Inv X pins σ H s)(k:∀b u,s.heap.get? b=some u->h'.get? b=some u)(c:s.heap.objs.size<=a)(d:bA X.prog X.w (upd H a o) h' a o) :
  Inv X pins σ (upd H a o) {s with heap:=h',toks:=t' }:=I.un (Un.laid k c (I.hok.fresh c)) (I.hok.laid k c d)
theorem Inv.write{x e:Addr}{o:HO}{t':Nat}(I:Inv X pins σ H s)(d:zC (H x))(f:e=x\/H e=some (.own x))(k:∀b u,b≠e->s.heap.get? b=some u->h'.get? b=some u)(a:∃u,h'.get? e=some u)
  (c:bA X.prog X.w (upd H x o) h' x o):Inv X pins σ (upd H x o) {s with heap:=h',toks:=t' }:=I.un (Un.write d f k a) (I.hok.write d f k a c)
theorem Inv.weak{a:List (Option V)}(I:Inv X pins σ H s)(c:a.length=σ.length)(w:∀(i:Nat) v,a[i]?=some (some v)->σ[i]?=some (some v)):Inv X pins a H s:=
 ⟨I.ok,I.os,I.bare,I.base,let ⟨m,d,b⟩:=I.loc;⟨m,d,λi x v e f g=>b i x v e (w i v f) g⟩,I.cell,I.free,I.cJ,I.pin,I.hok,c.trans I.len⟩
theorem Inv.lB{a:List (Addr×Obj)}(I:Inv X pins σ H s)(h:∀p∈a,s.heap.get? p.1=some p.2/\H p.1=none/\p.1≠X.env.locals/\p.1∉X.fs/\∀v,p.2.data≠.cell v):Inv X a σ H s:=
 ⟨I.ok,I.os,I.bare,I.base,I.loc,I.cell,I.free,I.cJ,λp b=>(List.mem_append.mp b).elim (λz=>I.pin p (List.mem_append_left _ z)) (h p),I.hok,I.len⟩
theorem jE{N:List Str}(c:N.Nodup){i j:Nat}{x:Str}(a:N[i]?=some x)(b:N[j]?=some x):i=j:=by
 obtain⟨f,d⟩:=List.getElem?_eq_some_iff.mp a;obtain⟨g,e⟩:=List.getElem?_eq_some_iff.mp b;exact(List.getElem_inj c).mp (d.trans e.symm)
theorem hZ{M:Model}{A:Around}{E:Value->Shared->Prop}{i:Nat}{x:Str}{v:V}{u:Value}{Q:Unit->Shared->Prop}(I:Inv X pins σ H s)(hN:X.N.Nodup)(O:X.N[i]?=some x)(t:Loc X.env.scope x)(r:RelV v u)
  (h:∀s',Inv X pins (σ.set i (some v)) H s'->(∃a,Heap.SameBut a s.heap s'.heap/\(a=X.env.locals\/X.env.cells.lookup x=some a))->Q () s') (hf:X.fn x=true\/X.env.scope.names.lookup x=some .local:=by first|exact .inl rfl|exact .inr rfl|assumption):wpAny M A (storeName X.env x u) Q E s:=by
 obtain⟨m,hn,hl⟩:=id I.loc;have P:(X.env.scope.kind==.class||(X.env.scope.kind==.module&&X.env.locals != X.env.globals))=false:=by rw[I.ok.kind];rfl
 have F:i<σ.length:=by rw[I.len];exact(List.getElem?_eq_some_iff.mp O).1
 have G:=I.AX
 have g:∀{a:Addr}{L:Heap},(∃o,s.heap.get? a=some o/\H a=none)->Heap.SameBut a s.heap L->fO X.prog X.w H L:=λ{a L} ha f b ob e=>by
  obtain⟨_,_,B⟩:=ha;refine(I.hok b ob e).stay (λc Y hc q=>(f.2 c ?_).trans q) (λ_ q=>q) λ_ _ q=>q
  rintro rfl;rcases hc with rfl|hc
  .rw[B]at e;cases e
  .rw[B]at hc;cases hc
 rcases t with hk|hk
 .refine wpAny_storeName_local hk hn (λL a0 f=>?_) P
  obtain⟨oL,_,_,b0,_⟩:=id hn;refine h _ ⟨I.ok,I.os,I.bare,⟨λb o e n J t=>?_,λb o e n J t=>?_,I.base.free,λb o e t=>?_,I.base.tups,I.base.fk,I.base.hG⟩,⟨_,a0,λj y v' l C e3=>?_⟩,λy c e=>?_,I.free,I.cJ,λp hp=>?_,g ⟨oL,b0,I.free⟩ f,by simpa using I.len⟩ ⟨_,f,.inl rfl⟩
  .exact(f.2 b (Nat.ne_of_lt (Nat.lt_of_lt_of_le (Heap.lt_size e) I.ok.above))).trans (I.base.keep b o e n J t)
  .obtain⟨sl,l⟩:=I.base.slot b o e n J t
   exact⟨sl,(f.2 b (Nat.ne_of_lt (Nat.lt_of_lt_of_le (Heap.lt_size e) I.ok.above))).trans l⟩
  .obtain⟨o',l⟩:=I.base.there b o e t
   exact⟨o',(f.2 b (Nat.ne_of_lt (Nat.lt_of_lt_of_le (Heap.lt_size e) I.ok.above))).trans l⟩
  .by_cases K:j=i
   .subst K
    rw[O]at l;cases l
    rw[List.getElem?_set_self F]at C;cases C;exact⟨u,r,.inl ⟨hk,by simp⟩⟩
   .rw[List.getElem?_set_ne (Ne.symm K)]at C
    obtain⟨u',r',q⟩:=hl j y v' l C e3;refine⟨u',r',?_⟩;rcases q with ⟨k,e⟩|⟨k,c,e,z⟩
    .refine .inl ⟨k,?_⟩
     have:y≠x:=λe=>K (jE hN l (e▸O))
     simp[this,e]
    .exact .inr ⟨k,c,e,z.sameBut f (G y c e)⟩
  .obtain⟨Y,z⟩:=I.cell y c e
   exact⟨Y,z.sameBut f (G y c e)⟩
  .obtain⟨e,n,Z,nf,d⟩:=I.pin p hp
   exact⟨(f.2 p.1 Z).trans e,n,Z,nf,d⟩
 .have D:X.fn x=true:=by
   rcases hf with z|z
   .exact z
   .rw[z]at hk;cases hk
  obtain⟨c,hc⟩:=I.ok.has x (.inl hk);obtain⟨Y,z⟩:=I.cell x c hc;refine wpAny_storeName_cell I.ok.kind hk hc z (λL R f=>?_)
  obtain⟨oc,S,T⟩:=id z;refine h {s with heap:=L} ⟨I.ok,I.os,I.bare,⟨λb o e n J t=>?_,λb o e n J t=>?_,I.base.free,λb o e t=>?_,I.base.tups,I.base.fk,I.base.hG⟩,⟨m,hn.sameBut f (Ne.symm (G x c hc)),λj y v' l C e3=>?_⟩,λy c' e=>?_,I.free,I.cJ,λp hp=>?_,g ⟨oc,S,(I.cJ x c hc).2 D⟩ f,by simpa using I.len⟩ ⟨c,f,.inr hc⟩
  .exact(f.2 b (Nat.ne_of_lt (Nat.lt_of_lt_of_le (Heap.lt_size e) (I.ok.cab x c D hc)))).trans (I.base.keep b o e n J t)
  .obtain⟨sl,l⟩:=I.base.slot b o e n J t
   exact⟨sl,(f.2 b (Nat.ne_of_lt (Nat.lt_of_lt_of_le (Heap.lt_size e) (I.ok.cab x c D hc)))).trans l⟩
  .obtain⟨o',l⟩:=I.base.there b o e t
   exact⟨o',(f.2 b (Nat.ne_of_lt (Nat.lt_of_lt_of_le (Heap.lt_size e) (I.ok.cab x c D hc)))).trans l⟩
  .by_cases K:j=i
   .subst K
    rw[O]at l;cases l
    rw[List.getElem?_set_self F]at C;cases C;exact⟨u,r,.inr ⟨.inl hk,c,hc,R⟩⟩
   .rw[List.getElem?_set_ne (Ne.symm K)]at C
    obtain⟨u',r',q⟩:=hl j y v' l C e3;refine⟨u',r',?_⟩;rcases q with q|⟨k,c',e,z'⟩
    .exact .inl q
    .refine .inr ⟨k,c',e,z'.sameBut f ?_⟩
     rintro rfl;exact K (jE hN l (I.ok.inj _ _ _ e hc▸O))
  .by_cases U:c'=c
   .subst U;exact⟨_,R⟩
   .obtain⟨w2,z2⟩:=I.cell y c' e
    exact⟨w2,z2.sameBut f U⟩
  .obtain⟨e,n,Z,nf,d⟩:=I.pin p hp
   refine⟨(f.2 p.1 ?_).trans e,n,Z,nf,d⟩;intro q;rw[q,S]at e;have q':oc=p.2:=Option.some.inj e;exact d Y (by rw[←q'];exact T)
theorem jF{M:Model}{A:Around}{E:Value->Shared->Prop}{i:Nat}{x:Str}{v:V}{u:Value}{Q:Unit->Shared->Prop}(I:Inv X pins σ H s)(b:X.N.Nodup)(c:X.N[i]?=some x)(d:Loc X.env.scope x)(r:RelV v u)
  (h:∀a,Inv X pins (σ.set i (some v)) H a->Q () a) (e:X.fn x=true\/X.env.scope.names.lookup x=some .local:=by first|exact .inl rfl|exact .inr rfl|assumption):wpAny M A (storeName X.env x u) Q E s:=
 hZ I b c d r (λa f _=>h a f) e
theorem Inv.call'{a:Shared}{ch:List Addr}(I:Inv X pins σ H s)(g:a.os=s.os)(u:Un (frs X.stack) ch H H' s.heap a.heap)(d:fO X.prog X.w H' a.heap)(h:AllBare a.gens)
  (f:∀b∈ch,(b∈X.ex\/X.s₀.heap.objs.size<=b)/\b≠X.env.locals/\(∀x c,X.env.cells.lookup x=some c->c≠b)/\∀p∈X.pn++pins,p.1≠b):Inv X pins σ H' a:=by
 obtain⟨j,g',d',t',i⟩:=a;have e:i=s.os:=g;subst e;exact I.call (g':=g') (t':=t') (d':=d') u d h f
end
abbrev XK:=Value->Option Addr->Hp->Prop
abbrev St:=List (Option V)
abbrev VK:=V->Hp->Prop
abbrev TE:=St->Hp->VK->Prop
abbrev TT:=St->Hp->(Bool->Hp->Prop)->Prop
abbrev TA:=St->Hp->(List V->Hp->Prop)->Prop
structure Ends where
 nx:St->Hp->Prop
 rt:VK
 bk:St->Hp->Prop:=λ_ _=>False
 ct:St->Hp->Prop:=λ_ _=>False
abbrev TS:=Ends->St->Hp->Prop
def EP(X:Cx)(pins:List (Addr×Obj))(b:St)(Q:VK)(u:Value)(c:Shared):Prop:=∃v a,Inv X pins b a c/\RelV v u/\Q v a
def TP(X:Cx)(pins:List (Addr×Obj))(c:St)(Q:Bool->Hp->Prop)(b:Bool)(d:Shared):Prop:=∃a,Inv X pins c a d/\Q b a
def AP(X:Cx)(pins:List (Addr×Obj))(c:St)(Q:List V->Hp->Prop)(us:List Value)(d:Shared):Prop:=∃a b,Inv X pins c b d/\Vals a us/\Q a b
def SP(X:Cx)(pins:List (Addr×Obj))(D:Ends)(f:Flow)(c:Shared):Prop:=
 match f with
 |.next=>∃a b,Inv X pins a b c/\D.nx a b
 |.brk=>∃a b,Inv X pins a b c/\D.bk a b
 |.cont=>∃a b,Inv X pins a b c/\D.ct a b
 |.ret u=>∃v a b,Inv X pins a b c/\RelV v u/\D.rt v b
def PE(X:Cx)(e:Expr)(t:TE):Prop:=
 ∀(pins:List (Addr×Obj)) (s:Shared) (a:St) (H:Hp) (Q:VK),Inv X pins a H s->t a H Q->wpAny (model X.prog X.w) X.A (eval e X.env) (EP X pins a Q) X.xe s
def PT(X:Cx)(e:Expr)(t:TT):Prop:=
 ∀(pins:List (Addr×Obj)) (s:Shared) (a:St) (H:Hp) (Q:Bool->Hp->Prop),Inv X pins a H s->t a H Q->wpAny (model X.prog X.w) X.A (isTrue e X.env (eval e X.env)) (TP X pins a Q) X.xe s
def PW(X:Cx)(e:Expr)(t:TT):Prop:=
 ∀(a:Sem Value) (pins:List (Addr×Obj)) (s:Shared) (b:St) (H:Hp) (Q:Bool->Hp->Prop),Inv X pins b H s->t b H Q->wpAny (model X.prog X.w) X.A (isTrue e X.env a) (TP X pins b Q) X.xe s
theorem PW.pt{X:Cx}{e:Expr}{t:TT}(h:PW X e t):PT X e t:=h _
def PA(X:Cx)(es:List Expr)(t:TA):Prop:=
 ∀(a:Pos) (pins:List (Addr×Obj)) (s:Shared) (b:St) (H:Hp) (Q:List V->Hp->Prop),Inv X pins b H s->t b H Q->wpAny (model X.prog X.w) X.A (spliced (backTo a (starEach es X.env))) (AP X pins b Q) X.xe s
def PS(X:Cx)(st:Stmt)(t:TS):Prop:=
 ∀(pins:List (Addr×Obj)) (s:Shared) (a:St) (H:Hp) (D:Ends),Inv X pins a H s->t D a H->wpAny (model X.prog X.w) X.A (exec st X.env) (SP X pins D) X.xe s
def fT(X:Cx)(st:List Stmt)(t:TS):Prop:=
 ∀(pins:List (Addr×Obj)) (s:Shared) (a:St) (H:Hp) (D:Ends),Inv X pins a H s->t D a H->wpAny (model X.prog X.w) X.A (execs st X.env) (SP X pins D) X.xe s
theorem bz{b:Type}{t:Sem b}{Q Q':b->Shared->Prop}{M:Model}{A:Around}{E:Value->Shared->Prop}{s:Shared}(h:wpAny M A t Q E s)(c:∀a s,Q a s->Q' a s):wpAny M A t Q' E s:=wpAny_mono h c λ_ _ x=>x
section
variable{X:Cx}
noncomputable def AY(i:Nat):TE:=λa H Q=>∃v,a[i]?=some (some v)/\Q v H
noncomputable def tC(v:V):TE:=λ_ H Q=>Q v H
theorem gg{i:Nat}{x:Str}{pos:Pos}(j:X.N[i]?=some x)(k:qC X.env.scope x)(d:(x==("__debug__":Str))=false:=by decide)(f:(x==("__classdict__":Str))=false:=by decide):PE X (.Name x pos) (AY i):=by
 intro pins s n H Q I h;obtain⟨v,e,h⟩:=h;obtain⟨m,o,p⟩:=I.loc;obtain⟨u,r,l⟩:=p i x v j e k;have b:EP X pins n Q u s:=⟨v,H,I,r,h⟩;rcases l with ⟨hk,q⟩|⟨hk,c,g,a⟩
 .exact wpAny_Name (wpAny_loadName_local I.ok.kind hk o q b) d
 .rcases hk with hk|hk
  .exact wpAny_Name (wpAny_loadName_cell I.ok.kind hk g a b) d
  .exact wpAny_Name (wpAny_loadName_free I.ok.kind hk g a b f) d
theorem uT{i j pos}:PE X (.Constant (.int i) j pos) (tC (.int i)):=λ_ _ _ H _ I h=>wpAny_Constant_int ⟨.int i,H,I.tok _,⟨_,rfl⟩,h⟩
theorem w6{b j pos}:PE X (.Constant (.bool b) j pos) (tC (.bl b)):=λ_ _ _ H _ I h=>Constant_bool ⟨.bl b,H,I,rfl,h⟩
theorem uU{j pos}:PE X (.Constant .none j pos) (tC .non):=λ_ _ _ H _ I h=>Constant_none ⟨.non,H,I,rfl,h⟩
theorem uV{x j pos}:PE X (.Constant (.str x) j pos) (tC (.str x)):=λ_ _ _ H _ I h=>Calls.Constant_str ⟨.str x,H,I.tok _,⟨_,rfl⟩,h⟩
def Gl(X:Cx)(x:Str):Prop:=X.env.kindOf x=some .globalImplicit
theorem dq{E:Value->Shared->Prop}{pins:List (Addr×Obj)}{s:Shared}{a:St}{H:Hp}{x:Str}{u:Value}{pos:Pos}{Q:Value->Shared->Prop}(I:Inv X pins a H s)(b:Gl X x)(c:X.mg x=some u)(h:Q u s)
  (d:(x==("__debug__":Str))=false:=by decide):wpAny (model X.prog X.w) X.A (eval (.Name x pos) X.env) Q E s:=
 Calls.Name_function_global I.ok.kind b (Calls.loadGlobal_global (by rw[I.ok.glob];exact I.mod.glob.keeps I.bk) c h) d
theorem eu{E:Value->Shared->Prop}{pins:List (Addr×Obj)}{s:Shared}{a:St}{H:Hp}{x:Str}{u:Value}{pos:Pos}{Q:Value->Shared->Prop}(I:Inv X pins a H s)(b:Gl X x)(c:X.mg x=none)(d:bootBuiltins x=some u)(h:Q u s)
  (e:x≠"__name__":=by decide) (f:(x==("__debug__":Str))=false:=by decide):wpAny (model X.prog X.w) X.A (eval (.Name x pos) X.env) Q E s:=by
 obtain⟨j,g,i⟩:=I.mod.blt;exact Calls.Name_function_global I.ok.kind b (Calls.loadGlobal_builtin (by rw[I.ok.glob];exact I.mod.glob.keeps I.bk) c (by rw[I.ok.blt];exact g.keeps I.bk) ((i x e).trans d) h) f
theorem qJ{x:Str}{v:V}{u:Value}{pos:Pos}(a:Gl X x)(b:X.mg x=some u)(r:RelV v u)(c:(x==("__debug__":Str))=false:=by decide):PE X (.Name x pos) (tC v):=
 λ_ _ _ H _ I h=>dq I a b ⟨v,H,I,r,h⟩ c
theorem qK{x:Str}{v:V}{u:Value}{pos:Pos}(a:Gl X x)(b:X.mg x=none)(c:bootBuiltins x=some u)(r:RelV v u)(d:x≠"__name__":=by decide)(e:(x==("__debug__":Str))=false:=by decide):PE X (.Name x pos) (tC v):=
 λ_ _ _ H _ I h=>eu I a b c ⟨v,H,I,r,h⟩ d e
variable{a b:Expr}{ta tb:TE}{pos:Pos}
variable{tA zF:TT}{rest:List Expr}
noncomputable def AZ(t u:TT):TT:=λa H Q=>t a H λc b=>if c=true then u a b Q else Q false b
noncomputable def Dr(t u:TT):TT:=λa H Q=>t a H λc b=>if c=true then Q true b else u a b Q
noncomputable def A1(t:TT):TT:=λa H Q=>t a H λc b=>Q (!c) b
theorem pw_and1(b:PT X a tA):PW X (.BoolOp .And [a] pos) tA:=by
 intro f pins s d H Q I h;refine isTrue_and (bz (b pins s d H Q I h) λc g e=>?_)
 cases c with
 |true=>exact isTrue_and_nil e
 |false=>exact e
theorem pw_or1(b:PT X a tA):PW X (.BoolOp .Or [a] pos) tA:=by
 intro f pins s d H Q I h;refine isTrue_or (bz (b pins s d H Q I h) λc g e=>?_)
 cases c with
 |false=>exact isTrue_or_nil e
 |true=>exact e
theorem pw_and(f:PT X a tA)(g:PW X (.BoolOp .And (b::rest) pos) zF):PW X (.BoolOp .And (a::b::rest) pos) (AZ tA zF):=by
 intro i pins s d H Q I h;refine isTrue_and (bz (f pins s d H _ I h) λc j ⟨e,I1,q1⟩=>?_)
 cases c with
 |true=>exact g i pins j d e Q I1 q1
 |false=>exact⟨e,I1,q1⟩
theorem pw_or(f:PT X a tA)(g:PW X (.BoolOp .Or (b::rest) pos) zF):PW X (.BoolOp .Or (a::b::rest) pos) (Dr tA zF):=by
 intro i pins s d H Q I h;refine isTrue_or (bz (f pins s d H _ I h) λc j ⟨e,I1,q1⟩=>?_)
 cases c with
 |true=>exact⟨e,I1,q1⟩
 |false=>exact g i pins j d e Q I1 q1
theorem uW(b:PT X a tA):PT X (.UnaryOp .Not a pos) (A1 tA):=by
 intro pins s d H Q I h;exact isTrue_not (b pins s d H (λc e=>Q (!c) e) I h)
theorem uX{op}{t:TE}(h:PE X a t):PE X (.BoolOp op [a] pos) t:=λpins s b H Q I c=>BoolOp_one (h pins s b H Q I c)
noncomputable def wL(t:TT)(d tb:TE):TE:=λa H Q=>t a H λc b=>if c=true then d a b Q else tb a b Q
theorem nU{c:Expr}(i:PT X c tA)(j:PE X a ta)(k:PE X b tb):PE X (.IfExp c a b pos) (wL tA ta tb):=by
 intro pins s e H Q I h;refine wpAny_IfExp (bz (i pins s e H _ I h) λd f ⟨g,I1,q1⟩=>?_)
 cases d with
 |true=>exact j pins f e g Q I1 q1
 |false=>exact k pins f e g Q I1 q1
end
def fU(K:PySem.W.Frag)(H:Hp)(a:Addr)(xs:List V):Prop:=
 Rd H a (.lst xs) \/
  ∃(o:Obj) (b:Array Value) (n:Nat),K.lookup a=some o/\o.cls=.type "list"/\o.dict=none/\o.data=.seq b n/\b.size<=sizeLine/\Vals xs b.toList
def dC(K:PySem.W.Frag)(H:Hp)(a:Addr)(xs:List V):Prop:=
 Rd H a (.tup xs) \/
  ∃(o:Obj) (b:Array Value) (n:Nat),K.lookup a=some o/\o.cls=.type "tuple"/\o.data=.seq b n/\b.size<=sizeLine/\Vals xs b.toList
noncomputable def A3:Value->Option V
 |.none=>some .non
 |.bool b=>some (.bl b)
 |.int i _=>some (.int i)
 |.str x _=>some (.str x)
 |.bytes b _=>some (.wK b)
 |.float b _=>some (.flt b)
 |.ref a=>some (.ref a)
 |.type n=>some (.ty n)
 |_=>none
theorem RelV.abs{x:V}{u:Value}(r:RelV x u):A3 u=some x:=by
 cases x with
 |non=>cases r;rfl
 |bl _=>cases r;rfl
 |int _=>obtain⟨t,rfl⟩:=r;rfl
 |str _=>obtain⟨t,rfl⟩:=r;rfl
 |wK _=>obtain⟨t,rfl⟩:=r;rfl
 |flt _=>obtain⟨t,rfl⟩:=r;rfl
 |ref _=>cases r;rfl
 |ty _=>cases r;rfl
theorem RelV.inj{x y:V}{u:Value}(r:RelV x u)(q:RelV y u):x=y:=Option.some.inj (r.abs.symm.trans q.abs)
theorem Vals.inj:∀{xs a:List V}{us:List Value},Vals xs us->Vals a us->xs=a
 |_,_,_,.nil,.nil=>rfl
 |_,_,_,.cons r t,.cons b c=>by rw[r.inj b,Vals.inj t c]
section
variable{X:Cx}{pins:List (Addr×Obj)}{σ:St}{H:Hp}{s:Shared}{a:Addr}{xs ys:List V}
theorem dC.of{K:PySem.W.Frag}(h:H a=some (.tup xs)):dC K H a xs:=.inl (.inl h)
theorem Inv.list(I:Inv X pins σ H s)(h:fU X.K H a xs):∃b:List Value,Vals xs b/\PlainL s.heap a b.toArray/\xs.length<=sizeLine:=by
 rcases h with h|⟨o,b,n,c,d,f,g,i,r⟩
 .obtain⟨z,b,n,r,e⟩:=h.ok I.hok
  exact⟨b,r,⟨_,n,e,rfl,rfl,rfl⟩,z⟩
 .refine⟨b.toList,r,⟨o,n,I.dB a o c,d,f,by simpa using g⟩,?_⟩
  have e:=r.length;simp only[Array.length_toList]at e;omega
theorem Inv.tuple(I:Inv X pins σ H s)(h:dC X.K H a xs):∃b:List Value,Vals xs b/\IsTup s.heap a b.toArray/\xs.length<=sizeLine:=by
 rcases h with h|⟨o,b,n,c,d,f,g,r⟩
 .obtain⟨z,b,r,p⟩:=h.ok I.hok
  exact⟨b,r,p,z⟩
 .refine⟨b.toList,r,⟨o,I.dB a o c,d,n,by simpa using f⟩,?_⟩
  have e:=r.length;simp only[Array.length_toList]at e;omega
theorem Inv.jG(I:Inv X pins σ H s)(h:fU X.K H a xs)(h':fU X.K H a ys):xs=ys:=by
 obtain⟨c,r,⟨o,n,e,_,_,d⟩,_⟩:=I.list h;obtain⟨b,i,⟨j,k,f,_,_,g⟩,_⟩:=I.list h';rw[e]at f;cases f
 rw[d]at g;injection g with d1 _;have:c=b:=by simpa using congrArg Array.toList d1
 subst this;exact r.inj i
theorem Inv.h7(I:Inv X pins σ H s)(h:dC X.K H a xs)(h':dC X.K H a ys):xs=ys:=by
 obtain⟨c,r,⟨o,e,_,n,d⟩,_⟩:=I.tuple h;obtain⟨b,i,⟨j,f,_,k,g⟩,_⟩:=I.tuple h';rw[e]at f;cases f
 rw[d]at g;injection g with d1 _;have:c=b:=by simpa using congrArg Array.toList d1
 subst this;exact r.inj i
end
abbrev Cx.wish(X:Cx)(E:Value->Shared->Prop):Cx:={X with xe:=E}
abbrev Cx.h8(X:Cx):Cx:=X.wish λ_ _=>False
theorem Cx.Ok.wish{X:Cx}(ok:X.Ok)(E:Value->Shared->Prop):(X.wish E).Ok:=
 ⟨ok.mod,ok.kind,ok.glob,ok.blt,ok.above,ok.inj,ok.has,ok.cab,ok.hd,ok.frames,ok.w4,ok.zE,ok.bs,ok.qD,ok.nS,ok.nT,ok.fm,ok.ug⟩
theorem Cx.Ok.dI{X:Cx}{E:Value->Shared->Prop}(ok:(X.wish E).Ok):X.Ok:=
 ⟨ok.mod,ok.kind,ok.glob,ok.blt,ok.above,ok.inj,ok.has,ok.cab,ok.hd,ok.frames,ok.w4,ok.zE,ok.bs,ok.qD,ok.nS,ok.nT,ok.fm,ok.ug⟩
section
variable{X:Cx}{pins:List (Addr×Obj)}{σ:St}{H:Hp}{s:Shared}{E:Value->Shared->Prop}
theorem Inv.wish(I:Inv X pins σ H s)(E:Value->Shared->Prop):Inv (X.wish E) pins σ H s:=⟨I.ok.wish E,I.os,I.bare,I.base,I.loc,I.cell,I.free,I.cJ,I.pin,I.hok,I.len⟩
theorem Inv.dI(I:Inv (X.wish E) pins σ H s):Inv X pins σ H s:=⟨I.ok.dI,I.os,I.bare,I.base,I.loc,I.cell,I.free,I.cJ,I.pin,I.hok,I.len⟩
theorem SP.dI{D:Ends}{f:Flow}{c:Shared}(h:SP (X.wish E) pins D f c):SP X pins D f c:=by
 cases f with
 |next=>obtain⟨a,b,I,q⟩:=h;exact⟨a,b,I.dI,q⟩
 |brk=>obtain⟨a,b,I,q⟩:=h;exact⟨a,b,I.dI,q⟩
 |cont=>obtain⟨a,b,I,q⟩:=h;exact⟨a,b,I.dI,q⟩
 |ret u=>obtain⟨v,a,b,I,r,q⟩:=h;exact⟨v,a,b,I.dI,r,q⟩
theorem fT.h8{st:List Stmt}{t:TS}(h:fT X.h8 st t):fT X st t:=λpins s a H D I b=>
 wpAny_mono (h pins s a H D (I.wish _) b) (λ_ _ q=>q.dI) λ_ _ z=>False.elim z
end
section
variable{X:Cx}{st:Stmt}{rest:List Stmt}{t u:TS}{e:Expr}{te:TE}{pos:Pos}
noncomputable def w8:TS:=λD a H=>D.nx a H
noncomputable def A4(t u:TS):TS:=λD a H=>t {D with nx:=u D} a H
theorem qL:fT X [] w8:=λ_ _ a H _ I h=>wpAny_execs_nil ⟨a,H,I,h⟩
theorem nV(b:PS X st t)(c:fT X rest u):fT X (st::rest) (A4 t u):=by
 intro pins s d H D I h;refine wpAny_execs_cons (bz (b pins s d H {D with nx:=u D} I h) λf e q=>?_)
 cases f with
 |next=>
  obtain⟨a,g,i,q⟩:=q;exact c pins e a g D i q
 |ret v=>exact q
 |brk=>exact q
 |cont=>exact q
theorem Inv.quiet{pins:List (Addr×Obj)}{a:St}{H:Hp}{s:Shared}(I:Inv X pins a H s):interactive X.env=false:=by simp[interactive,I.ok.kind]
noncomputable def w9(b:TE):TS:=λD a H=>b a H λ_ c=>D.nx a c
theorem qM(b:PE X e te)(c:swapsWith e none pos.line X.env=pure false:=by rfl):PS X (.Expr e pos) (w9 te):=by
 intro pins s a H D I h;exact wpAny_Expr_any (bz (b pins s a H _ I h) λv d ⟨x,H1,I1,r1,q1⟩=>⟨a,H1,I1,q1⟩) I.quiet c
noncomputable def A5(a:TE):TS:=λD b H=>a b H D.rt
theorem uY(b:PE X e te):PS X (.Return (some e) pos) (A5 te):=by
 intro pins s a H D I h;exact wpAny_Return_some (bz (b pins s a H _ I h) λv c ⟨x,H1,I1,r1,q1⟩=>⟨x,a,H1,I1,r1,q1⟩)
noncomputable def A6(c:TT)(t u:TS):TS:=λD a H=>c a H λb d=>if b=true then t D a d else u D a d
theorem w_{c:Expr}{a b:List Stmt}{f:TT}(j:PT X c f)(k:fT X a t)(l:fT X b u):PS X (.If c a b pos) (A6 f t u):=by
 intro pins s e H D I h;refine wpAny_If (bz (j pins s e H _ I h) λd g ⟨i,I1,q1⟩=>?_)
 cases d with
 |true=>exact k pins g e i D I1 q1
 |false=>exact l pins g e i D I1 q1
end
abbrev TG:=V->St->Hp->(St->Hp->Prop)->Prop
abbrev uh:=List V->St->Hp->(St->Hp->Prop)->Prop
def PG(X:Cx)(a:Expr)(t:TG):Prop:=
 ∀(pins:List (Addr×Obj)) (s:Shared) (c:St) (H:Hp) (v:V) (u:Value) (Q:St->Hp->Prop),Inv X pins c H s->RelV v u->t v c H Q ->
  wpAny (model X.prog X.w) X.A (assign a X.env u) (λ_ e=>∃b d,Inv X pins b d e/\Q b d) X.xe s
def xa(X:Cx)(f:List Expr)(t:uh):Prop:=
 ∀(pins:List (Addr×Obj)) (s:Shared) (b:St) (H:Hp) (c:List V) (d:List Value) (Q:St->Hp->Prop),Inv X pins b H s->Vals c d->t c b H Q ->
  wpAny (model X.prog X.w) X.A (assignInOrder ((assignEach f X.env).map (·.2)) d) (λ_ g=>∃a e,Inv X pins a e g/\Q a e) X.xe s
section
variable{X:Cx}{pos:Pos}
noncomputable def ek(i:Nat):TG:=λv a H Q=>Q (a.set i (some v)) H
theorem iO{i:Nat}{x:Str}(a:X.N.Nodup)(b:X.N[i]?=some x)(c:Loc X.env.scope x)(d:X.fn x=true\/X.env.scope.names.lookup x=some .local:=by first|exact .inl rfl|exact .inr rfl|assumption):PG X (.Name x pos) (ek i):=by
 intro pins s f H v u Q I r h;exact wpAny_assign_Name (jF I a b c r (λg e=>⟨_,H,e,h⟩) d)
noncomputable def xf:uh:=λa b H Q=>a=[]/\Q b H
noncomputable def ui(t:TG)(u:uh):uh:=λb c H Q=>∃v r,b=v::r/\t v c H λa d=>u r a d Q
theorem qN:xa X [] xf:=by
 intro pins s a H b c Q I r h;obtain⟨e,h⟩:=h;subst e;cases r;exact assignInOrder_nil ⟨a,H,I,h⟩
theorem nW{e:Expr}{es:List Expr}{t:TG}{u:uh}(b:PG X e t)(c:xa X es u)
  (d:(assignEach (e::es) X.env).map (·.2)=assign e X.env::(assignEach es X.env).map (·.2):=by rfl):xa X (e::es) (ui t u):=by
 intro pins s f H k l Q I r h;obtain⟨v,vr,g,h⟩:=h;subst g;cases r with
 |cons r i=>
  rw[d];refine assignInOrder_cons (bz (b pins s f H _ _ _ I r h) λ_ j ⟨a,H1,I1,q1⟩=>?_)
  exact c pins j a H1 _ _ Q I1 i q1
noncomputable def qO(K:PySem.W.Frag)(n:Nat)(t:uh):TG:=λv c H Q=>∃a b,v=.ref a/\dC K H a b/\b.length=n/\t b c H Q
theorem uZ{es:List Expr}{k:Nat}{t:uh}{n:Nat}(i:X.calm=true)(h:xa X es t)
  (j:(assignEach es X.env).length=n:=by rfl) (c:(assignEach es X.env).findIdx? (·.1)=none:=by rfl):PG X (.Tuple es k pos) (qO X.K n t):=by
 intro pins s f H v u Q I r d;obtain⟨a,l,m,p,q,d⟩:=d;subst m;cases r;obtain⟨w,g,x,B⟩:=I.tuple p;refine assign_Tuple_tuple (I.ok.hd i) x (by simp[j,←q,g.length]) c λy z=>?_
 have A:Inv X pins f H {s with heap:=y}:=I.kept (t':=s.toks) λb o e=>z b o (Nat.ne_of_lt (Heap.lt_size e)) e
 exact h pins _ f H l _ Q A (by simpa using g) d
noncomputable def u3(b:TE)(g:TG):TS:=λD a H=>b a H λx c=>g x a c D.nx
theorem u4{a e:Expr}{b:TE}{g:TG}(d:PE X e b)(f:PG X a g)(i:swapsWithSole [a] e pos.line X.env=pure false:=by rfl)(j:swappedStores [a] e X.env=pure none:=by rfl)
  (k:(assignEach [a] X.env).map (·.2)=[assign a X.env]:=by rfl):PS X (.Assign [a] e pos) (u3 b g):=by
 intro pins s c H D I h;refine wpAny_Assign_stores (bz (d pins s c H _ I h) λv l ⟨x,H1,I1,r1,q1⟩=>?_) i j
 rw[k];exact bz (f pins l c H1 x v _ I1 r1 q1) λ_ m q=>q
theorem u5{i:Nat}{x:Str}{e:Expr}{b:TE}{a:Pos}(c:X.N.Nodup)(d:X.N[i]?=some x)(f:Loc X.env.scope x)(g:PE X e b)(j:swapsWith e (some (.Name x a)) pos.line X.env=pure false:=by rfl)(k:X.fn x=true\/X.env.scope.names.lookup x=some .local:=by first|exact .inl rfl|exact .inr rfl|assumption) :
  PS X (.Assign [.Name x a] e pos) (u3 b (ek i)):=by
 intro pins s l H D I h;refine wpAny_Assign_Name (bz (g pins s l H _ I h) λv r ⟨y,m,n,o,p⟩=>?_) j
 exact jF n c d f o (λt q=>⟨_,m,q,p⟩) k
end
structure It where
 go:Nat->Hp->Prop
 zG:Nat->Hp->V->Hp->Prop
 stop:Nat->Hp->Prop
def hI(X:Cx)(pins:List (Addr×Obj))(H:Hp)(b:Addr):Prop:=
 H b=none/\b≠X.env.locals/\b∉X.fs/\(b∈X.ex\/X.s₀.heap.objs.size<=b)/\(∀x c,X.env.cells.lookup x=some c->c≠b)/\∀p∈X.pn++pins,p.1≠b
theorem Inv.qP{X:Cx}{pins:List (Addr×Obj)}{f:St}{H d:Hp}{s:Shared}{b:Addr}(I:Inv X pins f H s)(a:s.heap.objs.size<=b)(g:d b=none):hI X pins d b:=by
 refine⟨g,Nat.ne_of_gt (Nat.lt_of_lt_of_le I.lt a),I.AW a,.inr (Nat.le_trans I.sz a),λx c e z=>?_,λp h z=>?_⟩
 .obtain⟨v,q⟩:=I.cell x c e
  exact absurd (Nat.lt_of_lt_of_le q.lt (by rw[z];exact a)) (Nat.lt_irrefl _)
 .exact absurd (Nat.lt_of_lt_of_le (Heap.lt_size (I.pin p h).1) (by rw[z];exact a)) (Nat.lt_irrefl _)
structure Turn(P:Program)(w:World)(K:PySem.W.Frag)(tg:Expr)(J:It)(fp:List Addr)(it:Addr)(tn:Nat->Heap->Prop):Prop where
 mem:it∈fp
 obj:∀i h,tn i h->∀b∈fp,∃o,h.get? b=some o/\∀v,o.data≠.cell v
 keep:∀i h h',tn i h->(∀b∈fp,∀o,h.get? b=some o->h'.get? b=some o)->tn i h'
 item:∀(X:Cx),X.prog=P->X.w=w->X.K=K->X.calm=true->∀(i:Nat) (pins:List (Addr×Obj)) (s:Shared) (σ:St) (H:Hp) (E:Value->Shared->Prop),Inv X pins σ H s->(∀b∈fp,hI X pins H b)->tn i s.heap->J.go i H ->
  wpAny (model P w) X.A (pyNext (.ref it)) (λr s1=>∃u,r=some u /\
   wpAny (model P w) X.A (letOwnedTupleGo tg (.ref it) u) (λ_ s2=>∃x H',Inv X pins σ H' s2/\RelV x u/\J.zG i H x H'/\tn (i+1) s2.heap/\∀b∈fp,H' b=none) E s1) E s
 done:∀(X:Cx),X.prog=P->X.w=w->X.K=K->X.calm=true->∀(i:Nat) (pins:List (Addr×Obj)) (s:Shared) (σ:St) (H:Hp) (E:Value->Shared->Prop),Inv X pins σ H s->(∀b∈fp,hI X pins H b)->tn i s.heap->J.stop i H ->
  wpAny (model P w) X.A (pyNext (.ref it)) (λr s1=>r=none/\Inv X pins σ H s1) E s
 self:∀(A:Around) (i:Nat) (s:Shared) (Q:Value->Shared->Prop) (E:Value->Shared->Prop),tn i s.heap->Q (.ref it) s->wpAny (model P w) A (pyIter (.ref it)) Q E s
abbrev TI:=St->Hp->(It->Hp->Prop)->Prop
def PIE(X:Cx)(pins:List (Addr×Obj))(h:St)(i:Expr)(R:It->Hp->Prop)(a:Value)(d:Shared):Prop:=
 ∃(e:Addr) (f:List Addr) (g:Nat->Heap->Prop) (J:It) (c:Hp),a=.ref e/\Inv X pins h c d/\Turn X.prog X.w X.K i J f e g/\g 0 d.heap/\(∀b∈f,hI X pins c b)/\R J c
def PI(X:Cx)(b iter:Expr)(c:TI):Prop:=
 ∀(pins:List (Addr×Obj)) (s:Shared) (a:St) (H:Hp) (R:It->Hp->Prop),Inv X pins a H s->c a H R ->
  wpAny (model X.prog X.w) X.A (eval iter X.env) (λv d=>wpAny (model X.prog X.w) X.A (pyIter v) (PIE X pins a b R) X.xe d) X.xe s
theorem lD{M:Model}{A:Around}{E:Value->Shared->Prop}{s:Shared}{b:Expr}{it:Addr}{u:Value}{o:Obj}{n:String}{vs:Array Value}{Q:Unit->Shared->Prop}(c:s.heap.get? it=some o)(d:o.cls=.type n)(e:o.data=.fields vs)
    (f:["enumerate","zip","dict_itemiterator","dict_reverseitemiterator","odict_iterator","itertools.zip_longest","itertools.pairwise"].contains n=false) (a:Q () s):wpAny M A (letOwnedTupleGo b (.ref it) u) Q E s:=by
  unfold letOwnedTupleGo
  cases b<;>first
    |exact wpAny_pure a
    | (cases u<;>first
        |exact wpAny_pure a
        | (refine wpAny_bind (wpAny_load c ?_)
           rw[d,e]
           show wpAny M A (if (["enumerate","zip","dict_itemiterator","dict_reverseitemiterator","odict_iterator","itertools.zip_longest","itertools.pairwise"].contains n&&vs[0]?==some (rawInt _))=true then _ else _) Q E s
           rw[if_neg (by intro h;rw[f,Bool.false_and]at h;cases h)]
           exact wpAny_pure a))
noncomputable def A7(K:PySem.W.Frag)(a:Addr):It:=
 ⟨λi H=>∃b x,fU K H a b/\b[i]?=some x,λi H x c=>c=H/\∀b,fU K H a b->b[i]?=some x,λi H=>∃b,fU K H a b/\b.length<=i⟩
noncomputable def A8(K:PySem.W.Frag)(a:Addr):It:=
 ⟨λi H=>∃b x,dC K H a b/\b[i]?=some x,λi H x c=>c=H/\∀b,dC K H a b->b[i]?=some x,λi H=>∃b,dC K H a b/\b.length<=i⟩
noncomputable def xh(a:Int)(n:Nat):It:=⟨λi _=>i<n,λi H x b=>b=H/\x=.int (a+i),λi _=>n<=i⟩
theorem mO{P:Program}{w:World}{K:PySem.W.Frag}{O:Expr}(a it:Addr):Turn P w K O (A7 K a) [it] it (λi h=>h.IsListIter it a i) where
 mem:=by simp
 obj:=λi h f b g=>by
  have e:b=it:=by simpa using g
  subst e;obtain⟨o,e,c,d⟩:=f;exact⟨o,e,λv z=>by rw[d]at z;cases z⟩
 keep:=λi h l f k=>f.at λo e=>k it (by simp) o e
 item:=by
  intro X q r t M i pins s N H E I m f y;subst q r t;obtain⟨Q,x,n,A⟩:=y;obtain⟨B,C,p,R⟩:=I.list n;obtain⟨u,S,T⟩:=C.get A;obtain⟨D,F,U,G,J,L⟩:=m it (by simp)
  refine wpAny_pyNext_list_item f p.isList (x:=u) (by simpa using S) λl j V=>?_
  have Y:Inv X pins N H {s with heap:=l}:=I.turned (t':=s.toks) (λb o g e=>(V.2 b g).trans e) D F G J L
  obtain⟨o,e,c,d⟩:=id j;exact⟨u,rfl,lD (s:={s with heap:=l}) e c d (by decide) ⟨x,H,Y,T,⟨rfl,λys Z=>by rw[I.jG Z n];exact A⟩,j,λb g=>(m b g).1⟩⟩
 done:=by
  intro X q r t M i pins s N H E I m f y;subst q r t;obtain⟨Q,n,A⟩:=y;obtain⟨B,C,p,R⟩:=I.list n;obtain⟨D,F,U,G,J,L⟩:=m it (by simp)
  have hl:=C.length;exact wpAny_pyNext_list_end (I.ok.hd M) f p.isList (by simp;omega) λl eb=>⟨rfl,I.turned (t':=s.toks) (λb o g e=>eb b o g e) D F G J L⟩
 self:=λ_ _ _ _ _ f h=>wpAny_pyIter_listiter f h
theorem kz{P:Program}{w:World}{K:PySem.W.Frag}{O:Expr}(a it:Addr):Turn P w K O (A8 K a) [it] it (λi h=>h.IsTupleIter it a i) where
 mem:=by simp
 obj:=λi h f b g=>by
  have e:b=it:=by simpa using g
  subst e;obtain⟨o,e,c,d⟩:=f;exact⟨o,e,λv z=>by rw[d]at z;cases z⟩
 keep:=λi h m f k=>f.at λo e=>k it (by simp) o e
 item:=by
  intro X r t y M i pins s N H E I n f A;subst r t y;obtain⟨Q,x,q,B⟩:=A;obtain⟨j,C,p,R⟩:=I.tuple q;obtain⟨u,S,T⟩:=C.get B;obtain⟨D,F,U,G,J,L⟩:=n it (by simp)
  refine wpAny_pyNext_tuple_item f (show s.heap.IsTuple a j.toArray from p) (x:=u) (by simpa using S) λm l V=>?_
  have Y:Inv X pins N H {s with heap:=m}:=I.turned (t':=s.toks) (λb o g e=>(V.2 b g).trans e) D F G J L
  obtain⟨o,e,c,d⟩:=id l;exact⟨u,rfl,lD (s:={s with heap:=m}) e c d (by decide) ⟨x,H,Y,T,⟨rfl,λys Z=>by rw[I.h7 Z q];exact B⟩,l,λb g=>(n b g).1⟩⟩
 done:=by
  intro X r t y M i pins s N H E I n f A;subst r t y;obtain⟨Q,q,B⟩:=A;obtain⟨j,C,p,R⟩:=I.tuple q;obtain⟨D,F,U,G,J,L⟩:=n it (by simp)
  have hl:=C.length;exact wpAny_pyNext_tuple_end (I.ok.hd M) f (show s.heap.IsTuple a j.toArray from p) (by simp;omega) λm eb=>⟨rfl,I.turned (t':=s.toks) (λb o g e=>eb b o g e) D F G J L⟩
 self:=λ_ _ _ _ _ f h=>wpAny_pyIter_tupleiter f h
theorem kA{P:Program}{w:World}{K:PySem.W.Frag}{F:Expr}(it:Addr)(f:Int)(n:Nat):Turn P w K F (xh f n) [it] it (λi h=>IsRangeIter h it (f+(i:Nat)*1) ((n:Int) - (i:Nat)) 1) where
 mem:=by simp
 obj:=λi h a b c=>by
  have e:b=it:=by simpa using c
  subst e
  exact⟨_,a,λv z=>by
   have G:Data.fields _=Data.cell v:=z;cases G⟩
 keep:=λi h g a k=>k it (by simp) _ a
 item:=by
  intro X l m p q i pins s C H E I j a r;subst l m p;obtain⟨u,x,J,y,A,B⟩:=j it (by simp)
  have W:=Walks.range (prog:=X.prog) (w:=X.w) (I.ok.hd q) it f 1 n;refine W.item i s _ _ r a λv g D L d M=>?_
  obtain⟨t,rfl⟩:=L;have N:Inv X pins C H {s with heap:=g,toks:=D}:=I.turned (λb o c e=>M b o (by simpa using c) e) u x y A B
  refine⟨_,rfl,lD (s:={s with heap:=g,toks:=D}) (n:="range_iterator") d rfl rfl (by decide) ⟨.int (f+i),H,N,⟨t,?_⟩,⟨rfl,rfl⟩,d,λb c=>(j b c).1⟩⟩
  rw[Int.mul_one]
 done:=by
  intro X l m p q i pins s C H E I j a r;subst l m p;obtain⟨u,x,J,y,A,B⟩:=j it (by simp)
  exact wpAny_pyNext_range_end (I.ok.hd q) a (by have:n<=i:=r;omega) λg O=>⟨rfl,I.turned (t':=s.toks) (λb o c e=>O b o c e) u x y A B⟩
 self:=λ_ _ _ _ _ a h=>wpAny_pyIter_rangeiter a h
section
variable{X:Cx}{tg:Expr}
theorem nX{pins:List (Addr×Obj)}{d:St}{H:Hp}{s:Shared}{R:It->Hp->Prop}{E:Value->Shared->Prop}{a c:Int}{t u v:Tok}{f:Nat}(I:Inv X pins d H s)(h : -(2 ^ 62)<=a)(i:a<2 ^ 62)(j : -(2 ^ 62)<=c)(k:c<2 ^ 62)
  (q:R (xh a (c - a).toNat) H):wpAny (model X.prog X.w) X.A (pyIter (.ref s.heap.objs.size)) (PIE X pins d tg R) E {s with heap:=s.heap.push {cls:=.type "range",data:=.fields #[.int a t,.int c u,.int 1 v]},toks:=f}:=by
 refine wpAny_pyIter_range (IsRange.new ..) (small_one h i j k) ?_;have g:Inv X pins d H {s with heap:=s.heap.push {cls:=.type "range",data:=.fields #[.int a t,.int c u,.int 1 v]},toks:=f}:=I.kept λb o e=>Heap.get?_push_of_some _ e
 refine⟨(s.heap.push {cls:=.type "range",data:=.fields #[.int a t,.int c u,.int 1 v]}).objs.size,[(s.heap.push {cls:=.type "range",data:=.fields #[.int a t,.int c u,.int 1 v]}).objs.size],_,_,H,rfl,
  g.kept (t':=f) λb o e=>Heap.get?_push_of_some _ e,kA _ a (c - a).toNat,?_,λb l=>?_,q⟩
 .have m:a+((0:Nat):Int)*1=a:=by simp
  have n:(((c - a).toNat:Nat):Int) - ((0:Nat):Int)=Builtin.Range.rangeSize a c 1:=by rw[rangeSize_one];split<;>omega
  show IsRangeIter _ _ (a+((0:Nat):Int)*1) ((((c - a).toNat:Nat):Int) - ((0:Nat):Int)) 1
  rw[m,n];exact Heap.get?_push_size _ rfl
 .have e:b=(s.heap.push {cls:=.type "range",data:=.fields #[.int a t,.int c u,.int 1 v]}).objs.size:=by simpa using l
  subst e;exact g.qP (Nat.le_refl _) (g.hok.fresh (Nat.le_refl _))
def xj(a:TA):TI:=λb H R=>a b H λc d=>∃j:Int,c=[.int j] /\ -(2 ^ 62)<=j/\j<2 ^ 62/\R (xh 0 j.toNat) d
theorem mP{a:Expr}{c:TA}{p pos:Pos}(d:Gl X "range")(f:X.mg "range"=none)(g:PA X [a] c)(i:starEach [a] X.env=[(false,eval a X.env)]:=by rfl):PI X tg (.Call (.Name "range" p) [a] [] pos) (xj c):=by
 intro pins s k H R I h;refine Call_ (eu I d f boot_range (PyProof.Rows.callWith_type1 (bz (g pos pins s k H _ I h) λo u ⟨w,H1,I1,l,b⟩=>?_) i rfl))
 obtain⟨j,e,b,m,q⟩:=b;subst e;cases l with
 |cons r n=>
  cases n;obtain⟨t,rfl⟩:=r;exact call_range_1 (nX I1 (by omega) (by omega) b m (by simpa using q))
noncomputable def A9(f:TI)(g:TG)(tb:TS):TS:=λD a H=>f a H λJ h=>∃W:Nat->Nat->St->Hp->Prop,(∃m,W 0 m a h)/\∀i m a H,W i m a H ->
 (J.stop i H/\D.nx a H)\/(J.go i H/\∃N:St->Hp->Prop,(∀b c,N b c->∃e,e<m/\W (i+1) e b c)/\∀x c,J.zG i H x c->g x a c λd j=>tb {D with nx:=N,ct:=N,bk:=D.nx} d j)
noncomputable def gh(a:List Addr)(h:Heap):List (Addr×Obj):=a.filterMap λb=>(h.get? b).map λo=>(b,o)
theorem dr{a:List Addr}{h:Heap}{b:Addr}{o:Obj}(c:b∈a)(e:h.get? b=some o):(b,o)∈gh a h:=List.mem_filterMap.mpr ⟨b,c,by rw[e];rfl⟩
theorem mQ{a:List Addr}{h:Heap}{p:Addr×Obj}(c:p∈gh a h):p.1∈a/\h.get? p.1=some p.2:=by
 obtain⟨b,d,e⟩:=List.mem_filterMap.mp c;cases q:h.get? b with
 |none=>rw[q]at e;cases e
 |some o=>
  rw[q]at e;have f:(b,o)=p:=Option.some.inj e;subst f;exact⟨d,q⟩
theorem Inv.pinned{pins:List (Addr×Obj)}{c:St}{H:Hp}{s:Shared}{a:List Addr}(I:Inv X pins c H s)(h:∀b∈a,hI X pins H b)(i:∀b∈a,∃o,s.heap.get? b=some o/\∀v,o.data≠.cell v):Inv X (pins++gh a s.heap) c H s:=
 I.lB λp j=>(List.mem_append.mp j).elim (λz=>I.pin p (List.mem_append_right _ z)) λz=>by
  obtain⟨f,e⟩:=mQ z;obtain⟨k,l,m,_⟩:=h p.1 f;obtain⟨o,g,d⟩:=i p.1 f;rw[e]at g;cases g
  exact⟨e,k,l,m,d⟩
theorem Inv.eN{pins pl:List (Addr×Obj)}{a:St}{H:Hp}{s:Shared}(I:Inv X (pins++pl) a H s):Inv X pins a H s:=I.lB λp b=>I.pin p (List.mem_append_right _ (List.mem_append_left _ b))
theorem u6{iter:Expr}{body:List Stmt}{R:TI}{g:TG}{tb:TS}{pos:Pos}(z:PassesOwn (model X.prog X.w) X.A X.env X.xe)(S:X.calm=true)(hi:PI X tg iter R)(hg:PG X tg g)(c:fT X body tb)
  (hs:∀x,foldedSetIterable iter X.env x=pure x:=by intro _;rfl):PS X (.For tg iter body [] pos) (A9 R g tb):=by
 intro pins s U H D I h;refine wpAny_For (bz (hi pins s U H _ I h) λv s1 h1=>bz h1 λa0 s2 h2=>?_) hs
 obtain⟨it,B,V,J,H2,e,I2,T,L,Y,W,⟨m0,w0⟩,C⟩:=h2;subst e;have j:∀{t:Hp},(∀b∈B,t b=none)->∀b∈B,hI X pins t b:=λhn b c=>⟨hn b c,(Y b c).2⟩
 refine codeAny_forLoop_any (λn Z=>∃i k t,Inv X pins k t Z/\V i Z.heap/\(∀b∈B,t b=none)/\W i n k t) ?_ m0 ⟨0,U,H2,I2,L,λb c=>(Y b c).1,w0⟩
 rintro n s3 ⟨i,l,K,I3,E,F,w3⟩;rcases C i n l K w3 with ⟨stop,qn⟩|⟨go,N,hN,step⟩
 .refine wpAny_passesOwn z (bz (T.done X rfl rfl rfl S i pins s3 l K X.xe I3 (j F) E stop) λr s4 ⟨M,I4⟩=>?_)
  subst M;exact wpAny_execs_nil ⟨l,K,I4,qn⟩
 .refine wpAny_passesOwn z (bz (T.item X rfl rfl rfl S i pins s3 l K X.xe I3 (j F) E go) λr s4 ⟨u,M,h4⟩=>?_)
  subst M;refine wpAny_passesOwn z (bz h4 λ_ s5 ⟨x,H5,I5,r5,y5,A_,Ds⟩=>?_)
  have O:=I5.pinned (j Ds) (T.obj _ _ A_);refine wpAny_passesOwn z (bz (hg _ s5 l H5 x u _ O r5 (step x H5 y5)) λ_ s6 ⟨P,H6,I6,q6⟩=>?_)
  refine wpAny_passesOwn z (bz (c _ s6 P H6 _ I6 q6) λf Q y=>?_)
  have again:∀{a:St}{p:Hp},Inv X (pins++gh B s5.heap) a p Q->N a p->∃m,m<n/\∃i k t,Inv X pins k t Q/\V i Q.heap/\(∀b∈B,t b=none)/\W i m k t:=λ{a p} q G=>by
   obtain⟨m',hm,w7⟩:=hN a p G;refine⟨m',hm,i+1,a,p,q.eN,T.keep _ _ _ A_ λb c o e=>(q.pin (b,o) (List.mem_append_right _ (List.mem_append_right _ (dr c e)))).1,λb c=>?_,w7⟩
   obtain⟨o,e,d⟩:=T.obj _ _ A_ b c;exact(q.pin (b,o) (List.mem_append_right _ (List.mem_append_right _ (dr c e)))).2.1
  cases f with
  |next=>obtain⟨a,p,q,G⟩:=y;exact again q G
  |cont=>obtain⟨a,p,q,G⟩:=y;exact again q G
  |brk=>obtain⟨a,p,q,y⟩:=y;exact⟨a,p,q.eN,y⟩
  |ret v=>obtain⟨x7,a,p,q,r7,y⟩:=y;exact⟨x7,a,p,q.eN,r7,y⟩
end
abbrev R2:=V->V->Hp->VK->Prop
def dD(X:Cx)(f:Value->Value->Sem Value)(r:R2):Prop:=
 ∀(pins:List (Addr×Obj)) (s:Shared) (a:St) (H:Hp) (x y:V) (v u:Value) (Q:VK),Inv X pins a H s->RelV x v->RelV y u->r x y H Q ->
  wpAny (model X.prog X.w) X.A (f v u) (EP X pins a Q) X.xe s
def Ba(X:Cx)(f:Value->Sem Value)(r:V->Hp->VK->Prop):Prop:=
 ∀(pins:List (Addr×Obj)) (s:Shared) (a:St) (H:Hp) (x:V) (v:Value) (Q:VK),Inv X pins a H s->RelV x v->r x H Q ->
  wpAny (model X.prog X.w) X.A (f v) (EP X pins a Q) X.xe s
def cW(X:Cx)(f:Value)(r:List V->Hp->VK->Prop):Prop:=
 ∀(pins:List (Addr×Obj)) (s:Shared) (a:St) (H:Hp) (b:List V) (c:List Value) (Q:VK),Inv X pins a H s->Vals b c->r b H Q ->
  wpAny (model X.prog X.w) X.A (call f c) (EP X pins a Q) X.xe s
def Bb(X:Cx)(r:V->Hp->(Bool->Hp->Prop)->Prop):Prop:=
 ∀(pins:List (Addr×Obj)) (s:Shared) (a:St) (H:Hp) (x:V) (v:Value) (Q:Bool->Hp->Prop),Inv X pins a H s->RelV x v->r x H Q ->
  wpAny (model X.prog X.w) X.A (truthy v) (TP X pins a Q) X.xe s
noncomputable def wM(r:R2)(b tb:TE):TE:=λa H Q=>b a H λx c=>tb a c λy d=>r x y d Q
noncomputable def Dt(r:V->Hp->VK->Prop)(a:TE):TE:=λb H Q=>a b H λx c=>r x c Q
noncomputable def rI(C:Int->Int->Prop)(g:Int->Int->V):R2:=λx y H Q=>∃i j,x=.int i/\y=.int j/\C i j/\Q (g i j) H
noncomputable def qQ(g:Int->Int->V):R2:=λx y H Q=>∃i j,x=.int i/\y=.int j/\Q (g i j) H
def rU(g:Int->V):V->Hp->VK->Prop:=λx H Q=>∃i,x=.int i/\Q (g i) H
section
variable{X:Cx}{a b c:Expr}{ta tb tc:TE}{pos:Pos}
theorem u7(k:PE X a ta)(l:PE X b tb){pins:List (Addr×Obj)}{s:Shared}{c:St}{H:Hp}{R:V->V->Hp->Prop}(I:Inv X pins c H s)
  (h:ta c H λx j=>tb c j λy d=>R x y d) {Q:Value->Shared->Prop}{f:Value->Value->Sem Value}
  (m:∀v u i x y d,Inv X pins c d i->RelV x v->RelV y u->R x y d->wpAny (model X.prog X.w) X.A (f v u) Q X.xe i) :
  wpAny (model X.prog X.w) X.A (eval a X.env) (λv e=>wpAny (model X.prog X.w) X.A (eval b X.env) (λu g=>wpAny (model X.prog X.w) X.A (f v u) Q X.xe g) X.xe e) X.xe s:=by
 refine bz (k pins s c H _ I h) λv n ⟨x,j,I1,r1,q1⟩=>?_
 refine bz (l pins n c j _ I1 q1) λu i ⟨y,d,I2,r2,q2⟩=>?_
 exact m v u i x y d I2 r1 r2 q2
theorem nY{op:Operator}{r:R2}(c:dD X (binaryOp op) r)(d:PE X a ta)(e:PE X b tb):PE X (.BinOp a op b pos) (wM r ta tb):=by
 intro pins s f H Q I h;exact wpAny_BinOp (u7 d e I h λv u g x y i j k l q=>c pins g f i x y v u Q j k l q)
theorem xk{op:UnaryOp}{r:V->Hp->VK->Prop}(c:Ba X (unaryOp op) r)(d:PE X a ta):PE X (.UnaryOp op a pos) (Dt r ta):=by
 intro pins s b H Q I h;exact UnaryOp_ (bz (d pins s b H _ I h) λv e ⟨x,H1,I1,r1,q1⟩=>c pins e b H1 x v Q I1 r1 q1)
theorem zH{f:Value->Value->Sem Value}{C:Int->Int->Prop}{g:Int->Int->Int}
  (rule:∀(i j:Int) (t u:Tok) (s:Shared) (Q:Value->Shared->Prop) (E:Value->Shared->Prop),C i j->Q (.int (g i j) s.toks) {s with toks:=s.toks+1}->wpAny (model X.prog X.w) X.A (f (.int i t) (.int j u)) Q E s) :
  dD X f (rI C λi j=>.int (g i j)):=by
 intro pins s e H x y v u Q I a b h;obtain⟨i,j,rfl,rfl,c,q⟩:=h;obtain⟨t,rfl⟩:=a;obtain⟨d,rfl⟩:=b;exact rule i j t d s _ _ c ⟨.int (g i j),H,I.tok _,⟨_,rfl⟩,q⟩
theorem xn{f:Value->Value->Sem Value}{g:Int->Int->Int}
  (rule:∀(i j:Int) (t u:Tok) (s:Shared) (Q:Value->Shared->Prop) (E:Value->Shared->Prop),Q (.int (g i j) s.toks) {s with toks:=s.toks+1}->wpAny (model X.prog X.w) X.A (f (.int i t) (.int j u)) Q E s) :
  dD X f (qQ λi j=>.int (g i j)):=by
 intro pins s d H x y v u Q I a b h;obtain⟨i,j,rfl,rfl,q⟩:=h;obtain⟨t,rfl⟩:=a;obtain⟨c,rfl⟩:=b;exact rule i j t c s _ _ ⟨.int (g i j),H,I.tok _,⟨_,rfl⟩,q⟩
theorem qR{f:Value->Value->Sem Value}{g:Int->Int->Bool}
  (rule:∀(i j:Int) (t u:Tok) (s:Shared) (Q:Value->Shared->Prop) (E:Value->Shared->Prop),Q (.bool (g i j)) s->wpAny (model X.prog X.w) X.A (f (.int i t) (.int j u)) Q E s) :
  dD X f (qQ λi j=>.bl (g i j)):=by
 intro pins s d H x y v u Q I a b h;obtain⟨i,j,rfl,rfl,q⟩:=h;obtain⟨t,rfl⟩:=a;obtain⟨c,rfl⟩:=b;exact rule i j t c s _ _ ⟨.bl (g i j),H,I,rfl,q⟩
def xo(i j:Int):Prop:=0<j/\j<1073741824
def xq(i j:Int):Prop:=0<=j/\j<=1000000/\i.natAbs<2 ^ 64
def qS(i j:Int):Prop:=(-(2 ^ 64)<i/\i<2 ^ 64)\/(-(2 ^ 64)<j/\j<2 ^ 64)
theorem qS.ok{i j:Int}(h:qS i j):IntMulOk i j:=by
 rcases h with ⟨a,b⟩|⟨a,b⟩
 .exact .of_left (intBits_le_64 a b)
 .exact .of_right (intBits_le_64 a b)
theorem u9:dD X (binaryOp .Add) (qQ λi j=>.int (i+j)):=xn λ_ _ _ _ _ _ _ q=>add_int q
theorem u_:dD X (binaryOp .Sub) (qQ λi j=>.int (i - j)):=xn λ_ _ _ _ _ _ _ q=>sub_int q
theorem va:dD X (binaryOp .Mult) (rI qS λi j=>.int (i*j)):=zH λ_ _ _ _ _ _ _ a q=>mul_int q a.ok
theorem qT:dD X (binaryOp .FloorDiv) (rI xo λi j=>.int (i / j)):=zH λi j _ _ _ _ _ a q=>by
 have b:(0:Int)<j:=a.1;have c:j<1073741824:=a.2;exact floordiv_int (by omega) (by rw[Int.fdiv_eq_ediv_of_nonneg i (by omega)];exact q) (.inl (PyProof.noPylong_small (by omega)))
theorem vb:dD X (binaryOp .Mod) (rI (λ_ j=>0<j) λi j=>.int (i%j)):=zH λi j _ _ _ _ _ a q=>by
 have b:(0:Int)<j:=a;exact mod_int' (by omega) (by rw[Int.fmod_eq_emod_of_nonneg i (by omega)];exact q)
theorem vc:dD X (binaryOp .Pow) (rI xq λi j=>.int (i ^ j.toNat)):=zH λ_ _ _ _ _ _ _ a q=>pow_int_small a.1 a.2.1 a.2.2 q
theorem Du{f:Value->Sem Value}{g:Int->Int}
  (rule:∀(i:Int) (t:Tok) (s:Shared) (Q:Value->Shared->Prop) (E:Value->Shared->Prop),Q (.int (g i) s.toks) {s with toks:=s.toks+1}->wpAny (model X.prog X.w) X.A (f (.int i t)) Q E s) :
  Ba X f (rU λi=>.int (g i)):=by
 intro pins s b H x v Q I a h;obtain⟨i,rfl,q⟩:=h;obtain⟨t,rfl⟩:=a;exact rule i t s _ _ ⟨.int (g i),H,I.tok _,⟨_,rfl⟩,q⟩
theorem vd:Ba X (unaryOp .USub) (rU λi=>.int (-i)):=Du λ_ _ _ _ _ q=>neg_int q
theorem iP{pins:List (Addr×Obj)}{a:St}{H:Hp}{s:Shared}{Q:VK}{k b:Bool}(I:Inv X pins a H s)(q:Q (.bl k) H)(e:k=b):EP X pins a Q (.bool b) s:=by
 subst e;exact⟨.bl k,H,I,rfl,q⟩
theorem xr:dD X (compareOp .Lt) (qQ λi j=>.bl (decide (i<j))):=qR λ_ _ _ _ _ _ _ q=>lt_int q
theorem xu:dD X (compareOp .LtE) (qQ λi j=>.bl (decide (i<=j))):=qR λ_ _ _ _ _ _ _ q=>le_int q
theorem xv:dD X (compareOp .Gt) (qQ λi j=>.bl (decide (j<i))):=qR λ_ _ _ _ _ _ _ q=>gt_int q
theorem xy:dD X (compareOp .GtE) (qQ λi j=>.bl (decide (j<=i))):=qR λ_ _ _ _ _ _ _ q=>ge_int q
theorem mR:dD X (compareOp .In) (λx y H Q=>∃i j,x=.str i/\y=.str j/\Q (.bl (!(Builtin.Str.occurrences j i 0 j.length 1).isEmpty)) H):=by
 intro pins s c H x y v u Q I a b h;obtain⟨i,j,rfl,rfl,q⟩:=h;obtain⟨t,rfl⟩:=a;obtain⟨d,rfl⟩:=b;exact in_str (iP I q rfl)
theorem n4:dD X (compareOp .Is) (λx y H Q=>y=.non/\Q (.bl (decide (x=.non))) H):=by
 intro pins s c H x y v u Q I a b h;obtain⟨rfl,q⟩:=h;cases b;refine is_none_gen (iP I q ?_)
 cases x<;>first
  | (cases a;rfl)
  | (obtain⟨t,rfl⟩:=a;rfl)
theorem lE:dD X (compareOp .IsNot) (λx y H Q=>y=.non/\Q (.bl (!decide (x=.non))) H):=by
 intro pins s c H x y v u Q I a b h;obtain⟨rfl,q⟩:=h;cases b;refine isnot_none_gen (iP I q ?_)
 cases x<;>first
  | (cases a;rfl)
  | (obtain⟨t,rfl⟩:=a;rfl)
theorem iQ:dD X (compareOp .NotIn) (λx y H Q=>∃i j,x=.str i/\y=.str j/\Q (.bl (!(!(Builtin.Str.occurrences j i 0 j.length 1).isEmpty))) H):=by
 intro pins s c H x y v u Q I a b h;obtain⟨i,j,rfl,rfl,q⟩:=h;obtain⟨t,rfl⟩:=a;obtain⟨d,rfl⟩:=b;exact notIn_str (iP I q rfl)
theorem dD.or{f:Value->Value->Sem Value}{r a:R2}(h:dD X f r)(h':dD X f a):dD X f (λx y H Q=>r x y H Q\/a x y H Q):=by
 intro pins s b H x y v u Q I c d q;rcases q with q|q
 .exact h pins s b H x y v u Q I c d q
 .exact h' pins s b H x y v u Q I c d q
theorem eO{op:CmpOp}{r:R2}(c:dD X (compareOp op) r)(d:PE X a ta)(e:PE X b tb)(f:behindInMarks op b=false):PE X (.Compare a [op] [b] pos) (wM r ta tb):=by
 intro pins s g H Q I h;exact wpAny_Compare1 (u7 d e I h λv u i x y j k l m q=>c pins i g j x y v u Q k l m q) f
noncomputable def n5(t:TE):TT:=λa H Q=>t a H λx b=>∃k,x=.bl k/\Q k b
theorem eP{op:CmpOp}{r:R2}(f:dD X (compareOp op) r)(g:PE X a ta)(i:PE X b tb)(j:behindInMarks op b=false):PT X (.Compare a [op] [b] pos) (n5 (wM r ta tb)):=by
 intro pins s d H Q I h
 refine wpAny_isTrue_Compare1 (bz (g pins s d H _ I h) λv l ⟨x,H1,I1,r1,q1⟩=>bz (i pins l d H1 _ I1 q1) λu m ⟨y,H2,I2,r2,q2⟩=>
  bz (f pins m d H2 x y v u _ I2 r1 r2 q2) λc o ⟨z,H3,I3,n,k,e,q3⟩=>?_) j
 subst e;cases n;exact wpAny_truthy_bool ⟨H3,I3,q3⟩
noncomputable def kB(r c:R2)(d tb e:TE):TE:=λa H Q=>d a H λx f=>tb a f λy g=>r x y g λz b=>∃k,z=.bl k /\
 (if k=true then e a b λh i=>c y h i Q else Q (.bl false) b)
theorem n6{op f:CmpOp}{r j:R2}(l:dD X (compareOp op) r)(i:dD X (compareOp f) j)(m:PE X a ta)(n:PE X b tb)(o:PE X c tc)
  (p:lastMarks [op,f] [b,c]=false:=by with_unfolding_all rfl):PE X (.Compare a [op,f] [b,c] pos) (kB r j ta tb tc):=by
 intro pins s g H Q I h
 refine Compare_chain (bz (m pins s g H _ I h) λv q ⟨x,H1,I1,r1,q1⟩=>chain_link (bz (n pins q g H1 _ I1 q1) λu t ⟨y,H2,I2,r2,q2⟩=>
  bz (l pins t g H2 x y v u _ I2 r1 r2 q2) λd w ⟨z,H3,I3,A,k,e,q3⟩=>?_)) p
 subst e;cases A;refine wpAny_truthy_bool ?_;cases k with
 |false=>exact ite_ff ⟨.bl false,H3,I3,rfl,q3⟩
 |true=>exact ite_tt (chain_last (bz (o pins w g H3 _ I3 q3) λB C ⟨D,H4,I4,r4,q4⟩=>i pins C g H4 y D u B Q I4 r2 r4 q4))
theorem n7{op f:CmpOp}{r j:R2}(l:dD X (compareOp op) r)(i:dD X (compareOp f) j)(m:PE X a ta)(n:PE X b tb)(o:PE X c tc)
  (p:lastMarks [op,f] [b,c]=false:=by with_unfolding_all rfl):PT X (.Compare a [op,f] [b,c] pos) (n5 (kB r j ta tb tc)):=by
 intro pins s g H Q I h
 refine isTrue_chain (bz (m pins s g H _ I h) λv q ⟨x,H1,I1,r1,q1⟩=>test_link (bz (n pins q g H1 _ I1 q1) λu t ⟨y,H2,I2,r2,q2⟩=>
  bz (l pins t g H2 x y v u _ I2 r1 r2 q2) λd w ⟨z,H3,I3,A,k,e,q3⟩=>?_)) p
 subst e;cases A;refine wpAny_truthy_bool ?_;cases k with
 |false=>
  obtain⟨J,B,C⟩:=q3;cases B;exact ite_ff ⟨H3,I3,C⟩
 |true=>
  refine ite_tt (test_last (bz (o pins w g H3 _ I3 q3) λD E ⟨F,H4,I4,r4,q4⟩=>bz (i pins E g H4 y F u D _ I4 r2 r4 q4) λK L ⟨M,H5,I5,G,k2,e2,q5⟩=>?_))
  subst e2;cases G;exact wpAny_truthy_bool ⟨H5,I5,q5⟩
def jH(K:PySem.W.Frag)(x:V)(H:Hp)(k:Bool):Prop:=
 match x with
 |.non=>k=false
 |.bl b=>k=b
 |.int i=>k=(i != 0)
 |.str y=>y.length<=sizeLine/\k=((y.length:Int) != 0)
 |.wK y=>y.size<=sizeLine/\k=((y.size:Int) != 0)
 |.ref p=>(∃a,fU K H p a/\k=!a.isEmpty)\/(∃a,dC K H p a/\k=!a.isEmpty)\/∃c,H p=some (.dK c)/\k=!c.isEmpty
 |_=>False
theorem kC{κ:Type}{a:List (κ×V)}{vs:List (κ×Value)}(r:KV a vs):(!vs.isEmpty)=!a.isEmpty:=by
 cases r<;>rfl
theorem gi{xs:List V}{a:List Value}(r:Vals xs a):(!a.toArray.isEmpty)=!xs.isEmpty:=by
 cases r<;>simp
theorem fo:(sizeLine:Nat)<2 ^ 63:=by rw[sizeLine_eq];decide
theorem iR:Bb X (λx H Q=>∃k,jH X.K x H k/\Q k H):=by
 intro pins s B H x v Q I g h;obtain⟨k,e,q⟩:=h;have C:=fo;have D:sizeLine=16777216:=sizeLine_eq;cases x with
 |non=>
  cases g;have a:k=false:=e;subst a;exact truthy_none ⟨H,I,q⟩
 |bl b=>
  cases g;have a:k=b:=e;subst a;exact wpAny_truthy_bool ⟨H,I,q⟩
 |int i=>
  obtain⟨t,rfl⟩:=g;have a:k=(i != 0):=e;subst a;exact PySem.P.truthy_int ⟨H,I,q⟩
 |str y=>
  obtain⟨t,rfl⟩:=g;obtain⟨z,a⟩:y.length<=sizeLine/\k=((y.length:Int) != 0):=e;subst a;exact PySem.P.truthy_str (by omega) ⟨H,I.tok _,q⟩
 |wK y=>
  obtain⟨t,rfl⟩:=g;obtain⟨z,a⟩:y.size<=sizeLine/\k=((y.size:Int) != 0):=e;subst a;exact PySem.W.truthy_bytes (by omega) ⟨H,I.tok _,q⟩
 |ref p=>
  cases g;have a:(∃f,fU X.K H p f/\k=!f.isEmpty)\/(∃f,dC X.K H p f/\k=!f.isEmpty)\/∃c,H p=some (.dK c)/\k=!c.isEmpty:=e;rcases a with ⟨f,j,a⟩|⟨f,j,a⟩|⟨c,j,a⟩
  .subst a
   obtain⟨n,r,o,u⟩:=I.list j;have d:=r.length;exact wpAny_truthy_list o.isList (by simp only[List.size_toArray];omega) ⟨H,I.tok _,by rw[gi r];exact q⟩
  .subst a
   obtain⟨n,r,o,u⟩:=I.tuple j;have d:=r.length;exact truthy_tuple o (by simp only[List.size_toArray];omega) ⟨H,I.tok _,by rw[gi r];exact q⟩
  .subst a
   obtain⟨u,A,l,r,m⟩:c.length<=sizeLine/\(p==sysModules)=false/\∃l,KV c l/\s.heap.DictOf (iM X.prog X.w) p l:=I.hok p _ j;have d:c.length=l.length:=Paired.length r;exact wpAny_truthy_dict A m (by omega) ⟨H,I.tok _,by rw[kC r];exact q⟩
 |_=>exact(show False from e).elim
theorem n8(e:PE X a ta)(f:∀b,isTrue a X.env b=(do let v ←b;standAt a.pos;holding [v] (truthy v))) :
  PT X a (λc H Q=>ta c H λx d=>∃k,jH X.K x d k/\Q k d):=by
 intro pins s c H Q I h;exact isTrue_plain (bz (e pins s c H _ I h) λv g ⟨x,H1,I1,r1,q1⟩=>iR pins g c H1 x v Q I1 r1 q1) (f _)
theorem kD:dD X (binaryOp .Add) (λx y H Q=>∃i j,x=.str i/\y=.str j/\i.length+j.length<=sizeLine/\Q (.str (i++j)) H):=by
 intro pins s e H x y v u Q I a b h;obtain⟨i,j,rfl,rfl,c,q⟩:=h;obtain⟨t,rfl⟩:=a;obtain⟨d,rfl⟩:=b;exact add_str (λd f=>⟨.str (i++j),H,I.tok _,⟨_,rfl⟩,q⟩) c
theorem vals1{x:V}{us:List Value}(r:Vals [x] us):∃u,us=[u]/\RelV x u:=by
 cases r with
 |cons a b=>cases b;exact⟨_,rfl,a⟩
theorem vals2{x y:V}{us:List Value}(r:Vals [x,y] us):∃u a,us=[u,a]/\RelV x u/\RelV y a:=by
 cases r with
 |cons b c=>
  cases c with
  |cons d e=>cases e;exact⟨_,_,rfl,b,d⟩
theorem mS:cW X (.type "int") (λxs H Q=>(∃i,xs=[.int i]/\Q (.int i) H)\/∃k,xs=[.bl k]/\Q (.int (if k then 1 else 0)) H):=by
 intro pins s b H xs c Q I r h;rcases h with ⟨i,rfl,q⟩|⟨k,rfl,q⟩
 .obtain⟨u,rfl,t,rfl⟩:=vals1 r
  exact call_int_int ⟨.int i,H,I,⟨_,rfl⟩,q⟩
 .obtain⟨u,rfl,a⟩:=vals1 r
  cases a;exact call_int_bool ⟨.int (if k then 1 else 0),H,I.tok _,⟨_,rfl⟩,q⟩
end
structure qU(h:Heap)(x dx C:Addr)(mA:Str->Option Value):Prop where
 obj:h.get? x=some (PySem.W.instObj C dx)
 ns:h.Ns1 dx mA
 ne:dx≠x
theorem c9{h:Heap}{c:Addr}{d:Str->Option Value}(n:h.Ns1 c d):∃od,h.get? c=some od/\∀name,PySem.W.lookIn name od=some (d name):=by
 obtain⟨o,f,p,g,i,j,_,k⟩:=n;refine⟨o,g,λname=>?_⟩
 have e:=k name;unfold nsFind findBy at e;rw[←Array.find?_toList]at e;unfold PySem.W.lookIn;rw[i];dsimp only;split
 .rename_i y q
  rw[q]at e;exact congrArg some e
 .rename_i q
  rw[q]at e
  have a:f.toList.any (·.refKey)=false:=by
   rw[List.any_eq_false];intro y l;obtain⟨z,t,b⟩:=j y (Array.mem_toList_iff.mp l);simp[DictEntry.refKey,b]
  have m:¬ f.toList.any (·.refKey)=true:=by rw[a];exact Bool.false_ne_true
  rw[if_neg m];exact congrArg some e
theorem qU.look{h:Heap}{x a C:Addr}{b:Str->Option Value}(I:qU h x a C b):∃od,PySem.W.InstAt h x (PySem.W.instObj C a) C (some od)/\∀name,PySem.W.lookIn name od=some (b name):=
 let ⟨od,c,d⟩:=c9 I.ns
 ⟨od,⟨I.obj,rfl,rfl,c⟩,d⟩
section
variable{prog:Program}{w:World}{A:Around}{E:Value->Shared->Prop}{s:Shared}{K:PySem.W.Frag}{x dx C f:Addr}{mA:Str->Option Value}{name:Str}{v:Value}
theorem get_map{a:Bool}{Q:Value->Shared->Prop}(X:K.In s.heap)(I:qU s.heap x dx C mA)(c:PySem.W.plainGet K C name=true)(d:PySem.W.hasDictIn K C=true)
  (e:PySem.W.findIn K (.ref C) name=some none) (f:mA name=some v) (b:PySem.W.handedIn v=true) (h:Q v {s with toks:=s.toks+1}) :
  wpAny (model prog w) A (getAttr (.ref x) name a) Q E s:=by
 obtain⟨i,J,g⟩:=I.look;exact PySem.W.get_value X J (PySem.W.plainGet_of c).1 (PySem.W.findObj_own d e rfl (by rw[g,f])) b h
end
theorem eM.some_of{v:V}{o:Option Value}(r:eM (some v) o):∃u,o=some u/\RelV v u:=by
 cases o with
 |none=>exact(show False from r).elim
 |some u=>exact⟨u,rfl,r⟩
theorem fq{v:V}{u:Value}(r:RelV v u):PySem.W.handedIn u=true:=by
 cases v with
 |non=>cases (show u=Value.none from r);rfl
 |bl b=>cases (show u=Value.bool b from r);rfl
 |int i=>obtain⟨t,e⟩:=(show ∃t,u=Value.int i t from r);cases e;rfl
 |str x=>obtain⟨t,e⟩:=(show ∃t,u=Value.str x t from r);cases e;rfl
 |wK b=>obtain⟨t,e⟩:=(show ∃t,u=Value.bytes b t from r);cases e;rfl
 |flt b=>obtain⟨t,e⟩:=(show ∃t,u=Value.float b t from r);cases e;rfl
 |ref a=>cases (show u=Value.ref a from r);rfl
 |ty n=>cases (show u=Value.type n from r);rfl
section
variable{P:Program}{w:World}{H H':Hp}{h h':Heap}{a C dx:Addr}{fs fs':List (Str×V)}
theorem lF(c:fO P w H h)(e:H a=some (.ins C dx fs)):∃b,qU h a dx C b/\(∀f,eM (fs.lookup f) (b f))/\PySem.Within b (fs.map (·.1))/\fs.length<=1000/\H dx=some (.own a):=by
 obtain⟨d,z,g,i,b,n,r,q⟩:=(show bA P w H h a (.ins C dx fs)from c a _ e)
 exact⟨b,⟨i,n,g⟩,r,q,z,d⟩
end
structure qV(K:PySem.W.Frag)(C:Addr):Prop where
 pg:PySem.W.plainGet K C Str.empty=true
 hd:PySem.W.hasDictIn K C=true
 po:PySem.W.plainOver K C=true
 sa:PySem.W.findIn K (.ref C) "__setattr__"=some (some (.builtin "object.__setattr__"))
theorem qV.get{K:PySem.W.Frag}{C:Addr}(c:qV K C)(f:Str):PySem.W.plainGet K C f=true:=c.pg
def bN(K:PySem.W.Frag)(C:Addr)(f:Str):Prop:=PySem.W.findIn K (.ref C) f=some none
theorem bN.taker{K:PySem.W.Frag}{C:Addr}{f:Str}(n:bN K C f):PySem.W.takerIn K C f=some none:=by
 unfold PySem.W.takerIn;rw[show PySem.W.findIn K (.ref C) f=some none from n]
 rfl
structure Meth(K:PySem.W.Frag)(C:Addr)(m:Str)(f:Addr):Prop where
 at_:PySem.W.findIn K (.ref C) m=some (some (.ref f))
 fn:PySem.W.isFn K (.ref f)=true
 kp:PySem.W.keepIn K (.ref f)=true
section
variable{X:Cx}{pins:List (Addr×Obj)}{σ:St}{H:Hp}{s:Shared}{a C dx:Addr}{fs:List (Str×V)}{f:Str}{v:V}{A:Around}{E:Value->Shared->Prop}
theorem kE{b:Bool}{Q:Value->Shared->Prop}(I:Inv X pins σ H s)(e:H a=some (.ins C dx fs))(c:qV X.K C)(n:bN X.K C f)(l:fs.lookup f=some v)
  (h:∀u d,Inv X pins σ H d->RelV v u->Q u d):wpAny (model X.prog X.w) A (getAttr (.ref a) f b) Q E s:=by
 obtain⟨i,O,r,_,_,_⟩:=lF I.hok e;obtain⟨u,j,g⟩:=eM.some_of (v:=v) (o:=i f) (by rw[←l];exact r f)
 exact get_map I.dB O (c.get f) c.hd n j (fq g) (h u _ (I.tok _) g)
theorem iS{prog:Program}{w:World}{env:Env}{e:Expr}{f:Str}{pos:Pos}{s:Shared}{Q:Value->Shared->Prop}(b:attributeBase e f env (eval e env)=eval e env)
  (h:wpAny (model prog w) A (eval e env) (λo a=>wpAny (model prog w) A (getAttr o f true) Q E a) E s):wpAny (model prog w) A (eval (.Attribute e f pos) env) Q E s:=
 Attribute_any_ h (by rw[arm_eval_Attribute,b])
end
noncomputable def Bc(K:PySem.W.Frag)(d:TE)(f:Str):TE:=λe H Q=>d e H λx b=>∃a C g c v,x=.ref a/\b a=some (.ins C g c)/\qV K C/\bN K C f/\c.lookup f=some v/\Q v b
section
variable{X:Cx}{o e value:Expr}{f:Str}{pos pos' tpos:Pos}{ta tv:TE}
theorem vf(b:PE X e ta)(d:attributeBase e f X.env (eval e X.env)=eval e X.env):PE X (.Attribute e f pos) (Bc X.K ta f):=by
 intro pins s g H Q I h;refine iS d (bz (b pins s g H _ I h) λu k ⟨x,H1,I1,rx,a,C,dx,fs,v,ex,ea,c,n,l,q⟩=>?_)
 subst ex;obtain rfl:u=Value.ref a:=rx;exact kE I1 ea c n l λm o i j=>⟨v,H1,i,j,q⟩
end
section
variable{X:Cx}{pins:List (Addr×Obj)}{σ:St}{H:Hp}{s:Shared}{A:Around}{E:Value->Shared->Prop}{Q:Value->Shared->Prop}{c:Value}{b:Bool}
inductive fP (K:PySem.W.Frag) (H:Hp):V->Value->Prop where
 |non:fP K H .non (.type "NoneType")
 |bl (x:Bool):fP K H (.bl x) (.type "bool")
 |int (i:Int):fP K H (.int i) (.type "int")
 |str (x:Str):fP K H (.str x) (.type "str")
 |flt (x:UInt64):fP K H (.flt x) (.type "float")
 |lst {a:Addr}{xs:List V} (e:H a=some (.lst xs)):fP K H (.ref a) (.type "list")
 |eK {a:Addr}{o:Obj}{xs:List V} (e:H a=some (.eK o (.lst xs))):fP K H (.ref a) (.type "list")
 |tup {a:Addr}{xs:List V} (e:H a=some (.tup xs)):fP K H (.ref a) (.type "tuple")
 |dK {a:Addr}{kvs:List (Key×V)} (e:H a=some (.dK kvs)):fP K H (.ref a) (.type "dict")
 |dT {a:Addr}{kvs:List (List Key×V)} (e:H a=some (.dT kvs)):fP K H (.ref a) (.type "dict")
 |ins {a C dx:Addr}{fs:List (Str×V)} (e:H a=some (.ins C dx fs)) (cl:qV K C) (ha:PySem.W.findIn K (.ref C) "__class__"=some (some (.builtin "object.__class__")))
   (hn:PySem.W.specialIn K (.builtin "object.__class__") "__get__"=some (some (.builtin "getset_descriptor.__get__"))) (htk:PySem.W.takesIn K (.builtin "object.__class__")=some true)
   (hm:PySem.W.mroIn K C (.type "object")=some true):fP K H (.ref a) (.ref C)
theorem bC{x:V}{u t:Value}(I:Inv X pins σ H s)(d:RelV x u)(B:fP X.K H x t)(e:PySem.W.kitOne X.K t c=some b)(h:∀D,Q (.bool b) {s with toks:=D}) :
  wpAny (model X.prog X.w) A (call (.builtin "isinstance") [u,c]) Q E s:=by
 cases B with
 |non=>cases (show u=Value.none from d);exact PySem.W.kia_one PySem.W.kitx_none I.dB True.intro e (λz=>nomatch z) h
 |bl y=>cases (show u=Value.bool y from d);exact PySem.W.kia_one PySem.W.kitx_bool I.dB True.intro e (λz=>nomatch z) h
 |int i=>obtain⟨t,q⟩:=(show ∃t,u=Value.int i t from d);cases q;exact PySem.W.kia_one PySem.W.kitx_int I.dB True.intro e (λz=>nomatch z) h
 |str y=>obtain⟨t,q⟩:=(show ∃t,u=Value.str y t from d);cases q;exact PySem.W.kia_one PySem.W.kitx_str I.dB True.intro e (λz=>nomatch z) h
 |flt y=>obtain⟨t,q⟩:=(show ∃t,u=Value.float y t from d);cases q;exact PySem.W.kia_one PySem.W.kitx_float I.dB True.intro e (λz=>nomatch z) h
 |@lst a k f=>
  cases (show u=Value.ref a from d)
  obtain⟨_,_,n,_,g⟩:=(show bA X.prog X.w H s.heap a (.lst k)from I.hok a _ f)
  exact PySem.W.kia_one PySem.W.kitx_list I.dB ⟨_,g,rfl⟩ e (λz=>nomatch z) h
 |@eK a F k f=>
  cases (show u=Value.ref a from d)
  obtain⟨_,_,_,n,_,g⟩:=(show bA X.prog X.w H s.heap a (.eK F (.lst k))from I.hok a _ f)
  exact PySem.W.kia_one PySem.W.kitx_list I.dB ⟨_,g,rfl⟩ e (λz=>nomatch z) h
 |@tup a k f=>
  cases (show u=Value.ref a from d)
  obtain⟨_,_,_,p⟩:=(show bA X.prog X.w H s.heap a (.tup k)from I.hok a _ f)
  obtain⟨o,g,l,_⟩:=p;exact PySem.W.kia_one PySem.W.kitx_tuple I.dB ⟨o,g,l⟩ e (λz=>nomatch z) h
 |@dK a j f=>
  cases (show u=Value.ref a from d)
  obtain⟨_,_,R,_,p⟩:=(show bA X.prog X.w H s.heap a (.dK j)from I.hok a _ f)
  obtain⟨o,G,L,g,l,_⟩:=p;exact PySem.W.kia_one PySem.W.kitx_dict I.dB ⟨o,g,l.1⟩ e (λz=>nomatch z) h
 |@dT a j f=>
  cases (show u=Value.ref a from d)
  obtain⟨_,_,k,_,o,G,L,g,l,_⟩:=(show bA X.prog X.w H s.heap a (.dT j)from I.hok a _ f)
  exact PySem.W.kia_one PySem.W.kitx_dict I.dB ⟨o,g,l.1⟩ e (λz=>nomatch z) h
 |@ins a C S T f r M N m P=>
  cases (show u=Value.ref a from d)
  obtain⟨U,O,_⟩:=lF I.hok f;obtain⟨Y,J,_⟩:=O.look;exact PySem.W.kia_one (PySem.W.kitx_own (r.get _) r.hd M N m P) I.dB J e (λz=>nomatch z) h
end
structure bF(k:Nat)(A:Around):Prop where
 hd:A.handled=none
 dp:A.depth+3*k+5<recursionLimit
 un:A.units+16*k+200<cLine
theorem bF.mono{j k:Nat}{A:Around}(r:bF k A)(h:j<=k):bF j A:=⟨r.hd,by have:=r.dp;omega,by have:=r.un;omega⟩
theorem bF.deeper{k:Nat}{A:Around}(r:bF (k+1) A)(env:Env):bF k (A.deeper env):=
 ⟨r.hd,by have:=r.dp;show A.depth+1+3*k+5<_;omega,by have:=r.un;show A.units+3+16*k+200<_;omega⟩
theorem kF{A:Around}{C:Addr}{us:List Value}{a:List (Str×Value)}:(A.under (.builtin "type.__call__" ⟨.ref C::us,a⟩)).depth=A.depth+1:=by
 first|rfl|simp[Around.under,Code.weight,Code.isCreation,Code.isGuard,Code.isCaller,Code.frames,Code.isFrame,guardIds]
theorem kG{A:Around}{C:Addr}{us:List Value}{a:List (Str×Value)}:(A.under (.builtin "type.__call__" ⟨.ref C::us,a⟩)).units=A.units+1:=by
 first|rfl|simp[Around.under,Code.cUnits,Code.frames,Code.isFrame]
theorem bF.make{k:Nat}{A:Around}(r:bF (k+1) A)(C:Addr)(us:List Value)(a:List (Str×Value)):bF k (A.under (.builtin "type.__call__" ⟨.ref C::us,a⟩)):=
 ⟨r.hd,by have:=r.dp;rw[kF];omega,by have:=r.un;rw[kG];omega⟩
theorem bF.depth{k:Nat}{A:Around}(r:bF k A):A.depth<recursionLimit:=by have:=r.dp;omega
theorem bF.units{k:Nat}{A:Around}(r:bF k A):A.units+64<cLine:=by have:=r.un;omega
noncomputable def vg:TA:=λ_ H Q=>Q [] H
noncomputable def xB(b:TE)(c:TA):TA:=λa H Q=>b a H λx d=>c a d λe f=>Q (x::e) f
section
variable{X:Cx}{e:Expr}{es:List Expr}{te:TE}{t:TA}{pos:Pos}
theorem iT:PA X [] vg:=λ_ _ _ _ H Q I h=>Calls.spliced_nil ⟨[],H,I,.nil,h⟩
theorem cX(c:PE X e te)(d:PA X es t)(f:starEach (e::es) X.env=(false,eval e X.env)::starEach es X.env:=by rfl):PA X (e::es) (xB te t):=by
 intro a pins s b H Q I h;rw[f]
 show wpAny _ _ (spliced ((false,eval e X.env)::backTo a (starEach es X.env))) _ _ s
 refine Calls.spliced_cons (bz (c pins s b H _ I h) λu g ⟨x,H1,I1,r1,q1⟩=>?_)
 exact bz (d a pins g b H1 _ I1 q1) λj k ⟨i,H2,I2,r2,q2⟩=>⟨x::i,H2,I2,.cons r1 r2,q2⟩
def Bd(t:TA):TE:=λc H Q=>t c H λa b=>a.length<=sizeLine/\∀p,b p=none->Q (.ref p) (upd b p (.tup a))
def Be(t:TA):TE:=λc H Q=>t c H λa b=>a.length<=sizeLine/\∀p,b p=none->Q (.ref p) (upd b p (.lst a))
theorem vh{x1}(h:PA X es t):PE X (.Tuple es x1 pos) (Bd t):=by
 intro pins s c H Q I d;refine wpAny_Tuple_spliced (bz (h pos pins s c H _ I d) λf a ⟨g,H1,I1,r,z,q⟩=>⟨by rw[←r.length];exact z,?_⟩)
 have i:H1 a.heap.objs.size=none:=I1.hok.fresh (Nat.le_refl _);refine⟨.ref a.heap.objs.size,upd H1 a.heap.objs.size (.tup g),I1.laid (t':=a.toks) (λb u e=>Heap.get?_push_of_some _ e) (Nat.le_refl _) ?_,rfl,q _ i⟩
 exact⟨z,f,r,⟨_,Heap.get?_push_size _ rfl,rfl,_,rfl⟩⟩
theorem vi(h:PA X es t):PE X (.List es pos) (Be t):=by
 intro pins s c H Q I d;refine wpAny_List_spliced (bz (h pos pins s c H _ I d) λf a ⟨g,H1,I1,r,z,q⟩=>⟨by rw[←r.length];exact z,?_⟩)
 have i:H1 a.heap.objs.size=none:=I1.hok.fresh (Nat.le_refl _);refine⟨.ref a.heap.objs.size,upd H1 a.heap.objs.size (.lst g),I1.laid (t':=a.toks) (λb u e=>Heap.get?_push_of_some _ e) (Nat.le_refl _) ?_,rfl,q _ i⟩
 exact⟨z,f,0,r,Heap.get?_push_size _ rfl⟩
end
abbrev Sp:=List V->Hp->VK->XK->Prop
abbrev mT:=List Env->Hp->Shared->XK->Value->Shared->Prop
structure jJ(P:Program)(w:World)(K:PySem.W.Frag)(mg:Str->Option Value)(base:Heap)(A:Around)(outer:List Env)(s:Shared)(H:Hp):Prop where
 frames:A.frames=some outer
 mod:Mod K mg base
 bs:∀b o,base.get? b=some o->s.heap.get? b=some o/\H b=none
 qD:base.objs.size<=s.heap.objs.size
 fm:s.heap.FunFrames base outer
 ug:∀b∈frs outer,H b=none
 hok:fO P w H s.heap
 bare:AllBare s.gens
def CE(outer:List Env)(P:Program)(w:World)(H:Hp)(s:Shared)(Q:VK)(u:Value)(a:Shared):Prop:=
 ∃v b,a.os=s.os/\AllBare a.gens/\Un (frs outer) [] H b s.heap a.heap/\fO P w b a.heap/\RelV v u/\Q v b
def CR(CX:mT)(outer:List Env)(P:Program)(w:World)(H:Hp)(s:Shared)(Q:VK)(E:XK)(r:Result)(a:Shared):Prop:=
 match r with
 |.ok (.ret u)=>CE outer P w H s Q u a
 |.ok _=>False
 |.error e=>CX outer H s E e a
structure bO(P:Program)(w:World)(K:PySem.W.Frag)(mg:Str->Option Value)(base:Heap)(CX:mT)(k:Nat)(f:Addr)(fd:FuncData)(ps:List Str)(sp:Sp):Prop where
 len:∀vs H Q E,sp vs H Q E->vs.length=ps.length
 run:∀(A:Around) (outer:List Env) (s:Shared) (H:Hp) (args:Args) (us:List Value) (vs:List V) (Q:VK) (E:XK),bF k A->jJ P w K mg base A outer s H->BindsTo s fd args (ps.zip us)->Vals vs us->sp vs H Q E ->
  codeAny (model P w) A (.call (.ref f) args) (CR CX outer P w H s Q E) s
theorem bO.mono{P:Program}{w:World}{K:PySem.W.Frag}{a:Str->Option Value}{base:Heap}{CX:mT}{j k:Nat}{f:Addr}{b:FuncData}{ps:List Str}{sp:Sp}(F:bO P w K a base CX j f b ps sp)(h:j<=k) :
  bO P w K a base CX k f b ps sp:=⟨F.len,λA outer s H args c d Q E e=>F.run A outer s H args c d Q E (e.mono h)⟩
theorem bO.imp{P:Program}{w:World}{K:PySem.W.Frag}{b:Str->Option Value}{base:Heap}{CX:mT}{k:Nat}{f:Addr}{c:FuncData}{ps:List Str}{sp a:Sp}(F:bO P w K b base CX k f c ps sp)
  (h:∀vs H Q E,a vs H Q E->sp vs H Q E):bO P w K b base CX k f c ps a:=
 ⟨λvs H Q E q=>F.len vs H Q E (h _ _ _ _ q),λA outer s H args d vs Q E e g i j l=>F.run A outer s H args d vs Q E e g i j (h _ _ _ _ l)⟩
theorem jJ.make{P:Program}{w:World}{K:PySem.W.Frag}{a:Str->Option Value}{base:Heap}{A:Around}{outer:List Env}{s:Shared}{H:Hp}(e:jJ P w K a base A outer s H)(C:Addr)(us:List Value)(b:List (Str×Value)) :
  jJ P w K a base (A.under (.builtin "type.__call__" ⟨.ref C::us,b⟩)) outer s H:=⟨by first|exact e.frames | (simpa[Around.under,Code.envs,Code.isFrame,pushEnvs]using e.frames),e.mod,e.bs,e.qD,e.fm,e.ug,e.hok,e.bare⟩
section
variable{X:Cx}{pins:List (Addr×Obj)}{σ:St}{H:Hp}{s s':Shared}
theorem Inv.env0(I:Inv X pins σ H s):jJ X.prog X.w X.K X.mg X.base X.A X.stack s H:=
 ⟨I.ok.frames,I.ok.mod,I.bs,Nat.le_trans I.ok.qD I.sz,I.stack,I.lA,I.hok,I.bare⟩
theorem Inv.after{Q:VK}{u:Value}(I:Inv X pins σ H s)(h:CE X.stack X.prog X.w H s Q u s'):EP X pins σ Q u s':=by
 obtain⟨v,e,f,bare,i,a,r,q⟩:=h;obtain⟨j,g,d,t,c⟩:=s';obtain rfl:c=s.os:=f;exact⟨v,e,I.call (h':=j) (g':=g) (d':=d) (t':=t) (ch:=[]) i a bare (λb z=>absurd z (by simp)),r,q⟩
end
noncomputable def uj(sp:Sp)(lG:List V)(E:XK)(t:TA):TE:=λa H Q=>t a H λb c=>sp (b++lG) c Q E
def Binds(K:PySem.W.Frag)(b:FuncData)(ps:List Str)(ds:List Value):Prop:=
 ∀(s:Shared) (a:List Value),K.In s.heap->(a++ds).length=ps.length->BindsTo s b ⟨a,[]⟩ (ps.zip (a++ds))
theorem Binds.all{K:PySem.W.Frag}{a:FuncData}{ps:List Str}(h:∀us:List Value,us.length=ps.length->bindArgs a ⟨us,[]⟩=pure (ps.zip us)):Binds K a ps []:=λs us _ b=>by
 rw[List.append_nil]at b ⊢;exact .of_eq (h us b)
def Passes(CX:mT)(X:Cx)(E:XK):Prop:=∀(pins:List (Addr×Obj)) (b:St) (H:Hp) (s:Shared) (e:Value) (a:Shared),Inv X pins b H s->CX X.stack H s E e a->X.xe e a
section
variable{X:Cx}{CX:mT}{k:Nat}{f C:Addr}{fd:FuncData}{ps:List Str}{sp:Sp}{lG:List V}{ds:List Value}{E:XK}{x m:Str}{p pos apos:Pos}{e o:Expr}{es:List Expr}{ta:TE}{t:TA}
theorem n9{pins:List (Addr×Obj)}{b:St}{H:Hp}{s:Shared}{Q:VK}{us:List Value}{vs:List V}(F:bO X.prog X.w X.K X.mg X.base CX k f fd ps sp)(d:bF k X.A)(g:Binds X.K fd ps ds)(i:Vals lG ds)(j:Passes CX X E)
  (I:Inv X pins b H s) (r:Vals vs us) (h:sp (vs++lG) H Q E):wpAny (model X.prog X.w) X.A (call (.ref f) us) (EP X pins b Q) X.xe s:=by
 have c:Vals (vs++lG) (us++ds):=r.append i;have l:(us++ds).length=ps.length:=by rw[←c.length];exact F.len _ _ _ _ h
 refine wpAny_call (codeAny_mono (F.run X.A X.stack s H ⟨us,[]⟩ (us++ds) (vs++lG) Q E d I.env0 (g s us I.dB l) c h) λr m a=>?_)
 cases r with
 |error e=>exact j pins b H s e m I a
 |ok fl=>
  cases fl with
  |ret u=>exact I.after a
  |next=>exact False.elim a
  |brk=>exact False.elim a
  |cont=>exact False.elim a
theorem iU(F:bO X.prog X.w X.K X.mg X.base CX k f fd ps sp)(c:bF k X.A)(d:Gl X x)(g:X.mg x=some (.ref f))(i:PySem.W.keepIn X.K (.ref f)=true)(j:Binds X.K fd ps ds)(l:Vals lG ds)(m:Passes CX X E)
  (n:PA X (e::es) t) (a:(x==("__debug__":Str))=false:=by decide) (o:starEach (e::es) X.env=(false,eval e X.env)::starEach es X.env:=by rfl) (b:(backTo pos (starEach es X.env)).any (·.1)=false:=by rfl) :
  PE X (.Call (.Name x p) (e::es) [] pos) (uj sp lG E t):=by
 intro pins s u H Q I h;refine wpAny_Call_Name_kw (dq I d g ?_ a);refine PySem.W.callWith_K (h₀:=X.base) I.ok.mod.wZ i (bz (n pos pins s u H _ I h) λy z ⟨B,H1,I1,r,q⟩=>⟨I1.dB,?_⟩) o b
 exact n9 F c j l m I1 r q
theorem n_(F:bO X.prog X.w X.K X.mg X.base CX k f fd ps sp)(b:bF k X.A)(c:Gl X x)(d:X.mg x=some (.ref f))(e:PySem.W.keepIn X.K (.ref f)=true)(g:Binds X.K fd ps ds)(i:Vals lG ds)(j:Passes CX X E)
  (a:(x==("__debug__":Str))=false:=by decide):PE X (.Call (.Name x p) [] [] pos) (uj sp lG E vg):=by
 intro pins s l H Q I h;refine wpAny_Call_Name_kw (dq I c d ?_ a);exact PySem.W.callWith_K0 I.dB e (n9 (us:=[]) F b g i j I .nil h)
structure Mk(K:PySem.W.Frag)(C f:Addr):Prop where
 makes:PySem.W.makesIn K C=true
 init:PySem.W.findIn K (.ref C) "__init__"=some (some (.ref f))
 fn:PySem.W.isFn K (.ref f)=true
 kp:PySem.W.keepIn K (.ref C)=true
end
section
variable{X:Cx}{CX:mT}{k:Nat}{f C:Addr}{fd:FuncData}{ps ks:List Str}{sp:Sp}{E:XK}{x m:Str}{p pos apos Dv:Pos}{e o:Expr}{es:List Expr}{kws:List Keyword}{te ta:TE}{t tk:TA}{nm:Option Str}
variable{g:List Value->List Value->List Value}{gV:List V->List V->List V}
end
structure eQ(N P:List Str)(sc:Scope):Prop where
 kind:sc.kind=.function
 co:sc.isCoroutine=false
 gen:sc.isGenerator=false
 nd:N.Nodup
 pre:N.take P.length=P
 par:∀x∈P,sc.names.lookup x=some .local\/sc.names.lookup x=some .cell
 vj:∀y∈sc.names,y.2≠.free
theorem h9{kindOf:Str->Option NameKind}{x:Str}:∀{binds:List (Str×Value)}{m:Str->Option Value},(∀v,(x,v)∉binds)->bindL kindOf binds m x=m x
 |[],_,_=>rfl
 | (n,v)::r,m,h=>by
  unfold bindL;rw[h9 λw a=>h w (List.mem_cons_of_mem _ a)]
  split
  .have:x≠n:=by rintro rfl;exact h v List.mem_cons_self
   simp[this]
  .rfl
theorem h_{kindOf:Str->Option NameKind}{x:Str}:∀{binds:List (Str×Value)}{m:Str->Option Value},(∀v,(x,v)∉binds)->bindC kindOf binds m x=m x
 |[],_,_=>rfl
 | (n,v)::r,m,h=>by
  unfold bindC;rw[h_ λw a=>h w (List.mem_cons_of_mem _ a)]
  split
  .rfl
  .have:x≠n:=by rintro rfl;exact h v List.mem_cons_self
   simp[this]
theorem ia{kindOf:Str->Option NameKind}{x:Str}{v:Value}:∀{P:List Str}{vs:List Value}{i:Nat}{m:Str->Option Value},P.Nodup->P[i]?=some x->vs[i]?=some v->kindOf x=some .local ->
  bindL kindOf (P.zip vs) m x=some v
 |[],_,_,_,_,h,_,_=>by simp at h
 |_::_,[],_,_,_,_,h,_=>by simp at h
 |p::P,w::vs,0,m,a,h1,h2,hk=>by
  simp at h1 h2;subst h1;subst h2
  show bindL kindOf ((p,w)::P.zip vs) m p=_
  unfold bindL;rw[h9 λv b=>(List.nodup_cons.mp a).1 (List.of_mem_zip b).1,if_pos hk]
  simp
 |p::P,w::vs,i+1,m,a,h1,h2,hk=>by
  show bindL kindOf ((p,w)::P.zip vs) m x=_
  unfold bindL;exact ia (i:=i) (List.nodup_cons.mp a).2 (by simpa using h1) (by simpa using h2) hk
theorem ic{kindOf:Str->Option NameKind}{x:Str}{v:Value}:∀{P:List Str}{vs:List Value}{i:Nat}{m:Str->Option Value},P.Nodup->P[i]?=some x->vs[i]?=some v->kindOf x≠some .local ->
  bindC kindOf (P.zip vs) m x=some v
 |[],_,_,_,_,h,_,_=>by simp at h
 |_::_,[],_,_,_,_,h,_=>by simp at h
 |p::P,w::vs,0,m,a,h1,h2,hk=>by
  simp at h1 h2;subst h1;subst h2
  show bindC kindOf ((p,w)::P.zip vs) m p=_
  unfold bindC;rw[h_ λv b=>(List.nodup_cons.mp a).1 (List.of_mem_zip b).1,if_neg hk]
  simp
 |p::P,w::vs,i+1,m,a,h1,h2,hk=>by
  show bindC kindOf ((p,w)::P.zip vs) m x=_
  unfold bindC;exact ic (i:=i) (List.nodup_cons.mp a).2 (by simpa using h1) (by simpa using h2) hk
noncomputable def start(N:List Str)(vs:List V):St:=vs.map some++List.replicate (N.length - vs.length) none
noncomputable def c5(CX:mT)(P:Program)(w:World)(K:PySem.W.Frag)(mg:Str->Option Value)(base:Heap)(N:List Str)(qual:Str)(scope:Scope)(f:Addr)(b:Value)(A:Around)(outer:List Env)(s:Shared)(H:Hp)(E:XK):Cx where
 prog:=P
 w:=w
 K:=K
 mg:=mg
 base:=base
 A:=A.deeper (envOfC qual scope s.heap.objs.size f b)
 N:=N
 s₀:=s
 H₀:=H
 env:=envOfC qual scope s.heap.objs.size f b
 outer:=outer
 stack:=envOfC qual scope s.heap.objs.size f b::outer
 ex:=[]
 calm:=true
 fn:=λ_=>true
 pn:=[]
 xe:=λe c=>wpAny (model P w) (A.deeper (envOfC qual scope s.heap.objs.size f b)) (leaving (envOfC qual scope s.heap.objs.size f b) e) (λ_ a=>CX outer H s E e a) (λd a=>CX outer H s E d a) c
theorem jK{a:Scope}{n:Nat}{x:Str}(h:a.names.lookup x=some .cell):∃c,(cellsFrom n a.names []).lookup x=some c:=by
 have q:=PySem.W.cellsFrom_some a.names n [] (.inl h);exact Option.isSome_iff_exists.mp q
theorem ie{CX:mT}{P:Program}{w:World}{K:PySem.W.Frag}{C:Str->Option Value}{base:Heap}{N ps:List Str}{qual:Str}{scope:Scope}{f:Addr}{o:Value}{A:Around}{outer:List Env}{s D:Shared}{H:Hp}{E:XK}{us:List Value}{vs:List V}
  (S:eQ N ps scope) (J:A.handled=none) (g:jJ P w K C base A outer s H) (Q:vs.length=ps.length) (r:Vals vs us)
  (x:InCallC s s.heap.objs.size (bindL (envOfC qual scope s.heap.objs.size f o).kindOf (ps.zip us) λ_=>none) (cellsFrom (s.heap.objs.size+1) scope.names []) (bindC (envOfC qual scope s.heap.objs.size f o).kindOf (ps.zip us) λ_=>none) D) :
  Inv (c5 CX P w K C base N qual scope f o A outer s H E) [] (start N vs) H D:=by
 have L:ps.length<=N.length:=by have:=congrArg List.length S.pre;rw[List.length_take]at this;omega
 obtain⟨t,R,rfl,F⟩:=x.done;have j:∀b:Addr,b∉(c5 CX P w K C base N qual scope f o A outer s H E).ex:=λb z=>absurd (show b∈([]:List Addr)from z) (by simp)
 refine⟨⟨g.mod,S.kind,rfl,rfl,Nat.le_refl _,λy z c t d=>?_,λy hy=>?_,λy c _ h=>?_,λ_=>J,Around.frames_deeper g.frames,.inr ⟨rfl,rfl⟩,λb z=>absurd z (j b),g.bs,g.qD,λb _ _=>j b,λb z=>absurd z (j b),g.fm,g.ug⟩,
  rfl,g.bare,Un.kept F,⟨_,x.toInCall.ns,λi y v t d T=>?_⟩,λy c h=>⟨_,x.cell y c h⟩,g.hok.fresh (Nat.le_refl _),λy c h=>?_,λp l=>absurd (show p∈([]:List (Addr×Obj))from l) (by simp),g.hok.kept F,?_⟩
 .exact name_of_addr x.apart (PySem.mem_of_lookup t) (PySem.mem_of_lookup d)
 .have hy:scope.names.lookup y=some .cell\/scope.names.lookup y=some .free:=hy
  rcases hy with hy|hy
  .exact jK hy
  .exact absurd rfl (S.vj _ (PySem.mem_of_lookup hy))
 .exact Nat.le_of_lt (x.above y c (PySem.mem_of_lookup h))
 .have B:i<vs.length:=by
   unfold start at d
   by_cases B:i<vs.length
   .exact B
   .rw[List.getElem?_append_right (by simpa using B)]at d
    rw[List.getElem?_replicate]at d;split at d<;>cases d
  have M:vs[i]?=some v:=by
   unfold start at d;rw[List.getElem?_append_left (by simpa using B),List.getElem?_map]at d
   cases e:vs[i]? with
   |none=>rw[e]at d;cases d
   |some a=>rw[e]at d;cases d;rfl
  obtain⟨u,G,O⟩:=r.get M
  have l:ps[i]?=some y:=by
   rw[←S.pre,List.getElem?_take_of_lt (by omega)];exact t
  have m:ps.Nodup:=by rw[←S.pre];exact S.nd.sublist (List.take_sublist _ _)
  refine⟨u,O,?_⟩;rcases S.par y (List.mem_of_getElem? l)with k|k
  .exact .inl ⟨k,ia m l G k⟩
  .obtain⟨c,e⟩:=jK (n:=s.heap.objs.size+1) k
   refine .inr ⟨.inl k,c,e,?_⟩;have q:=x.cell y c e;rw[ic m l G (by show scope.names.lookup y≠_;rw[k];decide)]at q
   exact q
 .have I:=g.hok.fresh (Nat.le_of_lt (x.above y c (PySem.mem_of_lookup h)))
  exact⟨.inl I,λ_=>I⟩
 .unfold start
  show _=N.length
  rw[List.length_append,List.length_map,List.length_replicate];omega
theorem uk{CX:mT}{P:Program}{w:World}{K:PySem.W.Frag}{B:Str->Option Value}{base:Heap}{k:Nat}{f:Addr}{name qual:Str}{params:Arguments}{body:List Stmt}{scope:Scope}{O kV j R a ct oc:Value}{T od:Option Addr}
  {C:Array (Option Value)}{N ps:List Str}{sp:Sp} (Y:K.lookup f=some ⟨oc,od,.func (PySem.W.fnOf name qual params body scope O kV j R T a ct),C⟩) (D:PySem.W.codeIn K a qual=true) (S:eQ N ps scope)
  (l:∀vs H Q E,sp vs H Q E->vs.length=ps.length)
  (g:∀(A:Around) (outer:List Env) (s:Shared) (H:Hp) (vs:List V) (Q:VK) (E:XK),bF k (A.deeper (envOfC qual scope s.heap.objs.size f a))->sp vs H Q E ->
   ∃t,fT (c5 CX P w K B base N qual scope f a A outer s H E) body t/\t {nx:=λ_ d=>Q .non d,rt:=Q} (start N vs) H) :
  bO P w K B base CX (k+1) f (PySem.W.fnOf name qual params body scope O kV j R T a ct) ps sp:=by
 refine⟨l,λA outer s H args Z vs Q E F m hb r p=>?_⟩
 have hl:=l _ _ _ _ p;have U:K.In s.heap:=m.mod.wZ.keeps λb o e=>(m.bs b o e).1
 have G:s.heap.NoLimit:=m.mod.nolimit.keeps λb o e=>(m.bs b o e).1
 have h:∀y∈ps.zip Z,scope.names.lookup y.1=some .local\/(scope.names.lookup y.1=some .cell/\((cellsFrom (s.heap.objs.size+1) scope.names []).lookup y.1).isSome=true):=λ⟨n,v⟩ hy=>by
  rcases S.par n (List.of_mem_zip hy).1 with q|q
  .exact .inl q
  .exact .inr ⟨q,PySem.W.cellsFrom_some _ _ _ (.inl q)⟩
 refine codeAny_call_function F.depth (U _ _ Y) rfl S.co S.gen rfl (PySem.W.codeRec_of U D) (hb _ _ _ _ ?_);refine wpAny_newFunctionEnv_cells S.kind h λa0 he X x=>?_
 subst he;refine⟨G.keeps x.toInCall.keep,codeAny_func ?_⟩;obtain⟨t,ht,hq⟩:=g A outer s H vs Q E (F.deeper _) p;have I:Inv (c5 CX P w K B base N qual scope f a A outer s H E) [] (start N vs) H X:=ie S F.hd m hl r x;refine wpAny_mono (ht [] X (start N vs) H _ I hq) (λfl L i=>?_) λe L i=>i
 have z:∀{c:St}{d:Hp}{v:V}{u:Value},Inv (c5 CX P w K B base N qual scope f a A outer s H E) [] c d L->RelV v u->Q v d->CE outer P w H s Q u L:=
  λ{c d v u} J M q=>⟨v,d,J.os,J.bare,J.base,J.hok,M,q⟩
 cases fl with
 |ret u=>
  obtain⟨v,c,d,J,M,q⟩:=i;exact z J M q
 |next=>
  obtain⟨c,d,J,q⟩:=i;exact z (v:=V.non) (u:=Value.none) J rfl q
 |brk=>
  obtain⟨_,_,_,q⟩:=i;exact False.elim q
 |cont=>
  obtain⟨_,_,_,q⟩:=i;exact False.elim q
section
variable{X:Cx}{x:Str}{p pos:Pos}{e:Expr}{es:List Expr}{t:TA}{id T:String}{r:List V->Hp->VK->Prop}
noncomputable def zI(r:List V->Hp->VK->Prop)(t:TA):TE:=λa H Q=>t a H λb c=>r b c Q
theorem gj(d:cW X (.builtin id) r)(f:Gl X x)(g:X.mg x=none)(i:bootBuiltins x=some (.builtin id))(j:PA X (e::es) t)(k:x≠"__name__":=by decide)(a:(x==("__debug__":Str))=false:=by decide)
  (l:starEach (e::es) X.env=(false,eval e X.env)::starEach es X.env:=by rfl) (b:(backTo pos (starEach es X.env)).any (·.1)=false:=by rfl):PE X (.Call (.Name x p) (e::es) [] pos) (zI r t):=by
 intro pins s c H Q I h;refine wpAny_Call_Name_kw (eu I f g i ?_ k a);exact PyProof.Rows.callWith_builtin1 (bz (j pos pins s c H _ I h) λm n ⟨o,H1,I1,r1,q1⟩=>d pins n c H1 o m Q I1 r1 q1) l b
theorem mU(d:cW X (.type T) r)(f:Gl X x)(g:X.mg x=none)(i:bootBuiltins x=some (.type T))(j:PA X (e::es) t)(k:x≠"__name__":=by decide)(a:(x==("__debug__":Str))=false:=by decide)
  (l:starEach (e::es) X.env=(false,eval e X.env)::starEach es X.env:=by rfl) (b:(backTo pos (starEach es X.env)).any (·.1)=false:=by rfl):PE X (.Call (.Name x p) (e::es) [] pos) (zI r t):=by
 intro pins s c H Q I h;refine wpAny_Call_Name_kw (eu I f g i ?_ k a);exact PyProof.Rows.callWith_type1 (bz (j pos pins s c H _ I h) λm n ⟨o,H1,I1,r1,q1⟩=>d pins n c H1 o m Q I1 r1 q1) l b
end
end L2
namespace HT
open PySem PyProof.Rows
section
open PySem.SeqAt
open PySem.AutoSeq1 (wpAny_loadPart')
open PySem.MeetsSeq PySem.MeetsSeq2 PySem.MeetsSeq3
end
section
variable{prog:Program}{w:World}{A:Around}{E:Value->Shared->Prop}{s:Shared}
theorem qW{t b:Addr}{vs a:List Value}{Q:Value->Shared->Prop}(x:IsTup s.heap t vs.toArray)(y:IsTup s.heap b a.toArray)(l:vs≠[])
  (z:a=[]->Q (.ref t) s) (B:a≠[]->Q (.ref s.heap.objs.size) {s with heap:=s.heap.push {cls:=.type "tuple",data:=.seq (vs++a).toArray} })
  (k:vs.length+a.length<=sizeLine):wpAny (model prog w) A (binaryOp .Add (.ref t) (.ref b)) Q E s:=by
 obtain⟨⟨cls,m,data,o⟩,i,p,n,q⟩:=id x;obtain⟨⟨r,d,data2,f⟩,c,g,u,h⟩:=id y;simp only at p q g h;subst p q g h;have e:vs.toArray++a.toArray=(vs++a).toArray:=by simp
 by_cases j:a=[]
 .exact concat_meets ⟨_,i,rfl⟩ ⟨_,c,rfl⟩ noFill_tuple_add seq_tuple_add PySem.F.slot_tuple_add PySem.F.entry_tuple_add (PySem.F.args_tuple_add_2 _ _)
   (tuple_addW1 t b vs.toArray a.toArray n u m d o f (by simpa using l) (by simp[j])) ⟨i,c,z j⟩
 .refine concat_meets ⟨_,i,rfl⟩ ⟨_,c,rfl⟩ noFill_tuple_add seq_tuple_add PySem.F.slot_tuple_add PySem.F.entry_tuple_add (PySem.F.args_tuple_add_2 _ _)
   (tuple_addW2 t b vs.toArray a.toArray n u m d o f (by simpa using l) (by simpa using j) (by rw[List.size_toArray,List.size_toArray];exact k)) ⟨i,c,?_⟩
  rw[e];exact B j
noncomputable def bB(n d:Nat):Option Int->Nat
 |none=>d
 |some v=>if v<0 then (v+(n:Int)).toNat else min v.toNat n
theorem jL(n d:Nat):bB n d none=d:=rfl
theorem lH(n d k:Nat):bB n d (some (k:Int))=min k n:=by
 show(if (k:Int)<0 then ((k:Int)+(n:Int)).toNat else min (k:Int).toNat n)=min k n
 rw[if_neg (by omega),Int.toNat_natCast]
theorem iV(n d:Nat)(b:d<=n)(o:Option Int):bB n d o<=n:=by
 cases o with
 |none=>exact b
 |some v=>
  show(if v<0 then (v+(n:Int)).toNat else min v.toNat n)<=n
  by_cases a:v<0
  .rw[if_pos a];omega
  .rw[if_neg a];exact Nat.min_le_right _ _
theorem lJ(v:Int)(n d:Nat):(if v<0 then max (v+(n:Int)) 0 else min v (n:Int))=((bB n d (some v):Nat):Int):=by
 show(if v<0 then max (v+(n:Int)) 0 else min v (n:Int))=(((if v<0 then (v+(n:Int)).toNat else min v.toNat n):Nat):Int)
 by_cases a:v<0
 .simp only[if_pos a];omega
 .simp only[if_neg a];omega
theorem kH(a b:Option Int)(n:Nat):Builtin.Slice.sliceAdjust a b 1 (n:Int)=(((bB n 0 a:Nat):Int),((bB n n b:Nat):Int)):=by
 have c:¬ ((1:Int)<0):=by omega
 unfold Builtin.Slice.sliceAdjust;simp only[c,if_false];refine Prod.ext ?_ ?_
 .cases a with
  |none=>rfl
  |some v=>exact lJ v n 0
 .cases b with
  |none=>rfl
  |some v=>exact lJ v n n
theorem kI(i j:Nat):Builtin.Slice.slicePlaces (i:Int) (j:Int) 1=j - i:=by
 unfold Builtin.Slice.slicePlaces;have a:(1:Int)>0:=by omega
 simp only[a,if_true,Int.ediv_one];split<;>omega
theorem gk{v:Value}{o:Option Int}{Q:Option Int->Shared->Prop}(p:IsPart v o)(h:Q o s):wpAny (model prog w) A (Builtin.Slice.slicePartIndex v) Q E s:=by
 cases p with
 |none=>exact slicePart_none h
 |int i t=>exact slicePart_int h
theorem c_{g:Addr}{e f:Value}{a b:Option Int}{n:Nat}{Q:Int×Int×Nat->Shared->Prop}(i:s.heap.IsSliceOf g e f .none)(pl:IsPart e a)(j:IsPart f b)
  (h:Q (((bB n 0 a:Nat):Int),1,bB n n b - bB n 0 a) s):wpAny (model prog w) A (Builtin.Slice.sliceApplied (.ref g) (pure (n:Int))) Q E s:=by
 obtain⟨l,c,k,d⟩:=id i;unfold Builtin.Slice.sliceApplied Builtin.Slice.sliceFields;refine wpAny_bind (wpAny_bind (wpAny_field c d (x:=e) rfl (wpAny_bind (wpAny_field c d (x:=f) rfl (wpAny_bind (wpAny_field c d (x:=.none) rfl (wpAny_pure ?_)))))));refine wpAny_bind (slicePart_none ?_)
 show wpAny _ _ (if ((1:Int)==0)=true then _ else _) _ _ s
 rw[if_neg (by decide)]
 refine wpAny_bind (gk pl (wpAny_bind (gk j (wpAny_bind (wpAny_pure ?_)))))
 show wpAny _ _ (match Builtin.Slice.sliceAdjust a b 1 (n:Int)with | (a,b)=>pure (a,(1:Int),Builtin.Slice.slicePlaces a b 1)) _ _ s
 rw[kH a b n]
 show wpAny _ _ (pure (((bB n 0 a:Nat):Int),(1:Int),Builtin.Slice.slicePlaces ((bB n 0 a:Nat):Int) ((bB n n b:Nat):Int) 1)) _ _ s
 rw[kI];exact wpAny_pure h
theorem oa(xs:Array Value)(i k:Nat):((List.range k).filterMap λ(m:Nat)=>xs[((i:Int)+(m:Int)*1).toNat]?).toArray=((xs.toList.drop i).take k).toArray:=by
 have e:(λ(m:Nat)=>xs[((i:Int)+(m:Int)*1).toNat]?)=λm=>xs[i+m]?:=by
  funext m
  have:((i:Int)+(m:Int)*1).toNat=i+m:=by omega
  rw[this]
 rw[e];have:=pick_run xs i k;rw[List.filterMap_map]at this;have a:((λx=>xs[x]?) ∘ λx=>i+x)=λm=>xs[i+m]?:=rfl
 rw[a]at this;rw[this]
theorem eR{t e:Addr}{items:Array Value}{k l:Value}{b c:Option Int}{Q:Value->Shared->Prop}(d:IsTup s.heap t items)(n:s.heap.IsSliceOf e k l .none)(pl:IsPart k b)(o:IsPart l c)
  (p:¬ (bB items.size 0 b=0/\bB items.size items.size c=items.size))
  (h:Q (.ref s.heap.objs.size) {s with heap:=s.heap.push {cls:=.type "tuple",data:=.seq ((items.toList.drop (bB items.size 0 b)).take (bB items.size items.size c - bB items.size 0 b)).toArray} })
  (r:items.size<=sizeLine):wpAny (model prog w) A (getItem (.ref t) (.ref e)) Q E s:=by
 have a:sizeOk (.seq ((items.toList.drop (bB items.size 0 b)).take (bB items.size items.size c - bB items.size 0 b)).toArray):=by
  show((items.toList.drop (bB items.size 0 b)).take (bB items.size items.size c - bB items.size 0 b)).toArray.size<=sizeLine
  rw[List.size_toArray,List.length_take,List.length_drop,Array.length_toList];omega
 have y:bB items.size items.size c<=items.size:=iV _ _ (Nat.le_refl _) c;obtain⟨u,f,g,x⟩:=id n;have i:s.TypeIs (.ref e) "slice":=⟨u,f,g⟩;unfold getItem
 try with_reducible refine wpAny_holding ?_
 first|refine wpAny_bind (wpAny_pure ?_)|skip
 refine wpAny_bind (wpAny_sequenceKey d.typeIs (by decide) ?_)
 refine wpAny_bind (wpAny_callSpecial?_slot (name:=Str.ofString "__getitem__") d.typeIs PyProof.Rows.slot_tuple_getitem
  (wpAny_call_entry PyProof.Rows.slot_tuple_getitem d.typeIs entry_tuple_getitem ?_ (args_tuple_getitem _ _)))
 show wpAny _ _ (Builtin.Tuple.tupleItemsOf (.ref t) >>= _) _ _ s
 refine wpAny_bind (tupleItemsOf_ d ?_);refine wpAny_bind (wpAny_typeOf i ?_);rw[if_pos (by decide)]
 refine wpAny_bind (c_ n pl o ?_)
 have j:¬ ((((bB items.size 0 b:Nat):Int)==0&&(1:Int)==1&&(bB items.size items.size c - bB items.size 0 b)==items.size)=true):=by
  intro q;rw[Bool.and_eq_true,Bool.and_eq_true]at q;have z:((bB items.size 0 b:Nat):Int)=0:=eq_of_beq q.1.1;have B:bB items.size items.size c - bB items.size 0 b=items.size:=eq_of_beq q.2;exact p ⟨by omega,by omega⟩
 show wpAny _ _ (if (((bB items.size 0 b:Nat):Int)==0&&(1:Int)==1&&(bB items.size items.size c - bB items.size 0 b)==items.size)=true then _ else _) _ _ s
 rw[if_neg j,oa]
 first
  |exact wpAny_bind (m:=Builtin.Tuple.tupleExact _) (wpAny_newObj_type (wpAny_pure ⟨_,rfl,wpAny_pure h⟩) a)
  |exact wpAny_bind (m:=Builtin.Tuple.tupleExact _) (wpAny_newObj_type (wpAny_bind (wpAny_pure (wpAny_pure ⟨_,rfl,wpAny_pure h⟩))) a)
  |exact wpAny_bind (wpAny_bind (m:=Builtin.Tuple.tupleExact _) (wpAny_newObj_type (wpAny_pure (wpAny_pure ⟨_,rfl,wpAny_pure h⟩)) a))
  |exact wpAny_bind (wpAny_bind (m:=Builtin.Tuple.tupleExact _) (wpAny_newObj_type (wpAny_pure ⟨_,rfl,wpAny_pure h⟩) a))
end
end HT
namespace L2
open PySem PySem.Spec PyProof.Rows
abbrev TO:=St->Hp->(Option Int->Hp->Prop)->Prop
def PO(X:Cx)(e:Option Expr)(t:TO):Prop:=
 ∀(pins:List (Addr×Obj)) (s:Shared) (a:St) (H:Hp) (Q:Option Int->Hp->Prop),Inv X pins a H s->t a H Q ->
  wpAny (model X.prog X.w) X.A (evalPart e X.env) (λu c=>∃o b,Inv X pins a b c/\IsPart u o/\Q o b) X.xe s
noncomputable def lK:TO:=λ_ H Q=>Q none H
noncomputable def xC(t:TE):TO:=λa H Q=>t a H λx b=>∃i,x=.int i/\Q (some i) b
section
variable{X:Cx}{e:Expr}{te:TE}{lo hi:Option Expr}{tl th:TO}{pos p2:Pos}
theorem qX:PO X none lK:=by
 intro pins s a H Q I h;rw[evalPart_none];exact wpAny_pure ⟨none,H,I,.none,h⟩
theorem qY(h:PE X e te):PO X (some e) (xC te):=by
 intro pins s a H Q I b;rw[evalPart_some];refine bz (h pins s a H _ I b) λu c ⟨x,H1,I1,r1,q1⟩=>?_
 obtain⟨i,rfl,q⟩:=q1;obtain⟨t,rfl⟩:=r1;exact⟨some i,H1,I1,.int i t,q⟩
def qZ(X:Cx)(r:V->Option Int->Option Int->Hp->VK->Prop):Prop:=
 ∀(pins:List (Addr×Obj)) (s:Shared) (a:St) (H:Hp) (x:V) (v b c:Value) (d e:Option Int) (f:Addr) (Q:VK),Inv X pins a H s->RelV x v->s.heap.IsSliceOf f b c .none->IsPart b d->IsPart c e->r x d e H Q ->
  ∃T g,typeLookup (.type T) "__getitem__"=pure (some (.builtin g))/\s.TypeIs v T/\wpAny (model X.prog X.w) X.A (getItem v (.ref f)) (EP X pins a Q) X.xe s
theorem qZ.or{r c:V->Option Int->Option Int->Hp->VK->Prop}(h:qZ X r)(h':qZ X c):qZ X (λx a b H Q=>r x a b H Q\/c x a b H Q):=by
 intro pins s d H x v e f a b g Q I i j k l q;rcases q with q|q
 .exact h pins s d H x v e f a b g Q I i j k l q
 .exact h' pins s d H x v e f a b g Q I i j k l q
noncomputable def Dw(r:V->Option Int->Option Int->Hp->VK->Prop)(b:TE)(c d:TO):TE:=λa H Q=>b a H λx e=>c a e λl f=>d a f λu g=>r x l u g Q
theorem dJ{r:V->Option Int->Option Int->Hp->VK->Prop}(g:qZ X r)(i:PE X e te)(j:PO X lo tl)(k:PO X hi th):PE X (.Subscript e (.Slice lo hi none p2) pos) (Dw r te tl th):=by
 intro pins s a H Q I h;refine Subscript_ (bz (i pins s a H _ I h) λv m ⟨x,H1,I1,n,q1⟩=>?_)
 refine wpAny_Slice (bz (j pins m a H1 _ I1 q1) λc o ⟨l,H2,I2,p,q2⟩=>bz (k pins o a H2 _ I2 q2) λd s3 ⟨u,f,t,y,z⟩=>?_)
 rw[evalPart_none];refine wpAny_pure ?_;have B:Inv X pins a f {s3 with heap:=s3.heap.push {cls:=.type "slice",data:=.fields #[c,d,.none]} }:=t.kept (t':=s3.toks) λb F q=>Heap.get?_push_of_some _ q
 obtain⟨T,G,C,D,E⟩:=g pins {s3 with heap:=s3.heap.push {cls:=.type "slice",data:=.fields #[c,d,.none]} } a f x v c d l u s3.heap.objs.size Q B n (Heap.IsSliceOf.new ..) p y z
 show wpAny (model X.prog X.w) X.A (subscriptTail e (.Slice lo hi none p2) v (.ref s3.heap.objs.size)) (EP X pins a Q) X.xe {s3 with heap:=s3.heap.push {cls:=.type "slice",data:=.fields #[c,d,.none]} }
 exact tail_any (ops:=[.ref s3.heap.objs.size,v]) D C E (by with_unfolding_all rfl)
def jM(xs:List V)(a b:Option Int):List V:=(xs.drop (HT.bB xs.length 0 a)).take (HT.bB xs.length xs.length b - HT.bB xs.length 0 a)
theorem fC(xs:List V)(a b:Option Int):(jM xs a b).length<=xs.length:=by
 unfold jM;rw[List.length_take,List.length_drop];omega
def xD(K:PySem.W.Frag):V->Option Int->Option Int->Hp->VK->Prop:=λx c d H Q=>∃a b,x=.ref a/\dC K H a b /\
 ¬ (HT.bB b.length 0 c=0/\HT.bB b.length b.length d=b.length)/\∀p,H p=none->Q (.ref p) (upd H p (.tup (jM b c d)))
theorem gm:qZ X (xD X.K):=by
 intro pins s u H x v w y e f z Q I k l m n h;obtain⟨a,d,rfl,p,t,q⟩:=h;cases k;obtain⟨g,r,i,j⟩:=I.tuple p;have c:g.toArray.size=d.length:=by rw[List.size_toArray];exact r.length.symm
 refine⟨"tuple",_,PyProof.Rows.slot_tuple_getitem.lookup,i.typeIs,?_⟩;refine HT.eR i l m n (by rw[c];exact t) ?_ (by rw[c];exact j)
 rw[c];refine⟨.ref s.heap.objs.size,_,I.laid (t':=s.toks) (o:=.tup (jM d e f)) (λb A q=>Heap.get?_push_of_some _ q) (Nat.le_refl _) ?_,rfl,q _ (I.hok.fresh (Nat.le_refl _))⟩
 exact⟨Nat.le_trans (fC d e f) j,_,(r.drop (HT.bB d.length 0 e)).take (HT.bB d.length d.length f - HT.bB d.length 0 e),IsTup.new _ _⟩
def um(K:PySem.W.Frag):R2:=λx y H Q=>∃a b d c,x=.ref a/\y=.ref b/\dC K H a d/\dC K H b c/\d≠[]/\d.length+c.length<=sizeLine /\
 (c=[]->Q (.ref a) H)/\(c≠[]->∀p,H p=none->Q (.ref p) (upd H p (.tup (d++c))))
theorem Vals.iW{xs:List V}{us:List Value}(r:Vals xs us):us=[]↔xs=[]:=by
 cases r with
 |nil=>simp
 |cons _ _=>simp
theorem q7:dD X (binaryOp .Add) (um X.K):=by
 intro pins s C H x y v u Q I g i h;obtain⟨a,b,j,k,rfl,rfl,l,m,n,e,p,r⟩:=h;cases g;cases i;obtain⟨t,d,A,_⟩:=I.tuple l;obtain⟨f,c,B,_⟩:=I.tuple m;refine HT.qW A B (λz=>n (d.iW.mp z)) (λz=>⟨.ref a,H,I,rfl,p (c.iW.mp z)⟩) (λz=>?_) (by rw[←d.length,←c.length];exact e)
 refine⟨.ref s.heap.objs.size,_,I.laid (t':=s.toks) (o:=.tup (j++k)) (λb D q=>Heap.get?_push_of_some _ q) (Nat.le_refl _) ?_,rfl,r (λw=>z (c.iW.mpr w)) _ (I.hok.fresh (Nat.le_refl _))⟩
 exact⟨by rw[List.length_append];exact e,_,d.append c,IsTup.new _ _⟩
end
noncomputable def mV(n:Nat)(i:Int):Option Nat:=if 0<=i then (if i<n then some i.toNat else none)else if -(n:Int)<=i then some (i+n).toNat else none
def ft{a:Type}(xs:List a)(i:Int):Option a:=(mV xs.length i).bind λj=>xs[j]?
theorem lL{n:Nat}{i:Int}{j:Nat}(h:mV n i=some j):seqIndex? i n=some j/\j<n /\ -(n:Int)<=i/\i<n:=by
 unfold mV at h
 by_cases b:0<=i
 .rw[if_pos b]at h
  by_cases a:i<n
  .rw[if_pos a]at h
   have e:i.toNat=j:=Option.some.inj h;exact⟨by rw[seqIndex_of b a,e],by omega,by omega,a⟩
  .rw[if_neg a]at h;cases h
 .rw[if_neg b]at h
  by_cases a : -(n:Int)<=i
  .rw[if_pos a]at h
   have e:(i+n).toNat=j:=Option.some.inj h;exact⟨by rw[seqIndex_neg (by omega) a,e],by omega,a,by omega⟩
  .rw[if_neg a]at h;cases h
theorem iX{a:Type}{xs:List a}{i:Int}{v:a}(h:ft xs i=some v):∃j,seqIndex? i xs.length=some j/\xs[j]?=some v/\j<xs.length /\ -(xs.length:Int)<=i/\i<xs.length:=by
 unfold ft at h;cases e:mV xs.length i with
 |none=>rw[e]at h;cases h
 |some j=>
  rw[e]at h;obtain⟨b,c,d,f⟩:=lL e;exact⟨j,b,h,c,d,f⟩
theorem eS{a:Type}{xs:List a}{j:Nat}{v:a}(h:xs[j]?=some v):ft xs (j:Int)=some v:=by
 have b:j<xs.length:=(List.getElem?_eq_some_iff.mp h).1
 have e:mV xs.length (j:Int)=some j:=by
  unfold mV;rw[if_pos (by omega),if_pos (by omega)];simp
 unfold ft;rw[e];exact h
def lM(b:Expr):Prop:=∀o i,subscripted b false o i=operate [o,i] (getItem o i)
def q_(X:Cx)(r:R2):Prop:=
 ∀(b a:Expr) (pins:List (Addr×Obj)) (s:Shared) (c:St) (H:Hp) (x y:V) (v u:Value) (Q:VK),Inv X pins c H s->RelV x v->RelV y u->r x y H Q ->
  subscripted a false v u=operate [v,u] (getItem v u)->wpAny (model X.prog X.w) X.A (subscriptTail b a v u) (EP X pins c Q) X.xe s
def Bf(X:Cx)(d:String)(r:V->List V->Hp->VK->Prop):Prop:=
 ∀(pins:List (Addr×Obj)) (s:Shared) (a:St) (H:Hp) (x:V) (b:List V) (v:Value) (c:List Value) (Q:VK),Inv X pins a H s->RelV x v->Vals b c->r x b H Q ->
  wpAny (model X.prog X.w) X.A (call (.builtin d) (v::c)) (EP X pins a Q) X.xe s
section
variable{X:Cx}{a b:Expr}{ta tb:TE}{pos:Pos}
theorem q_.or{r c:R2}(h:q_ X r)(h':q_ X c):q_ X (λx y H Q=>r x y H Q\/c x y H Q):=by
 intro a b pins s d H x y v u Q I e f q g;rcases q with q|q
 .exact h a b pins s d H x y v u Q I e f q g
 .exact h' a b pins s d H x y v u Q I e f q g
theorem og{r:R2}(c:q_ X r)(d:PE X a ta)(e:PE X b tb)(f:lM b):PE X (.Subscript a b pos) (wM r ta tb):=by
 intro pins s g H Q I h;exact Subscript_ (u7 d e I h λv u i x y j k l m q=>c a b pins i g j x y v u Q k l m q (f _ _))
def xE(K:PySem.W.Frag):R2:=λx y H Q=>∃p a i v,x=.ref p/\y=.int i/\fU K H p a/\ft a i=some v/\Q v H
def xF(K:PySem.W.Frag):R2:=λx y H Q=>∃p a i v,x=.ref p/\y=.int i/\dC K H p a/\ft a i=some v/\Q v H
def xG:R2:=λx y H Q=>∃z i c,x=.str z/\y=.int i/\z.length<=sizeLine/\ft z.cps.toList i=some c/\Q (.str ⟨#[c]⟩) H
theorem rb:q_ X (xE X.K):=by
 intro c d pins s l H x y v u Q I A B h m;obtain⟨p,M,i,z,rfl,rfl,C,D,q⟩:=h;cases A;obtain⟨t,rfl⟩:=B;obtain⟨e,r,f,N⟩:=I.list C;obtain⟨j,b,E,O,F,G⟩:=iX D;obtain⟨w,n,g⟩:=r.get E;have J:=r.length;have P:=fo;have a:EP X pins l Q w s:=⟨z,H,I,g,q⟩
 by_cases o:0<=i
 .have k:i.toNat=j:=by
   rw[seqIndex_of o G]at b;exact Option.some.inj b
  exact item_listR f.isList o (by omega) (by rw[k];simpa using n) a m
 .have k:(i+(e.toArray.size:Int)).toNat=j:=by
   rw[seqIndex_neg (by omega) F]at b
   rw[List.size_toArray,←J];exact Option.some.inj b
  exact subscriptTail_builtinR (x:=w) f.isList.typeIs slot_list_getitem.lookup
   (wpAny_getItem_list_neg (Q:=λr L=>r=w/\EP X pins l Q r L) f.isList (by omega) (by rw[List.size_toArray]<;>omega) (by omega) (by rw[k];simpa using n) ⟨rfl,a⟩) m
theorem vk:q_ X (xF X.K):=by
 intro a b pins s e H x y v u Q I g k h l;obtain⟨p,F,i,z,rfl,rfl,m,n,q⟩:=h;cases g;obtain⟨t,rfl⟩:=k;obtain⟨o,r,f,G⟩:=I.tuple m;obtain⟨j,A,B,J,L,M⟩:=iX n;obtain⟨w,C,c⟩:=r.get B;have D:=r.length;have N:=fo;have d:EP X pins e Q w s:=⟨z,H,I,c,q⟩
 exact subscriptTail_builtinR (x:=w) f.typeIs slot_tuple_getitem.lookup
  (getItem_tuple (j:=j) (Q:=λr E=>r=w/\EP X pins e Q r E) f (by omega) (by omega) (by rw[List.size_toArray,←D];exact A) (by simpa using C) ⟨rfl,d⟩) l
theorem vl:q_ X xG:=by
 intro a b pins s w H x y v u Q I e f h g;obtain⟨z,i,c,rfl,rfl,A,k,q⟩:=h;obtain⟨t,rfl⟩:=e;obtain⟨B,rfl⟩:=f;obtain⟨j,d,l,C,m,n⟩:=iX k;have o:z.cps.toList.length=z.length:=by simp[Str.length]
 rw[o]at d m n;have D:=fo
 exact tail_any (typeIs_str s z t) slot_str_getitem.lookup (getItem_str (c:=c) (by
  have p:decide (i < -(2 ^ 63:Int))=false:=decide_eq_false (by omega)
  have r:decide (i≥2 ^ 63)=false:=decide_eq_false (by omega)
  rw[p,r,Bool.or_false]) (by rw[d];simpa using l) ⟨.str ⟨#[c]⟩,H,I.tok _,⟨_,rfl⟩,q⟩) g
def xH(K:PySem.W.Frag):R2:=λx y H Q=>xE K x y H Q\/xF K x y H Q\/xG x y H Q
theorem kJ:q_ X (xH X.K):=rb.or (vk.or vl)
theorem Inv.lst{pins:List (Addr×Obj)}{b:St}{H:Hp}{s:Shared}{p:Addr}{xs:List V}(I:Inv X pins b H s)(h:H p=some (.lst xs)) :
  ∃(a:List Value) (n:Nat),Vals xs a/\s.heap.get? p=some {cls:=.type "list",data:=.seq a.toArray n}/\xs.length<=sizeLine:=by
 obtain⟨z,a,n,r,e⟩:=I.hok p _ h;exact⟨a,n,r,e,z⟩
theorem iY(a b:Option Int)(n:Nat):(sliceBounds a b none n).1=((HT.bB n 0 a:Nat):Int)/\(sliceBounds a b none n).2.1=((HT.bB n n b:Nat):Int)/\(sliceBounds a b none n).2.2=1:=by
 refine⟨?_,?_,rfl⟩
 .cases a with
  |none=>simp[sliceBounds,HT.bB]
  |some i=>
   simp only[sliceBounds,HT.bB,Option.getD_none,show(1:Int)>0 by decide,if_true]
   by_cases h:i<0
   .simp only[h,if_true]<;>omega
   .simp only[h,if_false]<;>omega
 .cases b with
  |none=>simp[sliceBounds,HT.bB]
  |some i=>
   simp only[sliceBounds,HT.bB,Option.getD_none,show(1:Int)>0 by decide,if_true]
   by_cases h:i<0
   .simp only[h,if_true]<;>omega
   .simp only[h,if_false]<;>omega
theorem hJ(a:List Value)(b c:Option Int):slicePick a.toArray b c none=((a.drop (HT.bB a.length 0 b)).take (HT.bB a.length a.length c - HT.bB a.length 0 b)).toArray:=by
 obtain⟨d,e,f⟩:=iY b c a.toArray.size;unfold slicePick;rw[d,e,f];simp only[sliceRange_one,pick_run,List.size_toArray]<;>rfl
def xI(K:PySem.W.Frag):V->Option Int->Option Int->Hp->VK->Prop:=λx c d H Q=>∃a b,x=.ref a/\fU K H a b/\∀p,H p=none->Q (.ref p) (upd H p (.lst (jM b c d)))
theorem eT:qZ X (xI X.K):=by
 intro pins s t H x v u w e f y Q I i j k l h;obtain⟨a,c,rfl,m,q⟩:=h;cases i;obtain⟨n,r,g,p⟩:=I.list m;have d:=r.length;refine⟨"list",_,slot_list_getitem.lookup,g.isList.typeIs,?_⟩;refine wpAny_getItem_list_slice g.isList j k l .none (by simp) ?_ (by rw[List.size_toArray]<;>omega)
 rw[hJ,←d];refine⟨.ref s.heap.objs.size,_,I.laid (t':=s.toks) (o:=.lst (jM c e f)) (λb z q=>Heap.get?_push_of_some _ q) (Nat.le_refl _) ?_,rfl,q _ (I.hok.fresh (Nat.le_refl _))⟩
 exact⟨Nat.le_trans (fC c e f) p,_,0,(r.drop (HT.bB c.length 0 e)).take (HT.bB c.length c.length f - HT.bB c.length 0 e),Heap.get?_push_size _ rfl⟩
theorem eU:cW X (.builtin "len") (λxs H Q=>∃p b,xs=[.ref p]/\(fU X.K H p b\/dC X.K H p b)/\Q (.int b.length) H):=by
 intro pins s i H xs j Q I r h;obtain⟨p,b,rfl,hq,q⟩:=h;obtain⟨u,rfl,f⟩:=vals1 r;cases f;have k:=fo;rcases hq with hq|hq
 .obtain⟨c,d,e,g⟩:=I.list hq
  have a:=d.length;exact Calls.call_len_list e.isList (by simp only[List.size_toArray]<;>omega) ⟨.int b.length,H,I.tok _,⟨s.toks+1,by rw[List.size_toArray,a]⟩,q⟩
 .obtain⟨c,d,e,g⟩:=I.tuple hq
  have a:=d.length;exact len_tuple e (by simp only[List.size_toArray]<;>omega) ⟨.int b.length,H,I.tok _,⟨s.toks+1,by rw[List.size_toArray,a]⟩,q⟩
theorem iZ:cW X (.builtin "len") (λxs H Q=>∃z,xs=[.str z]/\z.length<=sizeLine/\Q (.int z.length) H):=by
 intro pins s a H xs b Q I r h;obtain⟨z,rfl,c,q⟩:=h;obtain⟨u,rfl,t,rfl⟩:=vals1 r;have d:=fo;exact len_str (by omega) ⟨.int z.length,H,I.tok _,⟨_,rfl⟩,q⟩
theorem i3:cW X (.type "list") (λxs H Q=>∃p d,xs=[.ref p]/\(fU X.K H p d\/dC X.K H p d)/\∀l,H l=none->Q (.ref l) (upd H l (.lst d))):=by
 intro pins s B H xs D Q I r h;obtain⟨p,d,rfl,hq,q⟩:=h;obtain⟨u,rfl,C⟩:=vals1 r;cases C
 have i:∀(a:List Value),Vals d a->d.length<=sizeLine->∀(c:Heap) (f:Nat),(∀b A,s.heap.get? b=some A->c.get? b=some A) ->
   c.get? s.heap.objs.size=some {cls:=.type "list",dict:=none,data:=.seq a.toArray f,slots := #[]}->EP X pins B Q (.ref s.heap.objs.size) {s with heap:=c}:=λa g j c f k e=>
  ⟨.ref s.heap.objs.size,_,I.laid (t':=s.toks) k (Nat.le_refl _) (show bA X.prog X.w _ c _ (.lst d)from⟨j,a,f,g,e⟩),rfl,q _ (I.hok.fresh (Nat.le_refl _))⟩
 rcases hq with hq|hq
 .obtain⟨a,g,t,j⟩:=I.list hq
  have m:=g.length;obtain⟨o,x,y,n,z⟩:=t.isList;exact call_list_seq p (.inl rfl) x y z (λc f k e=>i a g j c f k e) (by simp only[List.size_toArray]<;>omega)
 .obtain⟨a,g,t,j⟩:=I.tuple hq
  have m:=g.length;obtain⟨o,x,y,n,z⟩:=t;exact call_list_seq p (.inr rfl) x y z (λc f k e=>i a g j c f k e) (by simp only[List.size_toArray]<;>omega)
theorem hP:cW X (.type "tuple") (λxs H Q=>∃p c,xs=[.ref p]/\((fU X.K H p c/\∀l,H l=none->Q (.ref l) (upd H l (.tup c)))\/(dC X.K H p c/\Q (.ref p) H))):=by
 intro pins s j H xs z Q I r h;obtain⟨p,c,rfl,h⟩:=h;obtain⟨u,rfl,t⟩:=vals1 r;cases t;rcases h with ⟨f,q⟩|⟨f,q⟩
 .obtain⟨a,g,i,k⟩:=I.list f
  have m:=g.length;refine call_tuple_list i.isList (λd x=>?_) (by simp only[List.size_toArray]<;>omega)
  have n:Inv X pins j H {s with heap:=d}:=I.kept (t':=s.toks) x
  have y:Inv X pins j (upd H d.objs.size (.tup c)) {s with heap:=d.push {cls:=.type "tuple",data:=.seq a.toArray} }:=
   n.laid (t':=s.toks) (λb o e=>Heap.get?_push_of_some _ e) (Nat.le_refl _) (show bA X.prog X.w _ _ _ (.tup c)from⟨k,a,g,IsTup.new _ _⟩)
  exact⟨.ref d.objs.size,_,y,rfl,q _ (n.hok.fresh (Nat.le_refl _))⟩
 .obtain⟨a,g,i,k⟩:=I.tuple f
  exact call_tuple_same i ⟨.ref p,H,I,rfl,q⟩
def xJ(K:PySem.W.Frag)(T:String)(x:V)(H:Hp):Prop:=match x with
 |.str _=>T="str"
 |.int _=>T="int"
 |.ref p=>(T="list"/\∃b,fU K H p b)\/(T="tuple"/\∃o,K.lookup p=some o/\o.cls=.type "tuple"/\o.dict=none) \/
   (T="dict"/\((∃a,H p=some (.dK a))\/∃a,H p=some (.dT a)))\/(T="set"/\∃S n,H p=some (.set S n))
 |_=>False
theorem vm{pins:List (Addr×Obj)}{m:St}{H:Hp}{s:Shared}{T:String}{x:V}{v:Value}(I:Inv X pins m H s)(r:RelV x v)(f:xJ X.K T x H) :
  s.TypeIs v T/\∀a,v=.ref a->∃k,s.heap.get? a=some k/\k.dict=none:=by
 cases x with
 |str z=>
  obtain⟨t,rfl⟩:=r;cases (show T="str" from f)
  exact⟨typeIs_str s z t,λ_ e=>nomatch e⟩
 |int i=>
  obtain⟨t,rfl⟩:=r;cases (show T="int" from f)
  exact⟨typeIs_int s i t,λ_ e=>nomatch e⟩
 |ref p=>
  cases r;rcases f with ⟨rfl,y,q⟩|⟨rfl,o,b,u,g⟩|⟨rfl,b⟩|⟨rfl,S,n,b⟩
  .obtain⟨w,_,l,_⟩:=I.list q
   refine⟨l.isList.typeIs,λa e=>?_⟩
   cases e;obtain⟨o,n,e,c,g,_⟩:=l;exact⟨o,e,g⟩
  .refine⟨⟨o,I.dB p o b,u⟩,λa e=>?_⟩
   cases e;exact⟨o,I.dB _ o b,g⟩
  .have z:∃o,s.heap.get? p=some o/\o.ExactDict:=by
    rcases b with ⟨h,b⟩|⟨h,b⟩
    .obtain⟨_,_,_,_,o,_,_,e,d,_⟩:=I.hok p _ b
     exact⟨o,e,d⟩
    .obtain⟨_,_,_,_,o,_,_,e,d,_⟩:=I.hok p _ b
     exact⟨o,e,d⟩
   obtain⟨o,e,d⟩:=z;refine⟨⟨o,e,d.1⟩,λa j=>?_⟩
   cases j;exact⟨o,e,d.2.1⟩
  .obtain⟨o,_,_,_,e,d,_⟩:=I.hok p _ b
   refine⟨⟨o,e,d.1⟩,λa j=>?_⟩
   cases j;exact⟨o,e,d.2.1⟩
 |_=>exact False.elim f
noncomputable def Dx(K:PySem.W.Frag)(T:String)(r:V->List V->Hp->VK->Prop)(c:TE)(t:TA):TE:=λa H Q=>c a H λx b=>xJ K T x b/\t a b λd e=>r x d e Q
variable{o e:Expr}{es:List Expr}{to:TE}{t:TA}{name:Str}{apos cpos:Pos}{T id:String}{r:V->List V->Hp->VK->Prop}
theorem xM(j:PlainAttrs T)(slot:Slot T name id)(f:typeOf (.builtin id)=pure (.type "method_descriptor"))(k:Bf X id r)(l:PE X o to)(m:PA X (e::es) t)
  (b:attributeBase o name X.env (eval o X.env)=eval o X.env:=by rfl)
  (d:((backTo cpos (starEach (e::es) X.env)).all (λx=>!x.1)&&(backToKw cpos (keywordEach [] X.env)).all (λx=>x.1.isSome)
   && decide ((e::es).length+([]:List Keyword).length+(if ([]:List Keyword).isEmpty then 0 else 1)<30))=true:=by rfl)
  (c:(apos.endLine==cpos.line)=true:=by rfl) (n:starEach (e::es) X.env=(false,eval e X.env)::starEach es X.env:=by rfl) (a:(backTo cpos (starEach es X.env)).any (·.1)=false:=by rfl) :
  PE X (.Call (.Attribute o name apos) (e::es) [] cpos) (Dx X.K T r to t):=by
 intro pins s g H Q I h;refine wpAny_Call_method_late b d c rfl (bz (l pins s g H _ I h) λv p ⟨x,H1,I1,r1,ty,q1⟩=>?_)
 obtain⟨q,u⟩:=vm I1 r1 ty;refine⟨T,id,j,slot,f,q,u,?_⟩;have i:=m cpos pins p g H1 _ I1 q1;rw[n]at i ⊢;refine Calls.callWith_builtin (by show(false||(backTo cpos (starEach es X.env)).any (·.1))=false;rw[a]<;>rfl) (Calls.evalArgs_plain ?_)
 exact bz i λw y ⟨z,A,B,C,D⟩=>k pins y g A x z v w Q B r1 C D
end
def Cn(X:Cx)(d:String)(r:V->List V->Hp->VK->Prop):Prop:=
 ∀(pins:List (Addr×Obj)) (s:Shared) (a:St) (H:Hp) (x:V) (b:List V) (v:Value) (c:List Value) (Q:VK),Inv X pins a H s->RelV x v->Vals b c->r x b H Q ->
  wpAny (model X.prog X.w) X.A (call (.builtin d) (v::c)) (EP X pins a Q) X.xe s
theorem Vals.one:∀{x:V}{us:List Value},Vals [x] us->∃u,us=[u]/\RelV x u
 |_,_,.cons r .nil=>⟨_,rfl,r⟩
theorem Vals.eraseIdx:∀{xs:List V}{us:List Value} (i:Nat),Vals xs us->Vals (xs.eraseIdx i) (us.eraseIdx i)
 |_,_,_,.nil=>.nil
 |_,_,0,.cons _ t=>t
 |_,_,i+1,.cons r t=>.cons r (Vals.eraseIdx i t)
theorem ig{a:Type}:∀(l:List a) (i:Nat),(l.eraseIdx i).length<=l.length
 |[],_=>Nat.le_refl _
 |_::_,0=>Nat.le_succ _
 |_::r,i+1=>Nat.succ_le_succ (ig r i)
section
variable{X:Cx}{pins:List (Addr×Obj)}{σ:St}{H:Hp}{s:Shared}{l b:Addr}{xs ys zs:List V}
theorem Inv.xO{a its':List Value}{n:Nat}{f:Array Value->Array Value}{t':Nat}(I:Inv X pins σ H s)(b:H l=some (.lst xs))
  (e:s.heap.get? l=some {cls:=.type "list",data:=.seq a.toArray n}) (c:f a.toArray=its'.toArray) (d:Vals ys its') (g:ys.length<=sizeLine) :
  Inv X pins σ (upd H l (.lst ys)) {s with heap:=s.heap.update l (Obj.mapSeq f),toks:=t' }:=by
 have q:=PySem.IsL.update e f;rw[c]at q;refine I.write (x:=l) (e:=l) (by rw[b];exact trivial) (.inl rfl) (λj u h i=>(Heap.get?_update_other s.heap (Obj.mapSeq f) (Ne.symm h)).trans i) ⟨_,q⟩ ?_
 exact⟨g,its',_,d,q⟩
theorem Inv.Bg{a:List Value}{t':Nat}(I:Inv X pins σ H s)(b:Vals ys a)(c:ys.length<=sizeLine) :
  Inv X pins σ (upd H s.heap.objs.size (.lst ys)) {s with heap:=s.heap.push {cls:=.type "list",data:=.seq a.toArray},toks:=t' }:=
 I.laid (λ_ _ q=>Heap.get?_push_of_some _ q) (Nat.le_refl _) ⟨c,a,0,b,Heap.get?_push_size _ rfl⟩
theorem Inv.fresh(I:Inv X pins σ H s):H s.heap.objs.size=none:=I.hok.fresh (Nat.le_refl _)
theorem Inv.xP(I:Inv X pins σ H s)(b:H l=some (.lst xs)):xs.length<=sizeLine/\∃(a:List Value) (n:Nat),Vals xs a/\xs.length=a.length/\s.heap.get? l=some {cls:=.type "list",data:=.seq a.toArray n}:=by
 obtain⟨z,a,n,r,e⟩:=I.hok l _ b;exact⟨z,a,n,r,r.length,e⟩
end
section
variable{X:Cx}
def lN:V->List V->Hp->VK->Prop:=λx b H Q=>∃l a y,x=.ref l/\b=[y]/\H l=some (.lst a)/\a.length<sizeLine/\Q .non (upd H l (.lst (a++[y])))
theorem ij:Cn X "list.append" lN:=by
 intro pins s g H x i v j Q I c d h;obtain⟨l,k,y,rfl,rfl,b,m,q⟩:=h;cases c;obtain⟨u,rfl,f⟩:=d.one;obtain⟨z,a,n,r,o,e⟩:=I.xP b;refine call_meets F.slot_list_append ⟨_,e,rfl⟩ F.entry_list_append (F.args_list_append_2 _ _) (PySem.list_append l a.toArray n u (by rw[List.size_toArray];omega)) ⟨e,?_⟩
 refine⟨.non,_,I.xO (its':=a++[u]) b e (by simp) (r.append (.cons f .nil)) ?_,rfl,q⟩
 rw[List.length_append,List.length_singleton];omega
def oh:V->List V->Hp->VK->Prop:=λx b H Q=>∃l a i k y,x=.ref l/\b=[.int i]/\H l=some (.lst a) /\ -(2 ^ 63)<=i/\i<2 ^ 63/\seqIndex? i a.length=some k/\a[k]?=some y/\Q y (upd H l (.lst (a.eraseIdx k)))
theorem oi:Cn X "list.pop" oh:=by
 intro pins s D H x E v G Q I d f h;obtain⟨l,g,i,k,y,rfl,rfl,c,j,m,o,p,q⟩:=h;cases d;obtain⟨u,rfl,A⟩:=f.one;obtain⟨t,rfl⟩:=A;obtain⟨z,a,n,r,B,e⟩:=I.xP c;obtain⟨w,C,b⟩:=r.get p
 refine call_meets F.slot_list_pop ⟨_,e,rfl⟩ F.entry_list_pop (F.args_list_pop_2 _ _)
  (MeetsSeq.list_pop_at l a.toArray n i t k w (fitsIndex_both j m) (by rw[List.size_toArray,←B];exact o) (by rw[←Array.getElem?_toList];exact C) (by rw[List.size_toArray];omega)) ⟨e,?_⟩
 refine⟨y,_,I.xO (its':=a.eraseIdx k) c e ?_ (r.eraseIdx k) ?_,b,q⟩
 .show a.toArray.eraseIdxIfInBounds k=(a.eraseIdx k).toArray
  rw[List.eraseIdxIfInBounds_toArray]
 .have:=ig g k
  omega
end
section
variable{prog:Program}{w:World}{A:Around}{E:Value->Shared->Prop}{s:Shared}
end
section
variable{X:Cx}
end
section
variable{κ:Type}[DecidableEq κ]
noncomputable def vn(a:List (κ×V))(k:κ):Option V:=(a.find? λb=>decide (b.1=k)).map (·.2)
noncomputable def putK(a:List (κ×V))(k:κ)(v:V):List (κ×V):=
 if (a.any λb=>decide (b.1=k))=true then a.map (λb=>if b.1=k then (b.1,v)else b)else a++[(k,v)]
theorem eM.getD{o:Option V}{u:Option Value}{d:V}{d':Value}(r:eM o u)(a:RelV d d'):RelV (o.getD d) (u.getD d'):=by
 cases o with
 |none=>cases u with
  |none=>exact a
  |some _=>exact(show False from r).elim
 |some _=>cases u with
  |none=>exact(show False from r).elim
  |some _=>exact r
theorem KV.length{a:List (κ×V)}{vs:List (κ×Value)}(r:KV a vs):a.length=vs.length:=Paired.length r
end
abbrev KT(H:Hp):List (List Key×V)->List (List Key×Addr×Value)->Prop:=Paired λp q=>p.1=q.1/\H q.2.1=some (.tup (p.1.map kV))/\RelV p.2 q.2.2
section
variable{P:Program}{w:World}{H:Hp}{h:Heap}{a:Addr}
end
def xQ(H:Hp)(a:Addr)(y:V)(r:Option V):Prop:=
 (∃c k,Rd H a (.dK c)/\y=kV k/\r=vn c k)\/∃c k b,Rd H a (.dT c)/\y=.ref b/\H b=some (.tup (k.map kV))/\r=vn c k
def xR(H:Hp)(a:Addr)(y v:V)(d:Hp):Prop:=
 (∃c k,H a=some (.dK c)/\y=kV k/\c.length<sizeLine/\d=upd H a (.dK (putK c k v))) \/
 ∃c k b,H a=some (.dT c)/\y=.ref b/\H b=some (.tup (k.map kV))/\c.length<sizeLine/\d=upd H a (.dT (putK c k v))
theorem xQ.k{H:Hp}{a:Addr}{b:List (Key×V)}{k:Key}(e:H a=some (.dK b)):xQ H a (kV k) (vn b k):=.inl ⟨b,k,.inl e,rfl,rfl⟩
theorem xR.k{H:Hp}{a:Addr}{b:List (Key×V)}{k:Key}{v:V}(e:H a=some (.dK b))(c:b.length<sizeLine):xR H a (kV k) v (upd H a (.dK (putK b k v))):=.inl ⟨b,k,e,rfl,c,rfl⟩
section
variable{X:Cx}{pins:List (Addr×Obj)}{σ:St}{H:Hp}{s:Shared}{a:Addr}{y v:V}{u r:Value}{o:Option V}{A:Around}{E:Value->Shared->Prop}
end
section
variable{X:Cx}{pins:List (Addr×Obj)}{σ:St}{H:Hp}{s:Shared}{a:Addr}{kvs:List (Key×V)}{k:Key}{u:Value}{A:Around}{E:Value->Shared->Prop}
end
section
variable{X:Cx}{o i e value:Expr}{pos pos' tpos:Pos}{td ty tv:TE}
end
section
variable{X:Cx}{pos:Pos}
end
section
variable{X:Cx}{pins:List (Addr×Obj)}{σ:St}{H:Hp}{s:Shared}{a:Addr}{y d:V}{u r:Value}{o:Option V}{A:Around}{E:Value->Shared->Prop}
end
section
variable{X:Cx}{o e f:Expr}{apos cpos:Pos}{td ty tx:TE}
end
section
variable{X:Cx}{pins:List (Addr×Obj)}{σ:St}{H:Hp}{s:Shared}{a:Addr}{kvs:List (Key×V)}{A:Around}{E:Value->Shared->Prop}
end
section
variable{X:Cx}{pins:List (Addr×Obj)}{σ:St}{H:Hp}{s:Shared}{a:Addr}{y:V}{u:Value}{A:Around}{E:Value->Shared->Prop}
end
end L2
namespace Co
open PySem PySem.W PySem.Calls PyProof.Rows
theorem fQ{P:Params}{h:Heap}:∀(ns:List Int) (vs:List Value),WellAll P h vs (ns.map WData.int)->IntsAre vs ns:=by
 intro ns
 induction ns with
 |nil=>
  intro vs w;rw[List.map_nil]at w;cases w;exact .nil
 |cons n ns c=>
  intro vs w;rw[List.map_cons]at w;cases w with
  |cons a b=>
   cases a;exact .cons _ _ (c _ b)
theorem mW{l:OpenLaw}{n:Nat}(o:l.most=some n){P:Params}{h:Heap}{args:List WData}{b:List Value}
  (c:l.row.toRowW.claim.pre args=true) (j:WellAll P h b args) :
  ∃a vs ns,b=[Value.ref a]/\args=[WData.list (ns.map WData.int)]/\h.get? a=some {cls:=.type "list",data:=.seq vs.toArray}/\IntsAre vs ns/\ns.length<=n:=by
 have k:WShape.hasAll [] args [.list .int]=true:=(pre_splitW c).1;have m:l.pre.holds [] {args:=args}=true:=(pre_splitW c).2;obtain⟨d,r,rfl,p,s⟩:=hasAllW_cons k;obtain rfl:=hasAllW_nil s;obtain⟨z,rfl,t⟩:=hasW_list p;obtain⟨ns,rfl⟩:=items_int t
 have e:ns.length<=n:=by
  unfold OpenLaw.pre at m
  have g:(WTm.not (.lt (.lit (.int (n:Int))) (.len (.arg 0)))).holds [] {args:=[.list (ns.map .int)]}=true:=by
   have g:=(holds_andW m).1;rw[o]at g;exact g
  have i:=condW_of g (w_not (w_lt w_lit (w_len_list (w_arg rfl))));rw[List.length_map]at i;refine Nat.le_of_not_lt λq=>?_
  have u:(n:Int)<((ns.length:Nat):Int):=by omega
  first
   | (rw[decide_eq_true u]at i;exact absurd i (by decide))
   | (simp at i;omega)
 cases j with
 |cons w x=>
  cases x;cases w with
  |list y f=>exact⟨_,_,ns,rfl,rfl,y,fQ ns _ f,e⟩
theorem mX(l:OpenLaw)(args:List WData):l.row.toRowW.claim.post args (.bool true) args=true:=
 postW_of (r:=l.row.toRowW) (X:=(true==true))
  (show WShape.has [] (.bool true) .bool=true by first|rfl|decide|simp[WShape.has,WShape.arms,WShape.armsAll])
  (show(WTm.eq .res (.lit (.bool true))).value [] {args:=args,res:=some (.bool true),after:=args}=some (.bool (true==true))from w_eq_bool (w_res rfl) w_lit) rfl
theorem jN{l:OpenLaw}{n:Nat}{q:Program}{c:List Str}{C:(Str->Option Value)->Heap->Prop}{D:World->Heap->Prop}{d:DefRec}
  (I:l.most=some n) (u:d.params.defaults=[])
  (call:∀(w:World) (e b:Shared) (p x:Str->Option Value) (i:Addr) (o:Obj) (y s g:Value) (a:Addr) (vs:List Value) (ns:List Int),
   Ground q c [] C w e p x b.heap->D w b.heap ->
   b.heap.get? i=some o->o.data=.func (docDef d.name d.params d.body d.scope y s g)->b.heap.CodeRec s d.name->p d.name=some (.ref i) ->
   b.heap.get? a=some {cls:=.type "list",data:=.seq vs.toArray}->IntsAre vs ns->ns.length<=n->b.gens = #[] ->
   codeAny (model l.prog w) callerA (.call (.ref i) ⟨[.ref a],[]⟩) (λr t=>r=.ok (.ret (.bool true))/\OldK b.heap t.heap/\t.os=b.os/\AllBare t.gens) b) :
  WalkO q c C D l.row.toRowW d [] (λf vs=>PySem.call f vs):=by
 intro w e b p x G Y i o y s g J kV K L z E A M args F U j H N B O;obtain rfl:J=.none:=Dflts.none E u;obtain rfl:kV=.none:=Dflts.noKw E;obtain⟨a,vs,ns,rfl,rfl,k,h,m⟩:=mW I j B;refine enter_call (codeAny_mono (call w e b p x i o y s g a vs ns G Y K (fd_plain L) z A k h m M) λr t P=>?_)
 obtain⟨rfl,Q,R,S⟩:=P;exact⟨.inl ⟨.bool true,.bool true,[],rfl,λ_=>rfl,.bool true,mX l _,λ_=>⟨List.Pairwise.nil,λ_ T=>(nomatch T)⟩⟩,Q,R,S⟩
section
variable{prog:Program}{w:World}{A:Around}{E:Value->Shared->Prop}{s:Shared}{K:Frag}
end
end Co
namespace L2
open PySem PySem.Spec PyProof.Rows
theorem ik:∀{vs:List Value}{ns:List Int},IntsAre vs ns->Vals (ns.map V.int) vs
 |_,_,.nil=>.nil
 |_,_,.cons n t h=>.cons ⟨t,rfl⟩ (ik h)
def Only(H:Hp):Prop:=∀b,H b=none\/∃o a,H b=some (.eK o (.lst a))
theorem oj{P:Program}{w:World}{K:PySem.W.Frag}{t M:Str->Option Value}{CX:mT}{k:Nat}{N a:Addr}{X:FuncData}{x:Str}{sp:Sp}{c:Shared}{vs:List Value}{ns:List Int}
  (Y:K.In c.heap) (y:c.heap.Ns mainGlobals t) (g:c.heap.Ns builtinsNs M) (O:∀x:Str,x≠"__name__"->M x=bootBuiltins x) (A:c.heap.NoLimit) (hg:c.gens = #[])
  (L:c.heap.get? a=some {cls:=.type "list",data:=.seq vs.toArray}) (Z:IntsAre vs ns) (hl:ns.length<=sizeLine) (hr:bF k callerA)
  (F:∀base:Heap,K.In base->base.Ns mainGlobals t->bO P w K t base CX k N X [x] sp) (p:∀(s:Shared) (u:Value),BindsTo s X ⟨[u],[]⟩ [(x,u)])
  (Q:∀H:Hp,Only H->fU K H a (ns.map V.int)->sp [.ref a] H (λv _=>v=.bl true) λ_ _ _=>False)
  (R:∀H e i,CX [] H c (λ_ _ _=>False) e i->False) :
  codeAny (model P w) callerA (.call (.ref N) ⟨[.ref a],[]⟩) (λr i=>r=.ok (.ret (.bool true))/\OldK c.heap i.heap/\i.os=c.os/\AllBare i.gens) c:=by
 have rv:=ik Z;have B:=Z.length
 have l:∀H:Hp,Only H->fU K H a (ns.map V.int)->fO P w H c.heap->(∀b,H b≠none->b=a)->(H a≠none->K.lookup a=none) ->
   codeAny (model P w) callerA (.call (.ref N) ⟨[.ref a],[]⟩) (λr i=>r=.ok (.ret (.bool true))/\OldK c.heap i.heap/\i.os=c.os/\AllBare i.gens) c:=by
  intro H hO hS C hA hK;have f:∀{b:Addr}{o:Obj},c.heap.get? b=some o->H b=none->(iN c.heap H).get? b=some o:=λe n=>nR e n
  have S:∀{b:Addr}{o:Obj}{D:Array DictEntry}{E:Nat},c.heap.get? b=some o->o.data=.dict D E->H b=none:=λ{b o D E} e d=>by
   cases q:H b with
   |none=>rfl
   |some u=>
    have T:b=a:=hA b (by rw[q];simp)
    subst T;rw[L]at e;cases e
    have d':Data.seq vs.toArray _=Data.dict D E:=d;cases d'
  have j:∀{b:Addr}{m:Str->Option Value},c.heap.Ns b m->(iN c.heap H).Ns b m:=λ{b m} ⟨o,D,E,e,d,r⟩=>⟨o,D,E,f e (S e d),d,r⟩
  have G:K.In (iN c.heap H):=λb o e=>f (Y b o e) (by
   cases q:H b with
   |none=>rfl
   |some u=>
    have T:b=a:=hA b (by rw[q];simp)
    subst T;rw[hK (by rw[q];simp)]at e;cases e)
  have hM:Mod K t (iN c.heap H):=⟨G,j y,⟨M,j g,O⟩,let ⟨mc,h1,h2⟩:=A;⟨mc,j h1,h2⟩⟩
  have e0:jJ P w K t (iN c.heap H) callerA [] c H:=⟨rfl,hM,λb o e=>qH e,Nat.le_of_eq (mM _ _),trivial,λb g=>absurd (show b∈([]:List Addr)from g) (by simp),C,.of_eq hg⟩
  refine codeAny_mono ((F _ G (j y)).run callerA [] c H ⟨[.ref a],[]⟩ [.ref a] [.ref a] _ _ hr e0 (p c (.ref a)) (.cons rfl .nil) (Q H hO hS)) λr i h=>?_
  cases r with
  |error e=>exact(R H e i h).elim
  |ok fl=>
   cases fl with
   |next=>exact False.elim h
   |brk=>exact False.elim h
   |cont=>exact False.elim h
   |ret u=>
    obtain⟨v,H',os,bare,un,I,r',q⟩:=h;have q':v=.bl true:=q;subst q';obtain rfl:u=Value.bool true:=r';refine⟨rfl,OldK.of_keep λb o e=>?_,os,bare⟩
    cases q:H b with
    |none=>exact un.keep b o e q (by intro z;exact absurd (show b∈([]:List Addr)from z) (by simp)) (by simp)
    |some u=>
     rcases hO b with z|⟨ob,xs,z⟩
     .rw[q]at z;cases z
     .have z2:=un.fk b ob _ z
      obtain⟨e1,_⟩:=C b _ z;obtain⟨e2,_⟩:=I b _ z2;rw[e]at e1;cases e1
      exact e2
 cases U:K.lookup a with
 |some o=>
  have e:=Y a o U;rw[L]at e;cases e;refine l (λ_=>none) (λ_=>.inl rfl) (.inr ⟨_,vs.toArray,_,U,rfl,rfl,rfl,by rw[List.size_toArray,B];exact hl,by simpa using rv⟩) (λb u z=>by have J:(none:Option HO)=some u:=z;cases J) (λb z=>absurd rfl z) λz=>absurd rfl z
 |none=>
  refine l (λb=>if b=a then some (.eK {cls:=.type "list",data:=.seq vs.toArray} (.lst (ns.map V.int)))else none) (λb=>?_) (.inl (.inr ⟨{cls:=.type "list",data:=.seq vs.toArray},if_pos rfl⟩)) (λb u z=>?_) (λb z=>?_) λ_=>U
  .by_cases g:b=a
   .exact .inr ⟨_,_,if_pos g⟩
   .exact .inl (if_neg g)
  .by_cases g:b=a
   .have J:=(if_pos g).symm.trans z
    cases J;subst g;exact⟨L,by rw[List.length_map];exact hl,vs,_,rv,L⟩
   .have J:=(if_neg g).symm.trans z
    cases J
  .by_cases g:b=a
   .exact g
   .exact absurd (if_neg g) z
theorem rf{l:PySem.W.OpenLaw}{n k:Nat}{q:Program}{i:List Str}{M:(Str->Option Value)->Heap->Prop}{I:World->Heap->Prop}{d:DefRec}{K:Params->PySem.W.Frag}{CX:World->mT}{sp:World->Sp}{x:Str}
  (N:l.most=some n) (y:n<=sizeLine) (z:d.params.defaults=[]) (O:bF k callerA)
  (P:∀(w:World) (h:Heap),I w h->(K w.params).In h)
  (F:∀(w:World) (m:Str->Option Value) (t:Addr) (h:Heap),(K w.params).In h->h.Ns mainGlobals m->m d.name=some (.ref t) ->
   ∃A:FuncData,(∀(s:Shared) (u:Value),BindsTo s A ⟨[u],[]⟩ [(x,u)]) /\
    ∀base:Heap,(K w.params).In base->base.Ns mainGlobals m->bO l.prog w (K w.params) m base (CX w) k t A [x] (sp w))
  (B:∀(w:World) (H:Hp) (a:Addr) (ns:List Int),ns.length<=n->Only H->fU (K w.params) H a (ns.map V.int)->sp w [.ref a] H (λv _=>v=.bl true) λ_ _ _=>False)
  (C:∀(w:World) (H:Hp) (s:Shared) (e:Value) (D:Shared),CX w [] H s (λ_ _ _=>False) e D->False) :
  PySem.W.WalkO q i M I l.row.toRowW d [] (λf vs=>PySem.call f vs):=by
 refine Co.jN N z λw J p m mb t o pm cd Q a vs ns G Y ho hd R E r j c S=>?_
 have L:=P w _ Y;obtain⟨A,U,X⟩:=F w m t _ L G.T.g E;exact oj L G.T.g G.T.b G.T.builtins G.T.nolimit S r j (Nat.le_trans c y) O X U (λH Z hS=>B w H a ns c Z hS) λH e D=>C w H p e D
noncomputable def inClass(s:Stmt)(j:Nat):Stmt:=match s with
 |.ClassDef _ _ _ body _ _ _ _ _ _ _=>body.getD j (.Pass ⟨0,0,0,0⟩)
 |_=>.Pass ⟨0,0,0,0⟩
noncomputable def bu(s:Stmt):Arguments:=match s with
 |.FunctionDef _ a _ _ _ _ _ _ _ _=>a
 |_=>{posonlyargs:=[],args:=[],vararg:=none,kwonlyargs:=[],kw_defaults:=[],kwarg:=none,defaults:=[]}
noncomputable def aY(s:Stmt):List Stmt:=match s with
 |.FunctionDef _ _ b _ _ _ _ _ _ _=>b
 |_=>[]
noncomputable def ai(s:Stmt):Scope:=match s with
 |.FunctionDef _ _ _ _ _ _ a _ _ _=>a
 |_=>{kind:=.function,names:=[],isGenerator:=false,isCoroutine:=false}
abbrev dt:mT:=λ_ _ _ _ _ _=>False
abbrev E0:XK:=λ_ _ _=>False
theorem lO{X:Cx}:Passes dt X E0:=λ_ _ _ _ _ _ _ h=>h.elim
structure rg(K:PySem.W.Frag)(x qual:Str)(st:Stmt)(f:Addr)(fd:FuncData):Prop where
 ex:∃(oc:Value) (od:Option Addr) (kV doc pm:Value) (an:Option Addr) (cdv ct:Value) (osl:Array (Option Value)),
  fd=PySem.W.fnOf x qual (bu st) (aY st) (ai st) .none kV doc pm an cdv ct/\K.lookup f=some ⟨oc,od,.func fd,osl⟩/\PySem.W.codeIn K cdv qual=true
 kp:PySem.W.keepIn K (.ref f)=true
section
variable{P:Program}{w:World}{K:PySem.W.Frag}{mg:Str->Option Value}{base:Heap}
theorem rg.ok{x qual:Str}{st:Stmt}{f:Addr}{g:FuncData}{N ps:List Str}{k:Nat}{sp:Sp}(F:rg K x qual st f g)(S:eQ N ps (ai st))(c:∀vs H Q E,sp vs H Q E->vs.length=ps.length)
  (b:∀(a:Value) (A:Around) (outer:List Env) (s:Shared) (H:Hp) (vs:List V) (Q:VK) (E:XK),bF k (A.deeper (envOfC qual (ai st) s.heap.objs.size f a))->sp vs H Q E ->
   ∃t,fT (c5 dt P w K mg base N qual (ai st) f a A outer s H E).h8 (aY st) t/\t {nx:=λ_ i=>Q .non i,rt:=Q} (start N vs) H):bO P w K mg base dt (k+1) f g ps sp:=by
 obtain⟨oc,o,kV,j,p,r,a,ct,l,rfl,m,d⟩:=F.ex;refine uk m d S c λA outer s H vs Q E n e=>?_
 obtain⟨t,h,q⟩:=b a A outer s H vs Q E n e;exact⟨t,h.h8,q⟩
theorem rg.binds{x qual:Str}{st:Stmt}{f:Addr}{e:FuncData}{ps:List Str}(F:rg K x qual st f e)
  (h:∀(kV a c:Value) (d:Option Addr) (b ct:Value) (us:List Value),us.length=ps.length->bindArgs (PySem.W.fnOf x qual (bu st) (aY st) (ai st) .none kV a c d b ct) ⟨us,[]⟩=pure (ps.zip us)):Binds K e ps []:=by
 obtain⟨oc,j,kV,a,c,d,b,ct,g,rfl,k,i⟩:=F.ex;exact .all (h kV a c d b ct)
theorem kK{x qual:Str}{st:Stmt}{f:Addr}{oc:Value}{od e:Option Addr}{d:Array (Option Value)}{kV b g a ct:Value}(l:K.lookup f=some ⟨oc,od,.func (PySem.W.fnOf x qual (bu st) (aY st) (ai st) .none kV b g e a ct),d⟩)
  (c:PySem.W.codeIn K a qual=true) (k:PySem.W.keepIn K (.ref f)=true):rg K x qual st f (PySem.W.fnOf x qual (bu st) (aY st) (ai st) .none kV b g e a ct):=⟨⟨oc,od,kV,b,g,e,a,ct,d,rfl,l,c⟩,k⟩
end
section
variable{X:Cx}
end
theorem kL{A B:Prop}(h:B):if false=true then A else B:=by
 rw[if_neg Bool.false_ne_true];exact h
theorem kM{A B:Prop}(h:A):if true=true then A else B:=by
 rw[if_pos rfl];exact h
def hQ(H a:Hp):Prop:=∀b o,H b=some o->a b=some o
theorem hQ.refl(H:Hp):hQ H H:=λ_ _ h=>h
section
variable{κ:Type}[DecidableEq κ]
end
end L2
namespace Mir
open PySem
inductive D where
 |non|bl (b:Bool)|int (i:Int)|str (x:Str)
 |lst (xs:List D)|tup (xs:List D)|dct (ks:List L2.Key) (vs:List D)|ref (n:Nat)
 deriving Inhabited
inductive Out (α:Type) where
 |ok (a:α)|exc (c:Str) (fs:List (Str×D))|bad
noncomputable def Out.bind{b d:Type}:Out b->(b->Out d)->Out d
 |.ok a,f=>f a
 |.exc c fs,_=>.exc c fs
 |.bad,_=>.bad
instance:Monad Out where
 pure:=.ok
 bind:=Out.bind
@[simp] theorem zJ{b c:Type}(a:b)(f:b->Out c):(Out.ok a >>= f)=f a:=rfl
@[simp] theorem xS{a b:Type}(f:a->Out b):((Out.bad:Out a) >>= f)=.bad:=rfl
@[simp] theorem xT{a b:Type}(c fs)(f:a->Out b):((Out.exc c fs:Out a) >>= f)=.exc c fs:=rfl
@[simp] theorem zK{b:Type}(a:b):(pure a:Out b)=.ok a:=rfl
mutual
noncomputable def c6:D->D->Bool
 |.non,.non=>true
 |.bl a,.bl b=>a==b
 |.bl a,.int j=>(if a then 1 else 0)==j
 |.int i,.bl b=>i==(if b then 1 else 0)
 |.int i,.int j=>i==j
 |.str x,.str y=>x==y
 |.lst xs,.lst ys=>c7 xs ys
 |.tup xs,.tup ys=>c7 xs ys
 |_,_=>false
noncomputable def c7:List D->List D->Bool
 |[],[]=>true
 |x::xs,y::ys=>c6 x y&&c7 xs ys
 |_,_=>false
end
noncomputable def aD:Nat->D->Bool
 |_,.non|_,.bl _|_,.int _|_,.str _=>true
 |n+1,.lst xs|n+1,.tup xs=>xs.all (aD n)
 |_,_=>false
noncomputable def small(n:Nat):Bool:=decide (n<=sizeLine)
def jO:D->Option Bool
 |.non=>some false
 |.bl b=>some b
 |.int i=>some (i != 0)
 |.str x=>if small x.length then some (x.length != 0)else none
 |.lst xs=>some (!xs.isEmpty)
 |.tup xs=>some (!xs.isEmpty)
 |_=>none
abbrev Rs:=Bool×D
noncomputable def hT(i:Int):Bool:=decide (i.natAbs<18446744073709551616)
theorem jP{i:Int}(h:hT i=true): -(2 ^ 64)<i/\i<2 ^ 64:=by
 have:=of_decide_eq_true h;omega
def da(op:Operator)(x y:D):Out Rs:=
 match op,x,y with
 |.Add,.int i,.int j=>.ok (false,.int (i+j))
 |.Sub,.int i,.int j=>.ok (false,.int (i - j))
 |.Mult,.int i,.int j=>if hT i||hT j then .ok (false,.int (i*j))else .bad
 |.FloorDiv,.int i,.int j=>if decide (0<j)&&decide (j<1073741824)then .ok (false,.int (i / j))else .bad
 |.Mod,.int i,.int j=>if decide (0<j)then .ok (false,.int (i%j))else .bad
 |.Pow,.int i,.int j=>if decide (0<=j)&&decide (j<=1000)&&decide (i.natAbs<2 ^ 64)then .ok (false,.int (i ^ j.toNat))else .bad
 |.Add,.str i,.str j=>if small (i.length+j.length)then .ok (false,.str (i++j))else .bad
 |.Add,.lst i,.lst j=>if small (i.length+j.length)then .ok (true,.lst (i++j))else .bad
 |_,_,_=>.bad
noncomputable def uo(x y:Str):Bool := !(Builtin.Str.occurrences y x 0 y.length 1).isEmpty
def inD(x y:D):Out Bool:=
 match x,y with
 |x,.lst a=>if aD 8 x&&a.all (aD 8)then .ok (a.any λy=>c6 y x)else .bad
 |x,.tup a=>if aD 8 x&&a.all (aD 8)then .ok (a.any λy=>c6 y x)else .bad
 |.str x,.str y=>.ok (uo x y)
 |_,_=>.bad
noncomputable def isD(x y:D):Out Bool:=
 match x,y with
 |.non,.non=>.ok true
 |_,.non=>.ok false
 |.bl a,.bl b=>.ok (a==b)
 |.non,.bl _=>.ok false
 |.int _,.bl _=>.ok false
 |.str _,.bl _=>.ok false
 |.lst _,.bl _=>.ok false
 |.tup _,.bl _=>.ok false
 |_,_=>.bad
def dc(op:CmpOp)(x y:D):Out Bool:=
 match op,x,y with
 |.Eq,x,y=>if aD 8 x&&aD 8 y then .ok (c6 x y)else .bad
 |.NotEq,x,y=>if aD 8 x&&aD 8 y then .ok (!c6 x y)else .bad
 |.Lt,.int i,.int j=>.ok (decide (i<j))
 |.LtE,.int i,.int j=>.ok (decide (i<=j))
 |.Gt,.int i,.int j=>.ok (decide (j<i))
 |.GtE,.int i,.int j=>.ok (decide (j<=i))
 |.In,x,y=>inD x y
 |.NotIn,x,y=>do let b ←inD x y;.ok (!b)
 |.Is,x,y=>isD x y
 |.IsNot,x,y=>do let b ←isD x y;.ok (!b)
 |_,_,_=>.bad
noncomputable def dM(c:Nat):Str:=⟨#[c]⟩
def kN(x y:D):Out Rs:=
 match x,y with
 |.lst a,.int i=>match L2.ft a i with|some d=>.ok (false,d)|none=>.bad
 |.tup a,.int i=>match L2.ft a i with|some d=>.ok (false,d)|none=>.bad
 |.str z,.int i=>if small z.length then (match L2.ft z.cps.toList i with|some c=>.ok (false,.str (dM c))|none=>.bad)else .bad
 |_,_=>.bad
def cf{a:Type}(xs:List a)(b c:Option Int):List a:=(xs.drop (HT.bB xs.length 0 b)).take (HT.bB xs.length xs.length c - HT.bB xs.length 0 b)
def om(x:D)(a b:Option Int):Out Rs:=
 match x with
 |.lst c=>.ok (true,.lst (cf c a b))
 |.str z=>if small z.length then .ok (false,.str ⟨(cf z.cps.toList a b).toArray⟩)else .bad
 |_=>.bad
noncomputable def intsFrom(a:Int):Nat->List D
 |0=>[]
 |n+1=>.int a::intsFrom (a+1) n
noncomputable def gp(i:Int):Bool:=decide (i.natAbs<4611686018427387904)
theorem jQ{i:Int}(h:gp i=true): -(2 ^ 62)<=i/\i<2 ^ 62:=by
 have:=of_decide_eq_true h;omega
noncomputable def cF(i:Nat):List D->List D
 |[]=>[]
 |d::ds=>.tup [.int i,d]::cF (i+1) ds
inductive il where
 |len|all|any|sorted|list|tuple|int|min|max|bool
 deriving DecidableEq
noncomputable def gs:List D->Option (List Str)
 |[]=>some []
 |.str i::r=>(gs r).map (i :: ·)
 |_=>none
inductive Dy where
 |index|join
 deriving DecidableEq
def oo(m:Dy)(x:D)(a:D):Out Rs:=
 match m,x,a with
 |.index,.lst b,.tup [d]=>if aD 8 d&&b.all (aD 8)then (match b.findIdx? λy=>c6 y d with|some j=>.ok (false,.int j)|none=>.bad)else .bad
 |.index,.str z,.tup [.str y]=>match Builtin.Str.occurrences z y 0 z.length 1 with|i::_=>.ok (false,.int i)|[]=>.bad
 |.join,.str z,.tup [.lst c]=>match gs c with|some b=>if decide (z.length<=16)&&decide ((b.map (·.length)).sum+b.length<=1048576)then .ok (false,.str (Txt.join z b))else .bad|none=>.bad
 |_,_,_=>.bad
inductive Ty where
 |int|str|bool|list|tuple|dict
 deriving DecidableEq
noncomputable def oq:D->Ty->Option Bool
 |.non,_=>some false
 |.bl _,t=>some (t==.bool||t==.int)
 |.int _,t=>some (t==.int)
 |.str _,t=>some (t==.str)
 |.lst _,t=>some (t==.list)
 |.tup _,t=>some (t==.tuple)
 |.dct _ _,t=>some (t==.dict)
 |.ref _,_=>none
noncomputable def de:D->Bool
 |.non|.bl _|.int _|.str _=>true
 |_=>false
noncomputable def fuel:Nat:=100000
end Mir
namespace Mir
open PySem PySem.Spec PyProof.Rows L2
mutual
noncomputable def Rep(Z:Addr->Prop)(H:Hp):D->V->Prop
 |.non,v=>v=.non
 |.bl b,v=>v=.bl b
 |.int i,v=>v=.int i
 |.str x,v=>v=.str x
 |.lst ds,v=>∃a vs,v=.ref a/\Z a/\Rd H a (.lst vs)/\aG Z H ds vs
 |.tup ds,v=>∃a vs,v=.ref a/\Z a/\Rd H a (.tup vs)/\aG Z H ds vs
 |.dct ks ds,v=>∃a vs,v=.ref a/\Z a/\H a=some (.dK (ks.zip vs))/\aG Z H ds vs
 |.ref _,_=>False
noncomputable def aG(Z:Addr->Prop)(H:Hp):List D->List V->Prop
 |[],vs=>vs=[]
 |d::ds,vs=>∃v r,vs=v::r/\Rep Z H d v/\aG Z H ds r
end
section
variable{Z Z':Addr->Prop}{H H':Hp}
theorem i4{a:Addr}{u:HO}(k:∀o,H a=some o->H' a=some o)(h:Rd H a u):Rd H' a u:=by
 rcases h with h|⟨o,h⟩
 .exact .inl (k _ h)
 .exact .inr ⟨o,k _ h⟩
mutual
theorem Rep.mono(k:∀a o,Z a->H a=some o->H' a=some o)(z:∀a,Z a->Z' a):∀{d:D}{v:V},Rep Z H d v->Rep Z' H' d v
 |.non,_,h=>by simpa only [Rep]using h
 |.bl _,_,h=>by simpa only [Rep]using h
 |.int _,_,h=>by simpa only [Rep]using h
 |.str _,_,h=>by simpa only [Rep]using h
 |.lst ds,v,h=>by
  simp only[Rep]at h ⊢;obtain⟨a,vs,e,b,c,f⟩:=h;exact⟨a,vs,e,z a b,i4 (λo=>k a o b) c,aG.mono k z f⟩
 |.tup ds,v,h=>by
  simp only[Rep]at h ⊢;obtain⟨a,vs,e,b,c,f⟩:=h;exact⟨a,vs,e,z a b,i4 (λo=>k a o b) c,aG.mono k z f⟩
 |.dct g ds,v,h=>by
  simp only[Rep]at h ⊢;obtain⟨a,vs,e,b,c,f⟩:=h;exact⟨a,vs,e,z a b,k a _ b c,aG.mono k z f⟩
 |.ref _,_,h=>by simp only[Rep]at h
theorem aG.mono(k:∀a o,Z a->H a=some o->H' a=some o)(z:∀a,Z a->Z' a):∀{ds:List D}{vs:List V},aG Z H ds vs->aG Z' H' ds vs
 |[],_,h=>by simpa only [aG]using h
 |d::ds,vs,h=>by
  simp only[aG]at h ⊢;obtain⟨v,r,e,h1,h2⟩:=h;exact⟨v,r,e,Rep.mono k z h1,aG.mono k z h2⟩
end
theorem aG.length:∀{ds:List D}{vs:List V},aG Z H ds vs->vs.length=ds.length
 |[],_,h=>by simp only[aG]at h;rw[h];rfl
 |d::ds,_,h=>by
  simp only[aG]at h;obtain⟨v,r,e,_,h2⟩:=h;rw[e,List.length_cons,List.length_cons,aG.length h2]
theorem aG.get:∀{ds:List D}{vs:List V}{i:Nat}{d:D},aG Z H ds vs->ds[i]?=some d->∃v,vs[i]?=some v/\Rep Z H d v
 |[],_,_,_,_,e=>by simp at e
 |d::ds,_,0,_,h,e=>by
  simp only[aG]at h;obtain⟨v,r,rfl,h1,_⟩:=h;simp at e;subst e
  exact⟨v,rfl,h1⟩
 |d::ds,_,i+1,a,h,e=>by
  simp only[aG]at h;obtain⟨v,r,rfl,_,b⟩:=h;obtain⟨u,c,f⟩:=aG.get (i:=i) (d:=a) b (by simpa using e)
  exact⟨u,by simpa using c,f⟩
theorem aG.append:∀{ds es:List D}{vs a:List V},aG Z H ds vs->aG Z H es a->aG Z H (ds++es) (vs++a)
 |[],_,_,_,h,h'=>by simp only[aG]at h;rw[h];exact h'
 |d::ds,_,_,_,h,h'=>by
  simp only[aG]at h;obtain⟨v,r,rfl,h1,h2⟩:=h
  show aG Z H (d::(ds++_)) (v::(r++_))
  simp only[aG];exact⟨v,_,rfl,h1,aG.append h2 h'⟩
theorem aG.nil:aG Z H [] []:=by simp only[aG]
theorem aG.cons{d:D}{ds:List D}{v:V}{vs:List V}(h:Rep Z H d v)(h':aG Z H ds vs):aG Z H (d::ds) (v::vs):=by
 simp only[aG];exact⟨v,vs,rfl,h,h'⟩
theorem aG.nil_inv{vs:List V}(h:aG Z H [] vs):vs=[]:=by simpa only [aG]using h
theorem aG.cons_inv{d:D}{ds:List D}{vs:List V}(h:aG Z H (d::ds) vs):∃v r,vs=v::r/\Rep Z H d v/\aG Z H ds r:=by simpa only [aG]using h
def Now(Z:Addr->Prop)(H:Hp)(d:D)(v:V):Prop:=
 match d with
 |.lst c=>∃a b,v=.ref a/\Rd H a (.lst b)/\aG Z H c b
 |d=>Rep Z H d v
theorem Rep.now{d:D}{v:V}(h:Rep Z H d v):Now Z H d v:=by
 cases d with
 |lst c=>
  simp only[Rep]at h;obtain⟨a,b,e,_,h⟩:=h;exact⟨a,b,e,h⟩
 |_=>exact h
end
structure cK(Z:Addr->Prop)(H:Hp)(Z':Addr->Prop)(H':Hp):Prop where
 same:hQ H H'
 sub:∀a,Z a->Z' a
 new:∀a,Z' a->Z a\/H a=none
 dom:∀a,Z' a->H' a≠none
theorem cK.refl{Z:Addr->Prop}{H:Hp}(d:∀a,Z a->H a≠none):cK Z H Z H:=⟨hQ.refl _,λ_ h=>h,λ_ h=>.inl h,d⟩
theorem hQ.laid{H:Hp}{p:Addr}{o:HO}(h:H p=none):hQ H (upd H p o):=λb u e=>by rw[ao (aL e h)];exact e
theorem cK.laid{Z:Addr->Prop}{H:Hp}{p:Addr}{o:HO}(d:∀a,Z a->H a≠none)(h:H p=none):cK Z H Z (upd H p o):=
 ⟨hQ.laid h,λ_ h=>h,λ_ h=>.inl h,λa b=>by
  have c:a≠p:=λe=>d a b (by rw[e];exact h)
  rw[ao c];exact d a b⟩
def Zp(Z:Addr->Prop)(p:Addr):Addr->Prop:=λa=>Z a\/a=p
section
variable{Z0 Z Z':Addr->Prop}{H0 H H':Hp}{ρ:rh}{σ:L2.St}
end
def cx(bw b:Bool)(Z:Addr->Prop)(f H:Hp)(d:D)(v:V):Prop:=
 if b=true then ∃a c e,d=.lst e/\v=.ref a/\f a=none/\¬ Z a/\H a=some (.lst c)/\aG Z H e c
 else if bw=true then Now Z H d v else Rep Z H d v
theorem cx.own{bw:Bool}{Z:Addr->Prop}{b H:Hp}{a:Addr}{ds:List D}{vs:List V}(c:b a=none)(d:¬ Z a)(e:H a=some (.lst vs))(f:aG Z H ds vs):cx bw true Z b H (.lst ds) (.ref a):=by
 unfold cx;rw[if_pos rfl];exact⟨a,vs,ds,rfl,rfl,c,d,e,f⟩
theorem cx.rep{bw:Bool}{Z:Addr->Prop}{a H:Hp}{d:D}{v:V}(h:Rep Z H d v):cx bw false Z a H d v:=by
 unfold cx;rw[if_neg Bool.false_ne_true]
 split
 .exact h.now
 .exact h
theorem cx.now{b:Bool}{Z:Addr->Prop}{c H:Hp}{d:D}{v:V}(h:cx true b Z c H d v):Now Z H d v:=by
 unfold cx at h;split at h
 .obtain⟨a,e,i,rfl,rfl,_,_,f,g⟩:=h
  exact⟨a,e,rfl,.inl f,g⟩
 .rw[if_pos rfl]at h;exact h
theorem PE.imp{X:Cx}{e:Expr}{t t':TE}(h:PE X e t)(i:∀a H Q,t' a H Q->t a H Q):PE X e t':=λpins s a H Q I q=>h pins s a H Q I (i a H Q q)
theorem gu{d e:Type}{x:Out d}{f:d->Out e}{b:e}(h:(x >>= f)=.ok b):∃a,x=.ok a/\f a=.ok b:=by
 cases x with
 |ok a=>exact⟨a,rfl,h⟩
 |exc c g=>cases h
 |bad=>cases h
section
variable{Γ:hU}{Z0 Z:Addr->Prop}{H0 H:Hp}{ρ:rh}{σ:L2.St}{c:Ex}{Q:VK}{own:Bool}{d:D}
end
end Mir
namespace Mir
open PySem PySem.Spec PyProof.Rows L2
section
variable{Z Z':Addr->Prop}{H H2 H':Hp}{d:D}{v:V}{bw own:Bool}
theorem bg{n:Nat}(h:small n=true):n<=sizeLine:=of_decide_eq_true h
end
section
variable{X:Cx}{Γ:hU}{bw:Bool}{a b e:Expr}{ca cb c:Ex}{pos:Pos}
noncomputable def df:D->Option V
 |.non=>some .non
 |.bl b=>some (.bl b)
 |.int i=>some (.int i)
 |.str x=>some (.str x)
 |_=>none
theorem dg{Z:Addr->Prop}{H:Hp}{d:D}{v:V}(h:df d=some v):Rep Z H d v:=by
 cases d<;>simp only[df]at h<;>first|cases h;simp only[Rep]|cases h
end
section
variable{Z:Addr->Prop}{H:Hp}{x:V}
theorem ec(h:Now Z H .non x):x=.non:=by simpa only [Now,Rep]using h
theorem aN{i:Int}(h:Now Z H (.int i) x):x=.int i:=by simpa only [Now,Rep]using h
theorem ew{i:Bool}(h:Now Z H (.bl i) x):x=.bl i:=by simpa only [Now,Rep]using h
theorem bR{i:Str}(h:Now Z H (.str i) x):x=.str i:=by simpa only [Now,Rep]using h
theorem cG{ds:List D}(h:Now Z H (.lst ds) x):∃a vs,x=.ref a/\Rd H a (.lst vs)/\aG Z H ds vs:=h
theorem ed{ds:List D}(h:Now Z H (.tup ds) x):∃a vs,x=.ref a/\Z a/\Rd H a (.tup vs)/\aG Z H ds vs:=by simpa only [Now,Rep]using h
theorem i5{K:PySem.W.Frag}{a:Addr}{vs:List V}(h:Rd H a (.lst vs)):fU K H a vs:=.inl h
theorem nP{K:PySem.W.Frag}{a:Addr}{vs:List V}(h:Rd H a (.tup vs)):dC K H a vs:=.inl h
theorem ri{bw:Bool}{Q:VK}{ds:List D}{vs:List V}(b:∀a,Z a->H a≠none)(f:aG Z H ds vs)
  (k:∀v d e,cK Z H e d->cx bw true e H d (.lst ds) v->Q v d):∀p,H p=none->Q (.ref p) (upd H p (.lst vs)):=λp c=>
 k _ _ Z (cK.laid b c) (.own c (λz=>b p z c) aI (f.mono (λa o _=>hQ.laid c a o) λ_ z=>z))
end
section
variable{X:Cx}{Γ:hU}{bw:Bool}{a b e:Expr}{ca cb c:Ex}{pos:Pos}
def uq:R2:=λx y H Q=>∃l b a c,x=.ref l/\y=.ref b/\Rd H l (.lst a)/\Rd H b (.lst c)/\a.length+c.length<=sizeLine/\∀p,H p=none->Q (.ref p) (upd H p (.lst (a++c)))
theorem rj:dD X (binaryOp .Add) uq:=by
 intro pins s w H x y v u Q I i j h;obtain⟨l,b,d,f,rfl,rfl,k,m,A,q⟩:=h;cases i;cases j;obtain⟨z,a,n,r,e⟩:d.length<=sizeLine/\∃(a:List Value) (n:Nat),Vals d a/\s.heap.get? l=some {cls:=.type "list",data:=.seq a.toArray n}:=Rd.ok k I.hok;obtain⟨B,c,C,g,o⟩:f.length<=sizeLine/\∃(a:List Value) (n:Nat),Vals f a/\s.heap.get? b=some {cls:=.type "list",data:=.seq a.toArray n}:=Rd.ok m I.hok;have D:=r.length;have p:=g.length;refine PySem.P.add_list e o ?_ (by rw[List.size_toArray,List.size_toArray];omega)
 have t:a.toArray++c.toArray=(a++c).toArray:=by simp
 rw[t];exact⟨.ref _,_,I.Bg (t':=s.toks) (r.append g) (by rw[List.length_append];omega),rfl,q _ I.fresh⟩
def rk(op:Operator):R2:=λx y H Q=>match op with
 |.Add=>(∃i j,x=.int i/\y=.int j/\Q (.int (i+j)) H)\/(∃i j,x=.str i/\y=.str j/\i.length+j.length<=sizeLine/\Q (.str (i++j)) H)\/uq x y H Q
 |.Sub=>∃i j,x=.int i/\y=.int j/\Q (.int (i - j)) H
 |.Mult=>∃i j,x=.int i/\y=.int j/\qS i j/\Q (.int (i*j)) H
 |.FloorDiv=>∃i j,x=.int i/\y=.int j/\xo i j/\Q (.int (i / j)) H
 |.Mod=>∃i j,x=.int i/\y=.int j/\0<j/\Q (.int (i%j)) H
 |.Pow=>∃i j,x=.int i/\y=.int j/\xq i j/\Q (.int (i ^ j.toNat)) H
 |_=>False
theorem ou(op:Operator):dD X (binaryOp op) (rk op):=by
 cases op with
 |Add=>exact u9.or (kD.or rj)
 |Sub=>exact u_
 |Mult=>exact va
 |FloorDiv=>exact qT
 |Mod=>exact vb
 |Pow=>exact vc
 |_=>exact λ_ _ _ _ _ _ _ _ _ _ _ _ h=>h.elim
theorem vo{op:Operator}{n o:D}{x y:V}{Z:Addr->Prop}{H:Hp}{h:Bool}{d:D}{Q:VK}(f:Now Z H n x)(g:Now Z H o y)(i:∀a,Z a->H a≠none)(b:da op n o=.ok (h,d))
  (k:∀v j p,cK Z H p j->cx bw h p H j d v->Q v j):rk op x y H Q:=by
 have c:∀{r:D}{v:V},df r=some v->Out.ok (false,r)=Out.ok (h,d)->Q v H:=λu q=>by
  cases q;exact k _ H Z (cK.refl i) (.rep (dg u))
 unfold da at b;split at b
 .cases aN f;cases aN g
  exact .inl ⟨_,_,rfl,rfl,c rfl b⟩
 .cases aN f;cases aN g
  exact⟨_,_,rfl,rfl,c rfl b⟩
 .cases aN f;cases aN g
  split at b
  .rename_i e
   refine⟨_,_,rfl,rfl,?_,c rfl b⟩;simp only[Bool.or_eq_true]at e;have e:=e.imp jP jP;exact e
  .cases b
 .cases aN f;cases aN g
  split at b
  .rename_i e
   refine⟨_,_,rfl,rfl,?_,c rfl b⟩;simp only[Bool.and_eq_true,decide_eq_true_eq]at e;exact e
  .cases b
 .cases aN f;cases aN g
  split at b
  .rename_i e
   exact⟨_,_,rfl,rfl,of_decide_eq_true e,c rfl b⟩
  .cases b
 .cases aN f;cases aN g
  split at b
  .rename_i e
   refine⟨_,_,rfl,rfl,?_,c rfl b⟩;simp only[Bool.and_eq_true,decide_eq_true_eq]at e;exact⟨e.1.1,Int.le_trans e.1.2 (by decide),e.2⟩
  .cases b
 .cases bR f;cases bR g
  split at b
  .rename_i e
   exact .inr (.inl ⟨_,_,rfl,rfl,bg e,c rfl b⟩)
  .cases b
 .obtain⟨l,w,rfl,z,s⟩:=cG f
  obtain⟨m,A,rfl,B,t⟩:=cG g;split at b
  .rename_i e
   cases b;have C:=bg e;exact .inr (.inr ⟨l,m,w,A,rfl,rfl,z,B,by rw[s.length,t.length];exact C,ri i (s.append t) k⟩)
  .cases b
 .cases b
end
section
variable{Z:Addr->Prop}{H:Hp}
theorem i6{a:Addr}{u b:HO}(d:∀o w,u≠.eK o w)(c:∀o w,b≠.eK o w)(h:Rd H a u)(h':Rd H a b):u=b:=by
 rcases h with h|⟨o,h⟩<;>rcases h' with h' |⟨f,h'⟩<;>rw[h]at h'<;>injection h' with e
 .exact absurd e (d _ _)
 .exact absurd e.symm (c _ _)
 .injection e
theorem kO{a:Addr}{xs b:List V}(h:Rd H a (.lst xs))(h':Rd H a (.lst b)):xs=b:=by
 have e:=i6 (λ_ _ z=>by cases z) (λ_ _ z=>by cases z) h h'
 injection e
theorem kP{a:Addr}{xs b:List V}(h:Rd H a (.tup xs))(h':Rd H a (.tup b)):xs=b:=by
 have e:=i6 (λ_ _ z=>by cases z) (λ_ _ z=>by cases z) h h'
 injection e
theorem lP{a:Addr}{xs b:List V}(h:Rd H a (.lst xs))(h':Rd H a (.tup b)):False:=by
 have e:=i6 (λ_ _ z=>by cases z) (λ_ _ z=>by cases z) h h'
 cases e
mutual
theorem Rep.uniq:∀(n:Nat) (d d':D) (v:V),aD n d=true->aD n d'=true->Rep Z H d v->Rep Z H d' v->d=d'
 |n,.lst xs,d',v,o,o',h,h'=>by
  simp only[Rep]at h;obtain⟨a,vs,rfl,_,h1,h2⟩:=h;cases d'<;>simp only[Rep]at h'
  case lst ys=>
   obtain⟨b,g,e,_,c,f⟩:=h';cases e;cases kO h1 c;cases n with
   |zero=>simp[aD]at o
   |succ n=>rw[aG.uniq n xs ys vs (by simpa[aD]using o) (by simpa[aD]using o') h2 f]
  case tup ys=>
   obtain⟨b,g,e,_,c,f⟩:=h';cases e;exact(lP h1 c).elim
  case dct ks ys=>cases n<;>simp[aD]at o'
  all_goals cases h'
 |n,.tup xs,d',v,o,o',h,h'=>by
  simp only[Rep]at h;obtain⟨a,vs,rfl,_,h1,h2⟩:=h;cases d'<;>simp only[Rep]at h'
  case tup ys=>
   obtain⟨b,g,e,_,c,f⟩:=h';cases e;cases kP h1 c;cases n with
   |zero=>simp[aD]at o
   |succ n=>rw[aG.uniq n xs ys vs (by simpa[aD]using o) (by simpa[aD]using o') h2 f]
  case lst ys=>
   obtain⟨b,g,e,_,c,f⟩:=h';cases e;exact(lP c h1).elim
  case dct ks ys=>cases n<;>simp[aD]at o'
  all_goals cases h'
 |n,.dct ks xs,_,_,o,_,_,_=>by cases n<;>simp[aD]at o
 |n,.ref _,_,_,_,_,h,_=>by simp only[Rep]at h
 |n,.non,d',v,_,o',h,h'=>by
  simp only[Rep]at h;subst h
  cases d'<;>simp only[Rep]at h'<;>first|rfl | (obtain⟨_,_,e,_⟩:=h';cases e;done) | (cases h';done)
 |n,.bl b,d',v,_,o',h,h'=>by
  simp only[Rep]at h;subst h
  cases d'<;>simp only[Rep]at h'<;>first | (obtain⟨_,_,e,_⟩:=h';cases e;done) | (cases h';rfl) | (cases h';done)
 |n,.int b,d',v,_,o',h,h'=>by
  simp only[Rep]at h;subst h
  cases d'<;>simp only[Rep]at h'<;>first | (obtain⟨_,_,e,_⟩:=h';cases e;done) | (cases h';rfl) | (cases h';done)
 |n,.str b,d',v,_,o',h,h'=>by
  simp only[Rep]at h;subst h
  cases d'<;>simp only[Rep]at h'<;>first | (obtain⟨_,_,e,_⟩:=h';cases e;done) | (cases h';rfl) | (cases h';done)
theorem aG.uniq:∀(n:Nat) (xs a:List D) (vs:List V),(∀x∈xs,aD n x=true)->(∀x∈a,aD n x=true)->aG Z H xs vs->aG Z H a vs->xs=a
 |n,[],a,vs,_,_,h,h'=>by
  rw[h.nil_inv]at h';cases a with
  |nil=>rfl
  |cons y a=>obtain⟨_,_,e,_⟩:=h'.cons_inv;cases e
 |n,x::xs,a,vs,o,c,h,h'=>by
  obtain⟨v,r,rfl,d,f⟩:=h.cons_inv;cases a with
  |nil=>exact absurd h'.nil_inv (by simp)
  |cons y a=>
   obtain⟨w,j,e,g,i⟩:=h'.cons_inv;cases e;rw[Rep.uniq n x y v (o x (by simp)) (c y (by simp)) d g,aG.uniq n xs a r (λz b=>o z (by simp[b])) (λz b=>c z (by simp[b])) f i]
end
mutual
theorem ow:∀(n:Nat) (d:D),aD n d=true->c6 d d=true
 |n,.lst xs,o=>by
  cases n with
  |zero=>simp[aD]at o
  |succ n=>simp only[c6];exact bU n xs (by simpa[aD]using o)
 |n,.tup xs,o=>by
  cases n with
  |zero=>simp[aD]at o
  |succ n=>simp only[c6];exact bU n xs (by simpa[aD]using o)
 |n,.dct _ _,o=>by cases n<;>simp[aD]at o
 |n,.ref _,o=>by cases n<;>simp[aD]at o
 |n,.non,_=>by simp[c6]
 |n,.bl _,_=>by simp[c6]
 |n,.int _,_=>by simp[c6]
 |n,.str _,_=>by simp[c6]
theorem bU:∀(n:Nat) (xs:List D),(∀x∈xs,aD n x=true)->c7 xs xs=true
 |n,[],_=>by simp[c7]
 |n,x::xs,o=>by
  simp only[c7,ow n x (o x (by simp)),bU n xs λz a=>o z (by simp[a]),Bool.and_self]
end
theorem cj:∀(xs a:List D),((List.range (min xs.length a.length)).all (λj=>c6 (xs.getD j .non) (a.getD j .non))&&(xs.length==a.length))=c7 xs a
 |[],[]=>by simp[c7]
 |[],_::_=>by simp[c7]
 |_::_,[]=>by simp[c7]
 |x::xs,y::a=>by
  have b:=cj xs a;have c:min (x::xs).length (y::a).length=min xs.length a.length+1:=by simp only[List.length_cons];omega
  rw[c,List.range_succ_eq_map,List.all_cons,List.all_map,c7,←b];simp[Function.comp_def,Bool.and_assoc]
theorem gv{xs a:List D}(h:xs.length=a.length):(List.range xs.length).all (λj=>c6 (xs.getD j .non) (a.getD j .non))=c7 xs a:=by
 have e:=cj xs a;rw[←h,Nat.min_self]at e;simpa using e
theorem i7{xs a:List D}(h:xs.length≠a.length):c7 xs a=false:=by
 rw[←cj xs a];simp[h]
end
inductive Vw (s:Shared) (Z:Addr->Prop) (H:Hp):D->Value->Prop where
 |non:Vw s Z H .non .none
 |bl (b:Bool):Vw s Z H (.bl b) (.bool b)
 |int (i:Int) (t:Tok):Vw s Z H (.int i) (.int i t)
 |str (x:Str) (t:Tok):Vw s Z H (.str x) (.str x t)
 |lst {l:Addr}{its:List Value}{vs:List V}{ds:List D}:s.heap.IsList l its.toArray->Vals vs its->Rd H l (.lst vs)/\aG Z H ds vs->Vw s Z H (.lst ds) (.ref l)
 |tup {l:Addr}{its:List Value}{vs:List V}{ds:List D}:s.heap.IsTuple l its.toArray->Vals vs its->Rd H l (.tup vs)/\aG Z H ds vs->Vw s Z H (.tup ds) (.ref l)
section
variable{X:Cx}{pins:List (Addr×Obj)}{σ:L2.St}{Z:Addr->Prop}{H:Hp}{s:Shared}{A:Around}
theorem el{n:Nat}{d:D}{v:V}{u:Value}(I:Inv X pins σ H s)(c:Now Z H d v)(r:RelV v u)(o:aD n d=true):Vw s Z H d u:=by
 cases d with
 |non=>cases ec c;cases r;exact .non
 |bl b=>cases ew c;cases r;exact .bl b
 |int b=>cases aN c;obtain⟨t,rfl⟩:=r;exact .int b t
 |str b=>cases bR c;obtain⟨t,rfl⟩:=r;exact .str b t
 |lst i=>
  obtain⟨a,j,rfl,e,f⟩:=cG c;cases r;obtain⟨g,h,p,l⟩:=I.list (i5 (K:=X.K) e);exact .lst p.isList h ⟨e,f⟩
 |tup i=>
  obtain⟨a,j,rfl,_,e,f⟩:=ed c;cases r;obtain⟨g,h,p,l⟩:=I.tuple (nP (K:=X.K) e);exact .tup p h ⟨e,f⟩
 |dct m i=>cases n<;>simp[aD]at o
 |ref k=>cases n<;>simp[aD]at o
theorem lQ{vs:List V}{a:List Value}(r:Vals vs a){j:Nat}(d:j<a.length):∃v,vs[j]?=some v/\RelV v a[j]:=by
 have f:=r.length;have b:vs[j]?=some vs[j]:=by simp[show j<vs.length by omega]
 obtain⟨u,c,e⟩:=r.get b;rw[List.getElem?_eq_getElem d]at c;cases c;exact⟨_,b,e⟩
theorem dh{n:Nat}(I:Inv X pins σ H s)(t:∀(A:Around) (e f:D) (u w:Value),A.units+n<cLine->aD n e=true->aD n f=true->Vw s Z H e u->Vw s Z H f w->SeqAt.EqAt A s u w (c6 e f))
  {ds es:List D} (ox:∀x∈ds,aD n x=true) (y:∀x∈es,aD n x=true) (G:A.units+(n+1)<cLine) {vs k:List V}{b a:List Value} (l:Vals vs b) (m:Vals k a) (pl:aG Z H ds vs) (o:aG Z H es k) :
  ∀j (g:j<b.toArray.size) (h:j<a.toArray.size),SeqAt.EqAt A.in1 s b.toArray[j] a.toArray[j] (c6 (ds.getD j .non) (es.getD j .non)):=by
 intro j g h;have J:=l.length;have K:=m.length;have L:=pl.length;have M:=o.length;simp only[List.size_toArray]at g h;simp only[List.getElem_toArray];obtain⟨v,z,B⟩:=lQ l g;obtain⟨w,C,i⟩:=lQ m h;have p:ds[j]?=some (ds.getD j .non):=by simp[List.getD,show j<ds.length by omega]
 have q:es[j]?=some (es.getD j .non):=by simp[List.getD,show j<es.length by omega]
 obtain⟨N,c,E⟩:=pl.get p;obtain⟨O,d,F⟩:=o.get q;rw[z]at c;cases c
 rw[C]at d;cases d
 have r:=ox _ (List.mem_of_getElem? p);have o2:=y _ (List.mem_of_getElem? q);exact t A.in1 _ _ _ _ (by show A.units+1+n<cLine;omega) r o2 (el I E.now B r) (el I F.now i o2)
theorem dN(I:Inv X pins σ H s):∀(n:Nat) (A:Around) (F G:D) (u w:Value),A.units+n<cLine->aD n F=true->aD n G=true->Vw s Z H F u->Vw s Z H G w->SeqAt.EqAt A s u w (c6 F G):=by
 intro n
 induction n with
 |zero=>
  intro A F G u w M C J N o;have f:A.units<cLine:=by omega
  cases N with
  |non=>
   cases o with
   |non=>exact SeqAt.EqAt.same _
   |bl p=>exact SeqAt.EqAt.none_bool _
   |int q k=>exact SeqAt.EqAt.none_int _ _
   |str x2 k=>exact SeqAt.EqAt.none_str _ _
   |@lst m a d c e h g=>exact SeqAt.EqAt.none_list e f
   |@tup m a d c e h g=>exact SeqAt.EqAt.none_tuple e f
  |bl b=>
   cases o with
   |non=>exact SeqAt.EqAt.bool_none _
   |bl p=>exact SeqAt.EqAt.bool_bool _ _
   |int q k=>exact SeqAt.EqAt.bool_int _ _ _
   |str x2 k=>exact SeqAt.EqAt.bool_str _ _ _
   |@lst m a d c e h g=>exact SeqAt.EqAt.bool_list _ e f
   |@tup m a d c e h g=>exact SeqAt.EqAt.bool_tuple _ e f
  |int i t=>
   cases o with
   |non=>exact SeqAt.EqAt.int_none _ _
   |bl p=>exact SeqAt.EqAt.int_bool _ _ _
   |int q k=>exact SeqAt.EqAt.int_int _ _ _ _
   |str x2 k=>exact SeqAt.EqAt.int_str _ _ _ _
   |@lst m a d c e h g=>exact SeqAt.EqAt.int_list _ _ e f
   |@tup m a d c e h g=>exact SeqAt.EqAt.int_tuple _ _ e f
  |str x t=>
   cases o with
   |non=>exact SeqAt.EqAt.str_none _ _
   |bl p=>exact SeqAt.EqAt.str_bool _ _ _
   |int q k=>exact SeqAt.EqAt.str_int _ _ _ _
   |str x2 k=>exact SeqAt.EqAt.str_str _ _ _ _
   |@lst m a d c e h g=>exact SeqAt.EqAt.str_list _ _ e f
   |@tup m a d c e h g=>exact SeqAt.EqAt.str_tuple _ _ e f
  |@lst l r K y j E z=>
   cases o with
   |non=>exact SeqAt.EqAt.list_none j f
   |bl p=>exact SeqAt.EqAt.list_bool _ j f
   |int q k=>exact SeqAt.EqAt.list_int _ _ j f
   |str x2 k=>exact SeqAt.EqAt.list_str _ _ j f
   |@lst m a d c e h g=>
    simp[aD]at C
   |@tup m a d c e h g=>exact SeqAt.EqAt.list_tuple j e f
  |@tup l r K y j E z=>
   cases o with
   |non=>exact SeqAt.EqAt.tuple_none j f
   |bl p=>exact SeqAt.EqAt.tuple_bool _ j f
   |int q k=>exact SeqAt.EqAt.tuple_int _ _ j f
   |str x2 k=>exact SeqAt.EqAt.tuple_str _ _ j f
   |@lst m a d c e h g=>exact SeqAt.EqAt.tuple_list j e f
   |@tup m a d c e h g=>
    simp[aD]at C
 |succ n Q=>
  intro A F G u w M C J N o;have f:A.units<cLine:=by omega
  cases N with
  |non=>
   cases o with
   |non=>exact SeqAt.EqAt.same _
   |bl p=>exact SeqAt.EqAt.none_bool _
   |int q k=>exact SeqAt.EqAt.none_int _ _
   |str x2 k=>exact SeqAt.EqAt.none_str _ _
   |@lst m a d c e h g=>exact SeqAt.EqAt.none_list e f
   |@tup m a d c e h g=>exact SeqAt.EqAt.none_tuple e f
  |bl b=>
   cases o with
   |non=>exact SeqAt.EqAt.bool_none _
   |bl p=>exact SeqAt.EqAt.bool_bool _ _
   |int q k=>exact SeqAt.EqAt.bool_int _ _ _
   |str x2 k=>exact SeqAt.EqAt.bool_str _ _ _
   |@lst m a d c e h g=>exact SeqAt.EqAt.bool_list _ e f
   |@tup m a d c e h g=>exact SeqAt.EqAt.bool_tuple _ e f
  |int i t=>
   cases o with
   |non=>exact SeqAt.EqAt.int_none _ _
   |bl p=>exact SeqAt.EqAt.int_bool _ _ _
   |int q k=>exact SeqAt.EqAt.int_int _ _ _ _
   |str x2 k=>exact SeqAt.EqAt.int_str _ _ _ _
   |@lst m a d c e h g=>exact SeqAt.EqAt.int_list _ _ e f
   |@tup m a d c e h g=>exact SeqAt.EqAt.int_tuple _ _ e f
  |str x t=>
   cases o with
   |non=>exact SeqAt.EqAt.str_none _ _
   |bl p=>exact SeqAt.EqAt.str_bool _ _ _
   |int q k=>exact SeqAt.EqAt.str_int _ _ _ _
   |str x2 k=>exact SeqAt.EqAt.str_str _ _ _ _
   |@lst m a d c e h g=>exact SeqAt.EqAt.str_list _ _ e f
   |@tup m a d c e h g=>exact SeqAt.EqAt.str_tuple _ _ e f
  |@lst l r K y j E z=>
   cases o with
   |non=>exact SeqAt.EqAt.list_none j f
   |bl p=>exact SeqAt.EqAt.list_bool _ j f
   |int q k=>exact SeqAt.EqAt.list_int _ _ j f
   |str x2 k=>exact SeqAt.EqAt.list_str _ _ j f
   |@lst m a d c e h g=>
    have R:=E.length;have S:=h.length;have T:=z.2.length;have U:=g.2.length;simp only[c6]
    by_cases B:l=m
    .subst B
     have O:=kO z.1 g.1;subst O;have P:=aG.uniq n y c K (by simpa[aD]using C) (by simpa[aD]using J) z.2 g.2
     subst P;rw[bU n y (by simpa[aD]using C)]
     exact SeqAt.EqAt.same _
    .refine SeqAt.EqAt.of_refs B ?_
     by_cases L:y.length=c.length
     .rw[←gv L]
      have:=SeqAt.RcAt.lists j e (by simp only[List.size_toArray];omega) f (dh I Q (by simpa[aD]using C) (by simpa[aD]using J) M E h z.2 g.2)
      rw[show r.toArray.size=y.length by simp only[List.size_toArray];omega]at this
      exact this
     .rw[i7 L]
      exact SeqAt.RcAt.lists_lengths j e (by simp only[List.size_toArray,bne_iff_ne];omega) f
   |@tup m a d c e h g=>exact SeqAt.EqAt.list_tuple j e f
  |@tup l r K y j E z=>
   cases o with
   |non=>exact SeqAt.EqAt.tuple_none j f
   |bl p=>exact SeqAt.EqAt.tuple_bool _ j f
   |int q k=>exact SeqAt.EqAt.tuple_int _ _ j f
   |str x2 k=>exact SeqAt.EqAt.tuple_str _ _ j f
   |@lst m a d c e h g=>exact SeqAt.EqAt.tuple_list j e f
   |@tup m a d c e h g=>
    have R:=E.length;have S:=h.length;have T:=z.2.length;have U:=g.2.length;simp only[c6]
    by_cases B:l=m
    .subst B
     have O:=kP z.1 g.1;subst O;have P:=aG.uniq n y c K (by simpa[aD]using C) (by simpa[aD]using J) z.2 g.2
     subst P;rw[bU n y (by simpa[aD]using C)]
     exact SeqAt.EqAt.same _
    .refine SeqAt.EqAt.of_refs B ?_
     rw[←cj y c];have:=SeqAt.RcAt.tuples j e f (dh I Q (by simpa[aD]using C) (by simpa[aD]using J) M E h z.2 g.2)
     rw[show r.toArray.size=y.length by simp only[List.size_toArray];omega,show a.toArray.size=c.length by simp only[List.size_toArray];omega]at this
     exact this
theorem oy(I:Inv X pins σ H s){n:Nat}{E F:D}{u w:Value}(G:A.units+(n+1)<cLine)(ox:aD (n+1) E=true)(J:aD (n+1) F=true)(K:Vw s Z H E u)(p:Vw s Z H F w):SeqAt.RcAt A s u w (c6 E F):=by
 have f:A.units<cLine:=by omega
 cases K with
 |non=>
  cases p with
  |non=>exact SeqAt.RcAt.none_none
  |bl q=>exact SeqAt.RcAt.none_bool _
  |int r k=>exact SeqAt.RcAt.none_int _ _
  |str x2 k=>exact SeqAt.RcAt.none_str _ _
  |@lst m a e c d g h=>exact SeqAt.RcAt.none_list d f
  |@tup m a e c d g h=>exact SeqAt.RcAt.none_tuple d f
 |bl b=>
  cases p with
  |non=>exact SeqAt.RcAt.bool_none _
  |bl q=>exact SeqAt.RcAt.bool_bool _ _
  |int r k=>exact SeqAt.RcAt.bool_int _ _ _
  |str x2 k=>exact SeqAt.RcAt.bool_str _ _ _
  |@lst m a e c d g h=>exact SeqAt.RcAt.bool_list _ d f
  |@tup m a e c d g h=>exact SeqAt.RcAt.bool_tuple _ d f
 |int i t=>
  cases p with
  |non=>exact SeqAt.RcAt.int_none _ _
  |bl q=>exact SeqAt.RcAt.int_bool _ _ _
  |int r k=>exact SeqAt.RcAt.int_int _ _ _ _
  |str x2 k=>exact SeqAt.RcAt.int_str _ _ _ _
  |@lst m a e c d g h=>exact SeqAt.RcAt.int_list _ _ d f
  |@tup m a e c d g h=>exact SeqAt.RcAt.int_tuple _ _ d f
 |str x t=>
  cases p with
  |non=>exact SeqAt.RcAt.str_none _ _
  |bl q=>exact SeqAt.RcAt.str_bool _ _ _
  |int r k=>exact SeqAt.RcAt.str_int _ _ _ _
  |str x2 k=>exact SeqAt.RcAt.str_str _ _ _ _
  |@lst m a e c d g h=>exact SeqAt.RcAt.str_list _ _ d f
  |@tup m a e c d g h=>exact SeqAt.RcAt.str_tuple _ _ d f
 |@lst l o L y j z B=>
  cases p with
  |non=>exact SeqAt.RcAt.list_none j f
  |bl q=>exact SeqAt.RcAt.list_bool _ j f
  |int r k=>exact SeqAt.RcAt.list_int _ _ j f
  |str x2 k=>exact SeqAt.RcAt.list_str _ _ j f
  |@lst m a e c d g h=>
   have M:=z.length;have N:=g.length;have O:=B.2.length;have P:=h.2.length;simp only[c6]
   by_cases C:y.length=c.length
   .rw[←gv C]
    have:=SeqAt.RcAt.lists j d (by simp only[List.size_toArray];omega) f (dh I (dN I n) (by simpa[aD]using ox) (by simpa[aD]using J) G z g B.2 h.2)
    rw[show o.toArray.size=y.length by simp only[List.size_toArray];omega]at this
    exact this
   .rw[i7 C]
    exact SeqAt.RcAt.lists_lengths j d (by simp only[List.size_toArray,bne_iff_ne];omega) f
  |@tup m a e c d g h=>exact SeqAt.RcAt.list_tuple j d f
 |@tup l o L y j z B=>
  cases p with
  |non=>exact SeqAt.RcAt.tuple_none j f
  |bl q=>exact SeqAt.RcAt.tuple_bool _ j f
  |int r k=>exact SeqAt.RcAt.tuple_int _ _ j f
  |str x2 k=>exact SeqAt.RcAt.tuple_str _ _ j f
  |@lst m a e c d g h=>exact SeqAt.RcAt.tuple_list j d f
  |@tup m a e c d g h=>
   have M:=z.length;have N:=g.length;have O:=B.2.length;have P:=h.2.length;simp only[c6];rw[←cj y c];have:=SeqAt.RcAt.tuples j d f (dh I (dN I n) (by simpa[aD]using ox) (by simpa[aD]using J) G z g B.2 h.2)
   rw[show o.toArray.size=y.length by simp only[List.size_toArray];omega,show a.toArray.size=c.length by simp only[List.size_toArray];omega]at this
   exact this
theorem kQ(I:Inv X pins σ H s){n:Nat}{E F:D}{u w:Value}(G:A.units+(n+1)<cLine)(ox:aD (n+1) E=true)(J:aD (n+1) F=true)(K:Vw s Z H E u)(p:Vw s Z H F w):SeqAt.RcNeAt A s u w (!c6 E F):=by
 have f:A.units<cLine:=by omega
 cases K with
 |non=>
  cases p with
  |non=>exact SeqAt.RcNeAt.none_none
  |bl q=>exact SeqAt.RcNeAt.none_bool _
  |int r k=>exact SeqAt.RcNeAt.none_int _ _
  |str x2 k=>exact SeqAt.RcNeAt.none_str _ _
  |@lst m a e c d g h=>exact SeqAt.RcNeAt.none_list d f
  |@tup m a e c d g h=>exact SeqAt.RcNeAt.none_tuple d f
 |bl b=>
  cases p with
  |non=>exact SeqAt.RcNeAt.bool_none _
  |bl q=>exact SeqAt.RcNeAt.bool_bool _ _
  |int r k=>exact SeqAt.RcNeAt.bool_int _ _ _
  |str x2 k=>exact SeqAt.RcNeAt.bool_str _ _ _
  |@lst m a e c d g h=>exact SeqAt.RcNeAt.bool_list _ d f
  |@tup m a e c d g h=>exact SeqAt.RcNeAt.bool_tuple _ d f
 |int i t=>
  cases p with
  |non=>exact SeqAt.RcNeAt.int_none _ _
  |bl q=>exact SeqAt.RcNeAt.int_bool _ _ _
  |int r k=>exact SeqAt.RcNeAt.int_int _ _ _ _
  |str x2 k=>exact SeqAt.RcNeAt.int_str _ _ _ _
  |@lst m a e c d g h=>exact SeqAt.RcNeAt.int_list _ _ d f
  |@tup m a e c d g h=>exact SeqAt.RcNeAt.int_tuple _ _ d f
 |str x t=>
  cases p with
  |non=>exact SeqAt.RcNeAt.str_none _ _
  |bl q=>exact SeqAt.RcNeAt.str_bool _ _ _
  |int r k=>exact SeqAt.RcNeAt.str_int _ _ _ _
  |str x2 k=>exact SeqAt.RcNeAt.str_str _ _ _ _
  |@lst m a e c d g h=>exact SeqAt.RcNeAt.str_list _ _ d f
  |@tup m a e c d g h=>exact SeqAt.RcNeAt.str_tuple _ _ d f
 |@lst l o L y j z B=>
  cases p with
  |non=>exact SeqAt.RcNeAt.list_none j f
  |bl q=>exact SeqAt.RcNeAt.list_bool _ j f
  |int r k=>exact SeqAt.RcNeAt.list_int _ _ j f
  |str x2 k=>exact SeqAt.RcNeAt.list_str _ _ j f
  |@lst m a e c d g h=>
   have M:=z.length;have N:=g.length;have O:=B.2.length;have P:=h.2.length;simp only[c6]
   by_cases C:y.length=c.length
   .rw[←gv C]
    have:=SeqAt.RcNeAt.lists j d (by simp only[List.size_toArray];omega) f (dh I (dN I n) (by simpa[aD]using ox) (by simpa[aD]using J) G z g B.2 h.2)
    rw[show o.toArray.size=y.length by simp only[List.size_toArray];omega]at this
    exact this
   .rw[i7 C]
    exact SeqAt.RcNeAt.lists_lengths j d (by simp only[List.size_toArray,bne_iff_ne];omega) f
  |@tup m a e c d g h=>exact SeqAt.RcNeAt.list_tuple j d f
 |@tup l o L y j z B=>
  cases p with
  |non=>exact SeqAt.RcNeAt.tuple_none j f
  |bl q=>exact SeqAt.RcNeAt.tuple_bool _ j f
  |int r k=>exact SeqAt.RcNeAt.tuple_int _ _ j f
  |str x2 k=>exact SeqAt.RcNeAt.tuple_str _ _ j f
  |@lst m a e c d g h=>exact SeqAt.RcNeAt.tuple_list j d f
  |@tup m a e c d g h=>
   have M:=z.length;have N:=g.length;have O:=B.2.length;have P:=h.2.length;simp only[c6];rw[←cj y c];have:=SeqAt.RcNeAt.tuples j d f (dh I (dN I n) (by simpa[aD]using ox) (by simpa[aD]using J) G z g B.2 h.2)
   rw[show o.toArray.size=y.length by simp only[List.size_toArray];omega,show a.toArray.size=c.length by simp only[List.size_toArray];omega]at this
   exact this
end
end Mir
namespace Mir
open PySem PySem.Spec PyProof.Rows L2
theorem Vw.uniq{s:Shared}{Z:Addr->Prop}{H:Hp}{n:Nat}{d d':D}{u:Value}(h:Vw s Z H d u)(h':Vw s Z H d' u)(o:aD n d=true)(r:aD n d'=true):d=d':=by
 cases h with
 |non=>cases h';rfl
 |bl b=>cases h';rfl
 |int i t=>cases h';rfl
 |str x t=>cases h';rfl
 |@lst l j k m w y f=>
  cases h' with
  |@lst _ a g c p q e=>
   cases kO f.1 e.1;cases n with
   |zero=>simp[aD]at o
   |succ n=>rw[aG.uniq n m c k (by simpa[aD]using o) (by simpa[aD]using r) f.2 e.2]
  |@tup _ a g c p q e=>exact(lP f.1 e.1).elim
 |@tup l j k m w y f=>
  cases h' with
  |@tup _ a g c p q e=>
   cases kP f.1 e.1;cases n with
   |zero=>simp[aD]at o
   |succ n=>rw[aG.uniq n m c k (by simpa[aD]using o) (by simpa[aD]using r) f.2 e.2]
  |@lst _ a g c p q e=>exact(lP e.1 f.1).elim
section
variable{X:Cx}{pins:List (Addr×Obj)}{σ:L2.St}{Z:Addr->Prop}{H:Hp}{s:Shared}
def fR(s:Shared)(Z:Addr->Prop)(H:Hp)(a:D)(u:Value):Bool:=@decide (∃d,aD 8 d=true/\Vw s Z H d u/\c6 d a=true) (Classical.propDecidable _)
theorem lR{a d:D}{u:Value}(o:aD 8 d=true)(h:Vw s Z H d u):fR s Z H a u=c6 d a:=by
 unfold fR;cases e:c6 d a with
 |true=>exact @decide_eq_true _ (Classical.propDecidable _) ⟨d,o,h,e⟩
 |false=>
  refine @decide_eq_false _ (Classical.propDecidable _) ?_;rintro⟨g,c,f,b⟩;rw[Vw.uniq f h c o,e]at b;cases b
theorem gw(I:Inv X pins σ H s){b:D}:∀{ds:List D}{vs:List V}{a:List Value},aG Z H ds vs->Vals vs a->(∀d∈ds,aD 8 d=true)->a.any (fR s Z H b)=ds.any λd=>c6 d b
 |[],_,_,h,r,_=>by rw[h.nil_inv]at r;cases r;rfl
 |d::ds,_,_,h,r,o=>by
  obtain⟨v,vr,rfl,h1,h2⟩:=h.cons_inv;cases r with
  |cons c e=>
   rw[List.any_cons,List.any_cons,gw I h2 e λz f=>o z (by simp[f]),lR (o d (by simp)) (el I h1.now c (o d (by simp)))]
theorem gx(I:Inv X pins σ H s){A:Around}{b:D}{w:Value}(c:A.units+8<cLine)(ox:aD 8 b=true)(f:Vw s Z H b w) :
  ∀{ds:List D}{vs:List V}{a:List Value},aG Z H ds vs->Vals vs a->(∀d∈ds,aD 8 d=true)->∀u∈a,SeqAt.EqAt A s u w (fR s Z H b u)
 |[],_,_,h,r,_,u,hm=>by rw[h.nil_inv]at r;cases r;simp at hm
 |d::ds,_,_,h,r,o,u,hm=>by
  obtain⟨v,vr,rfl,h1,h2⟩:=h.cons_inv;cases r with
  |cons i j=>
   rcases List.mem_cons.mp hm with e|hm
   .subst e
    have g:=el I h1.now i (o d (by simp))
    rw[lR (o d (by simp)) g]
    exact dN I 8 A d b _ w c (o d (by simp)) ox g f
   .exact gx I c ox f h2 j (λz k=>o z (by simp[k])) u hm
end
section
variable{X:Cx}{Γ:hU}{bw:Bool}{a b e:Expr}{ca cb cc c:Ex}{pos:Pos}
def oz(op:CmpOp):R2:=λx y H Q=>∃Z a b k,Now Z H a x/\Now Z H b y/\dc op a b=.ok k/\Q (.bl k) H
theorem jR{Z:Addr->Prop}{H:Hp}{b:List L2.Key}{ds:List D}{x:V}(h:Now Z H (.dct b ds) x):∃a,x=.ref a:=by
 have h:Rep Z H (.dct b ds) x:=h;simp only[Rep]at h;obtain⟨a,_,e,_⟩:=h;exact⟨a,e⟩
theorem ur{Z:Addr->Prop}{H:Hp}{f l:D}{x y:V}{k:Bool}{u v:Value}(d:Now Z H f x)(m:Now Z H l y)(e:RelV x u)(o:RelV y v)(h:isD f l=.ok k):plainIs u v=true/\(u==v)=k:=by
 have rm:∀{g:List D}{x:V}{u:Value},Now Z H (.lst g) x->RelV x u->∃a,u=.ref a:=λn r=>by
  obtain⟨a,_,rfl,_⟩:=cG n;exact⟨a,r⟩
 have j:∀{g:List D}{x:V}{u:Value},Now Z H (.tup g) x->RelV x u->∃a,u=.ref a:=λn r=>by
  obtain⟨a,_,rfl,_⟩:=ed n;exact⟨a,r⟩
 cases l with
 |non=>
  cases ec m;cases o;cases f with
  |non=>cases ec d;cases e;cases h;exact⟨rfl,rfl⟩
  |bl b=>cases ew d;cases e;cases h;exact⟨rfl,rfl⟩
  |int i=>cases aN d;obtain⟨t,rfl⟩:=e;cases h;exact⟨rfl,rfl⟩
  |str i=>cases bR d;obtain⟨t,rfl⟩:=e;cases h;exact⟨rfl,rfl⟩
  |lst g=>obtain⟨a,rfl⟩:=rm d e;cases h;exact⟨rfl,rfl⟩
  |tup g=>obtain⟨a,rfl⟩:=j d e;cases h;exact⟨rfl,rfl⟩
  |dct p g=>obtain⟨a,rfl⟩:=jR d;cases e;cases h;exact⟨rfl,rfl⟩
  |ref n=>exact(show False by simpa only [Now,Rep]using d).elim
 |bl c=>
  cases ew m;cases o;cases f with
  |non=>cases ec d;cases e;cases h;exact⟨rfl,rfl⟩
  |bl b=>cases ew d;cases e;cases h;exact⟨rfl,by cases b<;>cases c<;>rfl⟩
  |int i=>cases aN d;obtain⟨t,rfl⟩:=e;cases h;exact⟨rfl,rfl⟩
  |str i=>cases bR d;obtain⟨t,rfl⟩:=e;cases h;exact⟨rfl,rfl⟩
  |lst g=>obtain⟨a,rfl⟩:=rm d e;cases h;exact⟨rfl,rfl⟩
  |tup g=>obtain⟨a,rfl⟩:=j d e;cases h;exact⟨rfl,rfl⟩
  |dct p g=>cases h
  |ref n=>cases h
 |int _=>cases f<;>cases h
 |str _=>cases f<;>cases h
 |lst _=>cases f<;>cases h
 |tup _=>cases f<;>cases h
 |dct _ _=>cases f<;>cases h
 |ref _=>cases f<;>cases h
theorem uu{pins:List (Addr×Obj)}{s:Shared}{d:L2.St}{H:Hp}{x y:V}{u v:Value}{Q:VK}(L:X.A.units+64<cLine)(I:Inv X pins d H s)(n:RelV x u)(o:RelV y v)
  {Z:Addr->Prop}{a F:D}{k:Bool} (r:Now Z H a x) (t:Now Z H F y) (e:inD a F=.ok k) :
  (Q (.bl k) H->wpAny (model X.prog X.w) X.A (compareOp .In u v) (EP X pins d Q) X.xe s)/\(Q (.bl !k) H->wpAny (model X.prog X.w) X.A (compareOp .NotIn u v) (EP X pins d Q) X.xe s):=by
 unfold inD at e;split at e
 .rename_i z
  split at e
  .rename_i f
   cases e;simp only[Bool.and_eq_true]at f;obtain⟨g,c⟩:=f;have c:=List.all_eq_true.mp c;obtain⟨l,G,rfl,B,h⟩:=cG t;cases o;obtain⟨b,i,p,J⟩:=I.list (i5 (K:=X.K) B);have C:=el I r n g;have j:∀w,w∈b.toArray->SeqAt.EqAt X.A.in1 s w u (fR s Z H a w):=λw E=>gx I (A:=X.A.in1) (by show X.A.units+1+8<cLine;omega) g C h i c w (by simpa using E)
   have m:b.toArray.any (fR s Z H a)=z.any λy=>c6 y a:=by
    rw[←gw I h i c];simp
   exact⟨λq=>SeqAt.in_listAt (fR s Z H a) p.isList j ⟨.bl _,H,I,rfl,by rw[m];exact q⟩,λq=>SeqAt.notIn_listAt (fR s Z H a) p.isList j ⟨.bl _,H,I,rfl,by rw[m];exact q⟩⟩
  .cases e
 .rename_i z
  split at e
  .rename_i f
   cases e;simp only[Bool.and_eq_true]at f;obtain⟨g,c⟩:=f;have c:=List.all_eq_true.mp c;obtain⟨l,G,rfl,_,B,h⟩:=ed t;cases o;obtain⟨b,i,p,J⟩:=I.tuple (nP (K:=X.K) B);have C:=el I r n g;have j:∀w,w∈b.toArray->SeqAt.EqAt X.A.in1 s w u (fR s Z H a w):=λw E=>gx I (A:=X.A.in1) (by show X.A.units+1+8<cLine;omega) g C h i c w (by simpa using E)
   have m:b.toArray.any (fR s Z H a)=z.any λy=>c6 y a:=by
    rw[←gw I h i c];simp
   exact⟨λq=>SeqAt.in_tupleAt (fR s Z H a) p j ⟨.bl _,H,I,rfl,by rw[m];exact q⟩,λq=>SeqAt.notIn_tupleAt (fR s Z H a) p j ⟨.bl _,H,I,rfl,by rw[m];exact q⟩⟩
  .cases e
 .cases e
  cases bR r;cases bR t;exact⟨λq=>mR pins s d H _ _ u v Q I n o ⟨_,_,rfl,rfl,q⟩,λq=>iQ pins s d H _ _ u v Q I n o ⟨_,_,rfl,rfl,q⟩⟩
 .cases e
theorem fu(F:X.A.units+64<cLine)(op:CmpOp):dD X (compareOp op) (oz op):=by
 intro pins s D H x y u v Q I m p h;obtain⟨Z,c,d,k,r,t,e,q⟩:=h;have l:EP X pins D Q (.bool k) s:=⟨.bl k,H,I,rfl,q⟩
 have a:∀{i j:Int}{o:CmpOp}{g:Int->Int->Bool},dD X (compareOp o) (qQ λi j=>.bl (g i j))->c=.int i->d=.int j->k=g i j->wpAny (model X.prog X.w) X.A (compareOp o u v) (EP X pins D Q) X.xe s:=by
  intro i j o g z B C G;subst B C G;cases aN r;cases aN t;exact z pins s D H _ _ u v Q I m p ⟨_,_,rfl,rfl,q⟩
 cases op with
 |Eq=>
  unfold dc at e;dsimp only at e;split at e
  .rename_i f
   cases e;simp only[Bool.and_eq_true]at f;exact oy I (n:=7) (by omega) f.1 f.2 (el I r m f.1) (el I t p f.2) X.prog X.w X.xe _ l
  .cases e
 |NotEq=>
  unfold dc at e;dsimp only at e;split at e
  .rename_i f
   cases e;simp only[Bool.and_eq_true]at f;exact kQ I (n:=7) (by omega) f.1 f.2 (el I r m f.1) (el I t p f.2) X.prog X.w X.xe _ l
  .cases e
 |Lt=>cases c<;>cases d<;>first | (cases e;exact a xr rfl rfl rfl)|cases e
 |LtE=>cases c<;>cases d<;>first | (cases e;exact a xu rfl rfl rfl)|cases e
 |Gt=>cases c<;>cases d<;>first | (cases e;exact a xv rfl rfl rfl)|cases e
 |GtE=>cases c<;>cases d<;>first | (cases e;exact a xy rfl rfl rfl)|cases e
 |In=>
  have e:inD c d=.ok k:=by cases c<;>cases d<;>exact e
  exact(uu F I m p r t e).1 q
 |NotIn=>
  have e:(do let b ←inD c d;Out.ok (!b))=.ok k:=by cases c<;>cases d<;>exact e
  obtain⟨b,B,C⟩:=gu e;cases C;exact(uu F I m p r t B).2 q
 |Is=>
  have e:isD c d=.ok k:=by cases c<;>cases d<;>exact e
  obtain⟨z,E⟩:=ur r t m p e;exact wpAny_is_plain z (by rw[E];exact l)
 |IsNot=>
  have e:(do let b ←isD c d;Out.ok (!b))=.ok k:=by cases c<;>cases d<;>exact e
  obtain⟨b,B,C⟩:=gu e;cases C;obtain⟨z,E⟩:=ur r t m p B;exact wpAny_isNot_plain z (by rw[E];exact l)
theorem vp{op:CmpOp}{c e:D}{x y:V}{Z:Addr->Prop}{H:Hp}{b:Bool}{d:D}{Q:VK}(i:Now Z H c x)(j:Now Z H e y)(f:∀a,Z a->H a≠none)
  (l:(do let r ←dc op c e;Out.ok (false,D.bl r))=.ok (b,d)) (k:∀v g h,cK Z H h g->cx bw b h H g d v->Q v g):oz op x y H Q:=by
 obtain⟨r,m,n⟩:=gu l;cases n;exact⟨Z,c,e,r,i,j,m,k _ H Z (cK.refl f) (.rep (dg rfl))⟩
end
theorem PT.imp{X:Cx}{e:Expr}{t t':TT}(h:PT X e t)(i:∀a H Q,t' a H Q->t a H Q):PT X e t':=λpins s a H Q I q=>h pins s a H Q I (i a H Q q)
theorem PW.imp{X:Cx}{e:Expr}{t t':TT}(h:PW X e t)(i:∀a H Q,t' a H Q->t a H Q):PW X e t':=λb pins s a H Q I q=>h b pins s a H Q I (i a H Q q)
section
variable{X:Cx}{Γ:hU}{bw:Bool}{a b e:Expr}{ca cb cc c:Ex}{pos:Pos}
theorem vq{Z:Addr->Prop}{H:Hp}{d:D}{x:V}{t:Bool}{K:PySem.W.Frag}(n:Now Z H d x)(h:jO d=some t):jH K x H t:=by
 cases d with
 |non=>cases ec n;cases h;rfl
 |bl b=>cases ew n;cases h;rfl
 |int b=>cases aN n;cases h;rfl
 |str b=>
  cases bR n;simp only[jO]at h;split at h
  .rename_i j
   cases h;refine⟨bg j,?_⟩
   have e:((b.length:Int) != 0)=(b.length != 0):=by
    rw[Bool.eq_iff_iff];simp only[bne_iff_ne,ne_eq];omega
   rw[e]
  .cases h
 |lst f=>
  obtain⟨a,c,rfl,g,i⟩:=cG n;cases h;refine .inl ⟨c,i5 g,?_⟩;have:=i.length;cases f<;>cases c<;>simp at this ⊢
 |tup f=>
  obtain⟨a,c,rfl,_,g,i⟩:=ed n;cases h;refine .inr (.inl ⟨c,nP g,?_⟩);have:=i.length;cases f<;>cases c<;>simp at this ⊢
 |dct l f=>cases h
 |ref k=>cases h
end
def oA(Z:Addr->Prop)(H:Hp):List D->List V->Prop
 |[],vs=>vs=[]
 |d::ds,vs=>∃v r,vs=v::r/\Now Z H d v/\oA Z H ds r
section
variable{Z Z':Addr->Prop}{H H':Hp}
theorem oA.one{d:D}{xs:List V}(h:oA Z H [d] xs):∃x,xs=[x]/\Now Z H d x:=by
 obtain⟨v,r,e,a,b⟩:=h;exact⟨v,by rw[e,show r=[]from b],a⟩
end
def Args(bw:Bool)(Z:Addr->Prop)(H:Hp)(ds:List D)(vs:List V):Prop:=if bw=true then oA Z H ds vs else aG Z H ds vs
theorem PA.imp{X:Cx}{e:List Expr}{t t':TA}(h:PA X e t)(i:∀a H Q,t' a H Q->t a H Q):PA X e t':=λb pins s a H Q I q=>h b pins s a H Q I (i a H Q q)
section
variable{X:Cx}{Γ:hU}{bw:Bool}{a b e:Expr}{es:List Expr}{ca cb cc c cs:Ex}{pos p:Pos}
theorem oB{Z:Addr->Prop}{H:Hp}{ds:List D}{vs:List V}{i:Int}{d:D}(h:aG Z H ds vs)(e:ft ds i=some d):∃v,ft vs i=some v/\Rep Z H d v:=by
 unfold ft at e ⊢;rw[h.length];cases q:mV ds.length i with
 |none=>rw[q]at e;cases e
 |some j=>
  rw[q]at e;exact h.get e
theorem vt{q r:D}{x y:V}{Z:Addr->Prop}{H:Hp}{e:Bool}{d:D}{Q:VK}{K:PySem.W.Frag}(g:Now Z H q x)(h:Now Z H r y)(c:∀a,Z a->H a≠none)(b:kN q r=.ok (e,d))
  (k:∀v i s,cK Z H s i->cx bw e s H i d v->Q v i):xH K x y H Q:=by
 unfold kN at b;split at b
 .obtain⟨l,j,rfl,m,n⟩:=cG g
  cases aN h;split at b
  .rename_i t f
   cases b;obtain⟨v,o,p⟩:=oB n f;exact .inl ⟨l,j,_,v,rfl,rfl,i5 m,o,k v H Z (cK.refl c) (.rep p)⟩
  .cases b
 .obtain⟨l,j,rfl,_,m,n⟩:=ed g
  cases aN h;split at b
  .rename_i t f
   cases b;obtain⟨v,o,p⟩:=oB n f;exact .inr (.inl ⟨l,j,_,v,rfl,rfl,nP m,o,k v H Z (cK.refl c) (.rep p)⟩)
  .cases b
 .cases bR g
  cases aN h;split at b
  .rename_i u
   split at b
   .rename_i w f
    cases b;exact .inr (.inr ⟨_,_,w,rfl,rfl,bg u,f,k _ H Z (cK.refl c) (.rep (dg rfl))⟩)
   .cases b
  .cases b
 .cases b
theorem oC{a:Type}(xs:List a)(b c:Option Int):(cf xs b c).length<=xs.length:=by
 unfold cf;rw[List.length_take,List.length_drop];omega
theorem lS(n d:Nat)(v:Int):max 0 (min (if v<0 then v+(n:Int)else v) (n:Int))=((HT.bB n d (some v):Nat):Int):=by
 show max 0 (min (if v<0 then v+(n:Int)else v) (n:Int))=(((if v<0 then (v+(n:Int)).toNat else min v.toNat n):Nat):Int)
 by_cases a:v<0
 .simp only[if_pos a];omega
 .simp only[if_neg a];omega
theorem oE{a b:Int}{p q:Nat}(d:a=p)(e:b=q):sliceRange a b 1=(List.range (q - p)).map λk=>p+k:=by
 subst d e;unfold sliceRange;simp only[show((1:Int)>0)=True from by simp,if_true]
 by_cases c:(p:Int)<q
 .rw[if_pos c]
  have f:(((q:Int) - p+1 - 1) / 1).toNat=q - p:=by first|omega | (simp;done) | (simp;omega)
  rw[f];refine List.map_congr_left λk _=>?_
  omega
 .rw[if_neg c]
  have:q - p=0:=by omega
  rw[this];rfl
theorem gy(a b:Option Int)(n:Nat):Builtin.Str.strSliceIndices a b 1 n=(List.range (HT.bB n n b - HT.bB n 0 a)).map λk=>HT.bB n 0 a+k:=by
 unfold Builtin.Str.strSliceIndices;simp only[show((1:Int)>0)=True from by simp,if_true]
 refine oE ?_ ?_
 .cases a with
  |none=>rfl
  |some v=>exact lS n 0 v
 .cases b with
  |none=>rfl
  |some v=>exact lS n n v
theorem mY:∀(n a:Nat) (l:List Nat),a+n<=l.length->((List.range n).map λk=>a+k).filterMap (λi=>l[i]?)=(l.drop a).take n:=by
 intro n
 induction n with
 |zero=>intro a l _;simp
 |succ n c=>
  intro a l h;have b:a+n<l.length:=by omega
  rw[List.range_succ,List.map_append,List.filterMap_append,c a l (by omega),List.take_add_one,List.getElem?_drop]
  simp[List.getElem?_eq_getElem b]
theorem oF(x:Str)(a b:Option Int):(Builtin.Str.strSliceIndices a b 1 x.length).filterMap (x.cps[·]?)=cf x.cps.toList a b:=by
 have c:x.cps.toList.length=x.length:=by simp[Str.length]
 have e:=HT.iV x.length 0 (Nat.zero_le _) a;have f:=HT.iV x.length x.length (Nat.le_refl _) b;rw[gy];unfold cf;rw[c];generalize HT.bB x.length 0 a=p at *;generalize HT.bB x.length x.length b=q at *
 by_cases d:p<=q
 .have:=mY (q - p) p x.cps.toList (by rw[c];omega)
  simpa using this
 .have:q - p=0:=by omega
  rw[this];simp
def xU:V->Option Int->Option Int->Hp->VK->Prop:=λx a b H Q=>∃z,x=.str z/\z.length<=sizeLine/\Q (.str ⟨(cf z.cps.toList a b).toArray⟩) H
theorem gz:qZ X xU:=by
 intro pins s G H x v J K a b L Q I j k m n h;obtain⟨z,rfl,M,q⟩:=h;obtain⟨t,rfl⟩:=j;refine⟨"str",_,F.slot_str_getitem.lookup,typeIs_str _ _ _,?_⟩
 have part:∀{w:Value}{o:Option Int},IsPart w o->∃p:Option (Int×Tok),w=partValue p/\p.map (·.1)=o:=λh=>by
  cases h with
  |none=>exact⟨none,rfl,rfl⟩
  |int i t=>exact⟨some (i,t),rfl,rfl⟩
 obtain⟨d,r,m1⟩:=part m;obtain⟨e,y,m2⟩:=part n;subst r y;refine wpAny_getItem_str_slice (l:=d) (u:=e) (st:=none) k rfl ?_
 have A:(slicePicked z d e none).filterMap (z.cps[·]?)=cf z.cps.toList a b:=by
  unfold slicePicked;rw[m1,m2];exact oF z a b
 have N:(cf z.cps.toList a b).length<=z.length:=by
  have:=oC z.cps.toList a b;simpa[Str.length]using this
 unfold sliceMade;split
 .rename_i g
  have c:(slicePicked z d e none).length=z.length:=by
   simp only[Bool.and_eq_true,beq_iff_eq]at g;exact g.2
  have B:(⟨(cf z.cps.toList a b).toArray⟩:Str)=z:=by
   unfold slicePicked at c;rw[m1,m2]at c;have c:(Builtin.Str.strSliceIndices a b 1 z.length).length=z.length:=c;rw[gy,List.length_map,List.length_range]at c;have O:=HT.iV z.length z.length (Nat.le_refl _) b;have f:z.cps.toList.length=z.length:=by simp[Str.length]
   have C:cf z.cps.toList a b=z.cps.toList:=by
    unfold cf;rw[f]
    by_cases D:z.length=0
    .have:z.cps.toList=[]:=List.eq_nil_of_length_eq_zero (by rw[f];exact D)
     rw[this];simp
    .have E:HT.bB z.length 0 a=0:=by omega
     rw[E,List.drop_zero,List.take_of_length_le (by rw[f];omega)]
   rw[C]
  refine⟨.str z,H,I,⟨t,rfl⟩,?_⟩;rw[B]at q;exact q
 .rw[A]
  refine⟨?_,.str _,H,I.tok _,⟨_,rfl⟩,q⟩
  show(cf z.cps.toList a b).toArray.size<=sizeLine
  rw[List.size_toArray];omega
def Dz(K:PySem.W.Frag):V->Option Int->Option Int->Hp->VK->Prop:=λx a b H Q=>xI K x a b H Q\/xU x a b H Q
end
noncomputable def gC(F:List D->Out Rs):Sp:=λg H Q _=>
 ∃Z e b d,(∀a,Z a->H a≠none)/\aG Z H e g/\F e=.ok (b,d)/\∀v c f,cK Z H f c->cx false b f H c d v->Q v c
theorem cx.weak{bw a:Bool}{Z:Addr->Prop}{c H:Hp}{d:D}{v:V}(h:cx false a Z c H d v):cx bw a Z c H d v:=by
 unfold cx at h ⊢;split
 .rename_i b;rw[if_pos b]at h;exact h
 .rename_i b;rw[if_neg b,if_neg Bool.false_ne_true]at h
  split
  .exact h.now
  .exact h
section
variable{X:Cx}{Γ:hU}{bw:Bool}{a b e:Expr}{es:List Expr}{ca cb cc c cs:Ex}{pos p:Pos}
structure xV(X:Cx)(k:Nat)(x:Str)(F:List D->Out Rs):Prop where
 ex:∃(f:Addr) (fd:FuncData) (ps:List Str),X.mg x=some (.ref f)/\PySem.W.keepIn X.K (.ref f)=true/\Binds X.K fd ps []/\bO X.prog X.w X.K X.mg X.base dt k f fd ps (gC F)
section
variable{prog:Program}{w:World}{A:Around}{R:Result->Shared->Prop}{J:Addr}{fp wr:List Addr}{n:Nat}{P:Nat->Value->Prop}{T:Nat->Heap->Prop}
end
end
section
variable{X:Cx}{Γ:hU}{bw:Bool}{a b e:Expr}{es:List Expr}{ca cb cc c cs:Ex}{pos p:Pos}
noncomputable def il.nm:il->Str
 |.len=>"len" |.all=>"all" |.any=>"any" |.sorted=>"sorted" |.list=>"list" |.tuple=>"tuple" |.int=>"int" |.min=>"min" |.max=>"max" |.bool=>"bool"
theorem gD{Z:Addr->Prop}{H:Hp}{d:D}{v:V}{Q:VK}(b:∀a,Z a->H a≠none)(k:∀v c e,cK Z H e c->cx bw false e H c d v->Q v c)(h:df d=some v):Q v H:=
 k _ H Z (cK.refl b) (.rep (dg h))
noncomputable def Ty.nm:Ty->Str
 |.int=>"int" |.str=>"str" |.bool=>"bool" |.list=>"list" |.tuple=>"tuple" |.dict=>"dict"
noncomputable def Ty.id:Ty->String
 |.int=>"int" |.str=>"str" |.bool=>"bool" |.list=>"list" |.tuple=>"tuple" |.dict=>"dict"
theorem rn(t:Ty):bootBuiltins t.nm=some (.type t.id):=by cases t<;>decide +kernel
theorem lT(K:PySem.W.Frag)(t:Ty):PySem.W.kitOne K (.type "NoneType") (.type t.id)=some false/\PySem.W.kitOne K (.type "bool") (.type t.id)=some (t==.bool||t==.int)/\PySem.W.kitOne K (.type "int") (.type t.id)=some (t==.int) /\
  PySem.W.kitOne K (.type "str") (.type t.id)=some (t==.str)/\PySem.W.kitOne K (.type "list") (.type t.id)=some (t==.list)/\PySem.W.kitOne K (.type "tuple") (.type t.id)=some (t==.tuple)/\PySem.W.kitOne K (.type "dict") (.type t.id)=some (t==.dict):=by
 cases t<;>refine⟨?_,?_,?_,?_,?_,?_,?_⟩<;>with_unfolding_all rfl
def xW(K:PySem.W.Frag):List V->Hp->VK->Prop:=λa H Q=>∃Z d x t b,a=[x,.ty (Ty.id t)]/\Now Z H d x/\oq d t=some b/\Q (.bl b) H
theorem fD{K:PySem.W.Frag}{H:Hp}{a:Addr}{vs:List V}{X:Cx}{pins:List (Addr×Obj)}{c:L2.St}{s:Shared}(I:Inv X pins c H s)(h:Rd H a (.tup vs)):∃o,s.heap.get? a=some o/\o.cls=.type "tuple":=by
 obtain⟨_,b,_,o,d,e,_⟩:vs.length<=sizeLine/\∃b:List Value,Vals vs b/\IsTup s.heap a b.toArray:=Rd.ok h I.hok;exact⟨o,d,e⟩
theorem oG:cW X (.builtin "isinstance") (xW X.K):=by
 intro pins s y H M N Q I r h;obtain⟨Z,d,x,t,b,rfl,f,i,q⟩:=h;obtain⟨u,A,rfl,j,B⟩:=vals2 r;cases (show A=Value.type (Ty.id t)from B)
 obtain⟨C,D,E,F,n,G,J⟩:=lT X.K t;have e:∀l,EP X pins y Q (.bool b) {s with toks:=l}:=λl=>⟨.bl b,H,I.tok l,rfl,q⟩
 cases d with
 |non=>cases ec f;cases i;exact bC I j .non C e
 |bl c=>cases ew f;cases i;exact bC I j (.bl c) D e
 |int c=>cases aN f;cases i;exact bC I j (.int c) E e
 |str c=>cases bR f;cases i;exact bC I j (.str c) F e
 |lst m=>
  obtain⟨a,p,rfl,g,w⟩:=cG f;cases i;rcases g with g|⟨o,g⟩
  .exact bC I j (.lst g) n e
  .exact bC I j (.eK g) n e
 |tup m=>
  obtain⟨a,p,rfl,_,g,w⟩:=ed f;cases i;cases j;exact PySem.W.kia_one PySem.W.kitx_tuple I.dB (fD (K:=X.K) I g) G (λz=>nomatch z) e
 |dct L m=>
  have f:Rep Z H (.dct L m) x:=f;simp only[Rep]at f;obtain⟨a,p,rfl,_,g,w⟩:=f;cases i;exact bC I j (.dK g) J e
 |ref k=>cases i
end
abbrev lU(a:List Expr)(env:Env):Sem Bool:=forIn a true λc r=>if r=true then do let ok ←isTrue c env (eval c env);pure (ForInStep.yield ok)else pure (ForInStep.yield r)
section
variable{prog:Program}{w:World}{A:Around}{R:Result->Shared->Prop}{s:Shared}
theorem mZ{a e iter:Expr}{b:List Expr}{scope:Scope}{pos:Pos}{it c:Value}{env:Env}(J:Nat->Shared->Prop)
  (d:∀n s,J n s->wpAny (model prog w) A (pyNext it) (λr f=>match r with
   |none=>R (.ok .next) f
   |some v=>wpAny (model prog w) A (letOwnedTupleGo e it v) (λ_ j=>wpAny (model prog w) A (assign e env v) (λ_ k=>wpAny (model prog w) A (lU b env) (λok g=>
      if ok=true then wpAny (model prog w) A (eval a env) (λx l=>wpAny (model prog w) A (call (.builtin "list.append") [c,x]) (λ_ o=>∃m,m<n/\J m o) (λ_ _=>False) l) (λ_ _=>False) g
      else ∃m,m<n/\J m g) (λ_ _=>False) k) (λ_ _=>False) j) (λ_ _=>False) f) (λ_ _=>False) s)
  (n:Nat) (h:J n s):codeAny (model prog w) A (.compLoop (.ListComp a [⟨e,iter,b,0⟩] scope pos) 0 it c env) R s:=by
 refine codeAny_loop rfl J (λn s q=>?_) n h
 refine wpAny_noted (env:=env) (m:=compTurn (.ListComp a [⟨e,iter,b,0⟩] scope pos) 0 it c env) ?_;rw[compTurn_list];refine wpAny_bind (wpAny_standAt (wpAny_bind (wpAny_mono (d n s q) (λr f p=>?_) λ_ _ z=>z.elim)))
 cases r with
 |none=>exact wpAny_pure p
 |some v=>
  refine wpAny_bind (wpAny_mono p (λ_ j t=>wpAny_bind (wpAny_mono t (λ_ k u=>wpAny_bind (wpAny_mono u (λok g i=>?_) λ_ _ z=>z.elim)) λ_ _ z=>z.elim)) λ_ _ z=>z.elim)
  cases ok with
  |false=>exact wpAny_pure ⟨rfl,by simpa using i⟩
  |true=>
   rw[if_pos rfl]at i;refine wpAny_bind (wpAny_bind (wpAny_mono i (λx l y=>wpAny_bind (wpAny_mono y (λ_ o B=>?_) λ_ _ z=>z.elim)) λ_ _ z=>z.elim))
   exact wpAny_pure (wpAny_pure ⟨rfl,B⟩)
end
theorem kR{scope:Scope}{env:Env}(h:∀y∈scope.names,y.2=.free->∃c,env.cells.lookup y.1=some c) :
  ∃d,closureFor scope env=pure d/\(∀n c,(n,c)∈d->env.cells.lookup n=some c)/\∀y∈scope.names,y.2=.free->∃c,(y.1,c)∈d:=by
 have u:∀(l:List (Str×NameKind)) (b:List (Str×Addr)),(∀y∈l,y.2=.free->∃c,env.cells.lookup y.1=some c)->(∀n c,(n,c)∈b->env.cells.lookup n=some c) ->
   ∃d,(forIn l b λx r=>match x with | (name,kind)=>if (kind==NameKind.free)=true then do let a ←cellOf env name;pure (ForInStep.yield ((name,a)::r))else pure (ForInStep.yield r):Sem (List (Str×Addr)))=pure d /\
    (∀n c,(n,c)∈d->env.cells.lookup n=some c)/\(∀p∈b,p∈d)/\∀y∈l,y.2=.free->∃c,(y.1,c)∈d:=by
  intro l
  induction l with
  |nil=>intro b _ o;exact⟨b,rfl,o,λ_ w=>w,λ_ D=>absurd D (by simp)⟩
  |cons y l C=>
   intro b A o;obtain⟨n,k⟩:=y;cases g:(k==NameKind.free)with
   |false=>
    obtain⟨d,e,i,s,j⟩:=C b (λz hz=>A z (by simp[hz])) o
    refine⟨d,?_,i,s,λz hz f=>?_⟩
    .rw[List.forIn_cons]
     simp only[g,Bool.false_eq_true,if_false];exact e
    .rcases List.mem_cons.mp hz with rfl|hz
     .have:k=.free:=f
      rw[this]at g;exact absurd g (by decide)
     .exact j z hz f
   |true=>
    have B:k=.free:=by simpa using g
    obtain⟨c,t⟩:=A (n,k) (by simp) B
    obtain⟨d,e,i,s,j⟩:=C ((n,c)::b) (λz hz=>A z (by simp[hz])) (λE F G=>by
     rcases List.mem_cons.mp G with q|q
     .cases q;exact t
     .exact o E F q)
    refine⟨d,?_,i,λp w=>s p (by simp[w]),λz hz f=>?_⟩
    .rw[List.forIn_cons]
     simp only[g,if_true]
     have:cellOf env n=pure c:=by
      have t:env.cells.lookup n=some c:=t;unfold cellOf;rw[t]
     rw[this];exact e
    .rcases List.mem_cons.mp hz with rfl|hz
     .exact⟨c,s _ (by simp)⟩
     .exact j z hz f
 obtain⟨d,e,i,_,j⟩:=u scope.names [] h (λ_ _ z=>absurd z (by simp))
 refine⟨d,?_,i,j⟩;unfold closureFor;have H:=congrArg (λm:Sem (List (Str×Addr))=>m >>= λr=>pure r) e
 exact H
noncomputable def blk(X:Cx)(scope:Scope)(a:List (Str×Addr))(C:Addr)(N:List Str)(s₀:Shared)(H₀:Hp)(b:List Addr):Cx:=
 {X with N:=N,s₀:=s₀,H₀:=H₀,env:=compEnvC scope a C X.env,outer:=X.stack,stack:=X.stack,ex:=b,fn:=λ_=>false,pn:=[],xe:=λ_ _=>False}
theorem lookup_mem{a b:Type}[BEq a][LawfulBEq a]:∀{l:List (a×b)}{x:a}{v:b},l.lookup x=some v->(x,v)∈l
 |[],_,_,h=>by simp at h
 | (n,k)::r,x,v,h=>by
  rw[List.lookup_cons]at h;cases e:x==n with
  |true=>rw[e]at h;cases h;rw[eq_of_beq e];simp
  |false=>rw[e]at h;exact List.mem_cons_of_mem _ (lookup_mem h)
theorem mem_lookup{a b:Type}[BEq a][LawfulBEq a]:∀{l:List (a×b)}{x:a}{v:b},(x,v)∈l->∃u,l.lookup x=some u
 |[],_,_,h=>by simp at h
 | (n,k)::r,x,v,h=>by
  rw[List.lookup_cons];cases e:x==n with
  |true=>exact⟨k,rfl⟩
  |false=>
   rcases List.mem_cons.mp h with q|q
   .cases q;simp at e
   .exact mem_lookup q
theorem cL{env:Env}:∀(names:List (Str×NameKind)) (x:Str),(names.map λ(n,k)=>if (k==NameKind.free&&env.scope.kind==.function&&env.kindOf n==some .cell)then (n,NameKind.cell)else (n,k)).lookup x =
  (names.lookup x).map λk=>if (k==NameKind.free&&env.scope.kind==.function&&env.kindOf x==some .cell)then NameKind.cell else k
 |[],_=>rfl
 | (n,k)::r,x=>by
  have c:=cL (env:=env) r x
  show List.lookup x ((if (k==NameKind.free&&env.scope.kind==.function&&env.kindOf n==some .cell)=true then (n,NameKind.cell)else (n,k))::_)=_
  cases b:x==n with
  |true=>
   obtain rfl:x=n:=eq_of_beq b
   by_cases a:(k==NameKind.free&&env.scope.kind==.function&&env.kindOf x==some .cell)=true
   .rw[if_pos a,List.lookup_cons,List.lookup_cons]
    simp only[b,Option.map_some,if_pos a]
   .rw[if_neg a,List.lookup_cons,List.lookup_cons]
    simp only[b,Option.map_some,if_neg a]
  |false=>
   by_cases a:(k==NameKind.free&&env.scope.kind==.function&&env.kindOf n==some .cell)=true
   .rw[if_pos a,List.lookup_cons,List.lookup_cons]
    simp only[b];exact c
   .rw[if_neg a,List.lookup_cons,List.lookup_cons]
    simp only[b];exact c
structure fE(X:Cx)(scope:Scope)(tn cn:List Str)(cap:List Nat):Prop where
 kind:scope.kind=.function
 cell:∀y∈scope.names,y.2≠.cell
 names:∀y∈scope.names,y.2=.local->scope.names.lookup y.1=some .local
 free:∀y∈scope.names,y.2=.free->X.env.kindOf y.1=some .cell\/X.env.kindOf y.1=some .free
 len:cn.length=cap.length
 at':∀(j i:Nat) (x:Str),cn[j]?=some x->cap[j]?=some i->X.N[i]?=some x/\scope.names.lookup x=some .free
noncomputable def jS(cap:List Nat)(a:L2.St):L2.St:=cap.map λi=>(a[i]?).join
def dz(a:Nat)(cap:List Nat)(b:L2.St):L2.St:=List.replicate a none++jS cap b
section
variable{X:Cx}{scope:Scope}{tn cn:List Str}{cap:List Nat}
theorem m4{pins:List (Addr×Obj)}{j:L2.St}{H:Hp}{s:Shared}{G:List Addr}{C:List (Str×Addr)}{J:Heap}{tk:Nat}{m:Str->Option Value}(B:fE X scope tn cn cap)
  (I:Inv X pins j H s) (K:∀b∈G,hI X pins H b) (N:∀b∈G,∃o,s.heap.get? b=some o) (c1:∀n c,(n,c)∈C->X.env.cells.lookup n=some c) (c2:∀y∈scope.names,y.2=.free->∃c,(y.1,c)∈C)
  (L:∀b o,s.heap.get? b=some o->J.get? b=some o) (r:∃n,J.get? s.heap.objs.size=some {cls:=.type "list",data:=.seq ([]:List Value).toArray n}) (ns:J.Ns (s.heap.objs.size+1) m) :
  Inv (blk X scope C (s.heap.objs.size+1) (tn++cn) s H G) [] (dz tn.length cap j) (upd H s.heap.objs.size (.lst [])) {s with heap:=J,toks:=tk}:=by
 have O:∀b o,s.heap.get? b=some o->b≠s.heap.objs.size+1:=λb o e=>Nat.ne_of_lt (Nat.lt_succ_of_lt (Heap.lt_size e))
 have P:∀b o,s.heap.get? b=some o->b≠s.heap.objs.size:=λb o e=>Nat.ne_of_lt (Heap.lt_size e)
 have cell:∀x c,C.lookup x=some c->∃v,s.heap.IsCell c v:=λx c e=>I.cell x c (c1 x c (lookup_mem e))
 have Q:∀x c,C.lookup x=some c->c≠s.heap.objs.size+1/\c≠s.heap.objs.size:=λx c e=>by
  obtain⟨v,o,w,_⟩:=cell x c e;exact⟨O c o w,P c o w⟩
 have R:∀b∈G,b<s.heap.objs.size:=λb g=>let ⟨o,e⟩:=N b g;Heap.lt_size e
 have fr:=I.hok.fresh (Nat.le_refl s.heap.objs.size);obtain⟨nd,r⟩:=r
 refine⟨⟨I.ok.mod,B.kind,I.ok.glob,I.ok.blt,Nat.le_succ _,λx y c A a=>?_,λx f=>?_,λx c e _=>absurd (show false=true from e) Bool.false_ne_true,I.ok.hd,I.ok.frames,.inl rfl,λb g=>⟨?_,λx c e z=>?_⟩,λb o e=>I.bs b o e,Nat.le_trans I.ok.qD I.sz,λb o e g=>?_,λb g S=>?_,I.stack,I.lA⟩,
  rfl,I.bare,?_,⟨m,ns,λi x v A a e3=>?_⟩,λx c e=>?_,?_,λx c e=>?_,λp hp=>absurd (show p∈([]:List (Addr×Obj))from hp) (by simp),?_,?_⟩
 .exact I.ok.inj x y c (c1 x c (lookup_mem A)) (c1 y c (lookup_mem a))
 .have f:(relabel scope X.env).names.lookup x=some .cell\/(relabel scope X.env).names.lookup x=some .free:=f
  unfold relabel at f;simp only[cL]at f;cases q:scope.names.lookup x with
  |none=>rw[q]at f;simp at f
  |some k=>
   rw[q]at f;have hm:=lookup_mem q
   have h:k=.free:=by
    by_cases h:k=.free
    .exact h
    .have T:(k==NameKind.free)=false:=by simpa using h
     rw[Option.map_some]at f;simp only[T,Bool.false_and,Bool.false_eq_true,if_false,Option.some.injEq]at f;rcases f with z|z
     .exact absurd z (B.cell _ hm)
     .exact z
   obtain⟨c,U⟩:=c2 _ hm h;exact mem_lookup U
 .exact Nat.ne_of_lt (Nat.lt_succ_of_lt (R b g))
 .exact(K b g).2.2.2.2.1 x c (c1 x c (lookup_mem e)) z
 .rcases(K b g).2.2.2.1 with z|z
  .exact I.ok.nS b o e z
  .exact absurd (Nat.lt_of_lt_of_le (Heap.lt_size (I.ok.bs b o e).1) z) (Nat.lt_irrefl _)
 .rcases List.mem_cons.mp (I.ky b S)with z|z
  .exact(K b g).2.1 z
  .exact(K b g).2.2.1 z
 .exact Un.laid L (Nat.le_refl _) fr
 .have D:i<tn.length->False:=λE=>by
   have:(dz tn.length cap j)[i]?=some none:=by
    unfold dz;rw[List.getElem?_append_left (by simpa using E),List.getElem?_replicate,if_pos E]
   rw[this]at a;cases a
  have E:tn.length<=i:=Nat.le_of_not_lt D;have A:(tn++cn)[i]?=some x:=A;rw[List.getElem?_append_right E]at A
  have d:(jS cap j)[i - tn.length]?=some (some v):=by
   unfold dz at a;rw[List.getElem?_append_right (by simpa using E)]at a
   simpa using a
  unfold jS at d;rw[List.getElem?_map]at d;cases q:cap[i - tn.length]? with
  |none=>rw[q]at d;cases d
  |some M=>
   rw[q]at d;have a:(j[M]?).join=some v:=by simpa using d
   have e4:j[M]?=some (some v):=by
    cases q2:j[M]? with
    |none=>rw[q2]at a;cases a
    |some z=>rw[q2]at a;cases z with
     |none=>cases a
     |some z=>cases a;rfl
   obtain⟨hN,t⟩:=B.at' _ _ _ A q;have h:=B.free _ (lookup_mem t) rfl;have h:X.env.kindOf x=some .cell\/X.env.kindOf x=some .free:=h
   have F:qC X.env.scope x:=by
    rcases h with z|z
    .exact .inr (.inl z)
    .exact .inr (.inr z)
   obtain⟨m0,b0,V⟩:=I.loc;obtain⟨u,ru,Y⟩:=V M x v hN e4 F;refine⟨u,ru,.inr ⟨?_,?_⟩⟩
   .show(relabel scope X.env).names.lookup x=some .cell\/(relabel scope X.env).names.lookup x=some .free
    unfold relabel;simp only[cL,t,Option.map_some];split
    .exact .inl rfl
    .exact .inr rfl
   .have Y:∃c,X.env.cells.lookup x=some c/\s.heap.IsCell c (some u):=by
     rcases Y with ⟨z,_⟩|⟨_,z⟩
     .rcases h with y|y<;>rw[y]at z<;>cases z
     .exact z
    obtain⟨c,U,Z⟩:=Y;obtain⟨c',a0⟩:=c2 _ (lookup_mem t) rfl;obtain⟨d0,l⟩:=mem_lookup a0;have:=c1 _ _ (lookup_mem l);rw[U]at this;cases this
    obtain⟨o,w,r⟩:=Z;exact⟨c,l,o,L _ _ w,r⟩
 .obtain⟨v,o,w,r⟩:=cell x c e
  exact⟨v,o,L _ _ w,r⟩
 .show upd H s.heap.objs.size (.lst []) (s.heap.objs.size+1)=none
  rw[ao (Nat.succ_ne_self _)];exact I.hok.fresh (Nat.le_succ _)
 .refine⟨?_,λhz=>absurd (show false=true from hz) Bool.false_ne_true⟩
  rw[ao (Q x c e).2];exact(I.cJ x c (c1 x c (lookup_mem e))).1
 .refine I.hok.laid L (Nat.le_refl _) ⟨Nat.zero_le _,[],nd,.nil,r⟩
 .show(dz tn.length cap j).length=(tn++cn).length
  unfold dz jS;rw[List.length_append,List.length_append,List.length_replicate,List.length_map,B.len]
def rp(X:Cx)(a:List Expr)(t:TT):Prop:=∀(pins:List (Addr×Obj)) (s:Shared) (b:L2.St) (H:Hp) (Q:Bool->Hp->Prop),Inv X pins b H s->t b H Q->wpAny (model X.prog X.w) X.A (lU a X.env) (TP X pins b Q) X.xe s
theorem rq:rp X [] (λ_ H Q=>Q true H):=λpins s a H Q I h=>wpAny_pure ⟨H,I,h⟩
theorem ry{c:Expr}{t:TT}(h:PT X c t):rp X [c] t:=λpins s a H Q I q=>wpAny_tests_one (h pins s a H Q I q)
def ip(n:TI)(o:Nat)(cap:List Nat)(g:TG)(p:TT)(q:TE):TE:=λf H Q=>n f H λJ h=>∀D,h D=none->∃W:Nat->Nat->List V->Hp->Prop,(∃m,W 0 m [] (upd h D (.lst []))) /\
 ∀i m a c,W i m a c->c D=some (.lst a)/\((J.stop i c/\Q (.ref D) c)\/(J.go i c/\a.length<sizeLine/\∀x j,J.zG i c x j->g x (dz o cap f) j λd r=>p d r λb k=>
  if b=true then q d k λy l=>l D=some (.lst a)/\∃e,e<m/\W (i+1) e (a++[y]) (upd l D (.lst (a++[y])))else ∃e,e<m/\W (i+1) e a k))
theorem iq{tg iter M:Expr}{N:List Expr}{pos Z:Pos}{wi:TI}{g:TG}{tc:TT}{te:TE}{use:Option (Value->Sem Unit)}{Q':Value->Shared->Prop}{Q:VK}{pins:List (Addr×Obj)}{f:L2.St}{H:Hp}{s:Shared}
  (hc:X.calm=true) (B:fE X scope tn cn cap) (hi:PI X tg iter wi) (hs:∀x,foldedSetIterable iter X.env x=pure x)
  (l0:∀v f H Q,g v f H Q->g v f H λO k=>Q O k/\O.length=f.length/\∀j,tn.length<=j->O[j]?=f[j]?)
  (a:∀l C t E d,PG (blk X scope l C (tn++cn) t E d) tg g/\rp (blk X scope l C (tn++cn) t E d) N tc/\PE (blk X scope l C (tn++cn) t E d) M te)
  (n0:∀(V:Shared) (k:Hp) (C D:Addr) (m:Str->Option Value),Inv X pins f k V->V.heap.Ns C m->k C=none->C≠X.env.locals->X.s₀.heap.objs.size<=C->(∀x c,X.env.cells.lookup x=some c->c≠C)->(∀p∈X.pn++pins,p.1≠C)->Q (.ref D) k ->
   compPost (model X.prog X.w) X.A X.xe use Q' (.ref D) C (.ok .next) V)
  (I:Inv X pins f H s) (h:ip wi tn.length cap g tc te f H Q) :
  wpAny (model X.prog X.w) X.A (comprehension (.ListComp M [⟨tg,iter,N,0⟩] scope pos) scope X.env Z (newList []) false (eval iter X.env) use) Q' X.xe s:=by
 have o0:∀y∈scope.names,y.2=.free->∃c,X.env.cells.lookup y.1=some c:=λy hy hk=>I.ok.has y.1 (B.free y hy hk)
 obtain⟨l,p0,c1,c2⟩:=kR o0;refine wpAny_comprehension_free (use:=use) rfl hs p0 B.kind B.names ?_;refine bz (hi pins s f H _ I h) λv s1 P=>bz P λv0 s2 h2=>?_
 obtain⟨it,d,R,J,F,e,S,T,a0,f2,h⟩:=h2;subst e;have fr:=S.hok.fresh (Nat.le_refl s2.heap.objs.size);obtain⟨W,⟨m0,w0⟩,b0⟩:=h s2.heap.objs.size fr;refine wpAny_newObj_type (wpAny_newFunctionEnv B.cell (λy hy=>absurd hy (by simp)) (λP ns sb=>?_) B.kind)
 have q0:(s2.heap.push {cls:=.type "list",dict:=none,data:=.seq ([]:List Value).toArray}).objs.size=s2.heap.objs.size+1:=Heap.size_push _ _;dsimp only at ns sb ⊢;rw[q0]at ns sb ⊢;have kp:∀b o,s2.heap.get? b=some o->P.get? b=some o:=λb o e=>sb.extBut b o (Nat.ne_of_lt (Nat.lt_succ_of_lt (Heap.lt_size e))) (Heap.get?_push_of_some _ (Heap.get?_push_of_some _ e))
 have hD:∃n,P.get? s2.heap.objs.size=some {cls:=.type "list",data:=.seq ([]:List Value).toArray n}:=⟨0,sb.extBut _ _ (Nat.ne_of_lt (Nat.lt_succ_self _)) (Heap.get?_push_of_some _ (Heap.get?_push_size _ rfl))⟩;have d0:∀b∈d,∃o,s2.heap.get? b=some o:=λb a=>let ⟨o,e,_⟩:=T.obj 0 _ a0 b a;⟨o,e⟩
 have I4:Inv (blk X scope l (s2.heap.objs.size+1) (tn++cn) s2 F d) [] (dz tn.length cap f) (upd F s2.heap.objs.size (.lst [])) {s2 with heap:=P,toks:=s2.toks+([]:List (Str×Value)).length}:=
  m4 B S f2 d0 c1 c2 kp hD ns
 obtain⟨hg,ht,he⟩:=a l (s2.heap.objs.size+1) s2 F d;have e0:R 0 P:=T.keep 0 _ _ a0 λb a o e=>kp b o e
 have r0:∀b∈d,upd F s2.heap.objs.size (.lst []) b=none:=λb a=>by
  obtain⟨o,e⟩:=d0 b a;rw[ao (Nat.ne_of_lt (Heap.lt_size e))];exact(f2 b a).1
 have G:∀{k:Hp}{pl:List (Addr×Obj)},(∀b∈d,k b=none)->∀b∈d,hI (blk X scope l (s2.heap.objs.size+1) (tn++cn) s2 F d) [] k b:=λhn b a=>
  ⟨hn b a,(I4.ok.zE b a).1,I4.ok.nT b a,.inl a,(I4.ok.zE b a).2,λp hp=>absurd (show p∈([]:List (Addr×Obj))from hp) (by simp)⟩
 have L:codeAny (model X.prog X.w) X.A (.compLoop (.ListComp M [⟨tg,iter,N,0⟩] scope pos) 0 (.ref it) (.ref s2.heap.objs.size) (compEnvC scope l (s2.heap.objs.size+1) X.env))
   (compPost (model X.prog X.w) X.A X.xe use Q' (.ref s2.heap.objs.size) (s2.heap.objs.size+1)) {s2 with heap:=P,toks:=s2.toks+([]:List (Str×Value)).length}:=by
  refine mZ (λn V=>∃i U k,Inv (blk X scope l (s2.heap.objs.size+1) (tn++cn) s2 F d) [] (dz tn.length cap f) k V/\R i V.heap/\(∀b∈d,k b=none)/\W i n U k) ?_ m0 ⟨0,[],_,I4,e0,r0,w0⟩
  rintro n s5 ⟨i,U,H5,I5,g0,h0,w5⟩;obtain⟨y0,s0⟩:=b0 i n U H5 w5;rcases s0 with ⟨stop,qn⟩|⟨go,i0,step⟩
  .refine bz (T.done (blk X scope l (s2.heap.objs.size+1) (tn++cn) s2 F d) rfl rfl rfl hc i [] s5 _ H5 _ I5 (G (pl:=[]) h0) g0 stop) λr s6 ⟨hr,Y⟩=>?_
   subst hr;obtain⟨mC,nC,_⟩:=Y.loc
   have I7:Inv X pins f H5 s6:=by
    refine S.call' Y.os Y.base Y.hok Y.bare λb a=>?_
    obtain⟨f0,f1,f3,f4,f5,f6⟩:=f2 b a;exact⟨f4,f1,f5,f6⟩
   have hC:s2.heap.objs.size<=s2.heap.objs.size+1:=Nat.le_succ _;refine n0 s6 H5 (s2.heap.objs.size+1) s2.heap.objs.size mC I7 nC Y.free (Nat.ne_of_gt (Nat.lt_of_lt_of_le S.lt hC)) (Nat.le_trans S.sz hC) (λx c e z=>?_) (λp hp z=>?_) qn
   .obtain⟨v,q⟩:=S.cell x c e
    exact absurd (Nat.lt_of_lt_of_le q.lt (by rw[z];exact hC)) (Nat.lt_irrefl _)
   .exact absurd (Nat.lt_of_lt_of_le (Heap.lt_size (S.pin p hp).1) (by rw[z];exact hC)) (Nat.lt_irrefl _)
  .refine bz (T.item (blk X scope l (s2.heap.objs.size+1) (tn++cn) s2 F d) rfl rfl rfl hc i [] s5 _ H5 _ I5 (G (pl:=[]) h0) g0 go) λr s6 ⟨u,hr,h6⟩=>?_
   subst hr;refine bz h6 λ_ s7 ⟨x,H7,I7,r7,y7,Bh,DA⟩=>?_
   have t0:=I7.pinned (G (pl:=[]) DA) (T.obj _ _ Bh);refine bz (hg _ s7 _ H7 x u _ t0 r7 (l0 _ _ _ _ (step x H7 y7))) λ_ s8 ⟨K,H8,I8,q8,l8,k8⟩=>?_
   refine bz (ht _ s8 K H8 _ I8 q8) λok s9 ⟨H9,I9,q9⟩=>?_
   have again:∀{sA:Shared}{HA:Hp},Inv (blk X scope l (s2.heap.objs.size+1) (tn++cn) s2 F d) ([]++gh d s7.heap) K HA sA->Inv (blk X scope l (s2.heap.objs.size+1) (tn++cn) s2 F d) [] (dz tn.length cap f) HA sA/\R (i+1) sA.heap/\∀b∈d,HA b=none:=λ{sA HA} IA=>by
    refine⟨(IA.eN (pins:=[])).weak l8.symm λj v hj=>?_,T.keep _ _ _ Bh λb a o e=>(IA.pin (b,o) (List.mem_append_right _ (List.mem_append_right _ (dr a e)))).1,λb a=>?_⟩
    .have u0:tn.length<=j:=by
      refine Nat.le_of_not_lt λj0=>?_
      have:(dz tn.length cap f)[j]?=some none:=by
       unfold dz;rw[List.getElem?_append_left (by simpa using j0),List.getElem?_replicate,if_pos j0]
      rw[this]at hj;cases hj
     rw[k8 j u0];exact hj
    .obtain⟨o,e,_⟩:=T.obj _ _ Bh b a
     exact(IA.pin (b,o) (List.mem_append_right _ (List.mem_append_right _ (dr a e)))).2.1
   cases ok with
   |false=>
    rw[if_neg Bool.false_ne_true]at q9 ⊢;obtain⟨m',hm,w'⟩:=q9;obtain⟨a1,a2,a3⟩:=again I9;exact⟨m',hm,i+1,U,H9,a1,a2,a3,w'⟩
   |true=>
    rw[if_pos rfl]at q9 ⊢;refine bz (he _ s9 K H9 _ I9 q9) λy sB ⟨v,HB,IB,rB,DB,m',hm,w'⟩=>?_
    have hx:=ij (X:=blk X scope l (s2.heap.objs.size+1) (tn++cn) s2 F d) _ sB K HB (.ref s2.heap.objs.size) [v] (.ref s2.heap.objs.size) [y] (λ_ k=>k=upd HB s2.heap.objs.size (.lst (U++[v]))) IB rfl (.cons rB .nil)
     ⟨s2.heap.objs.size,U,v,rfl,rfl,DB,i0,rfl⟩
    refine bz hx λ_ sC ⟨_,HC,IC,_,eC⟩=>?_
    subst eC;obtain⟨a1,a2,a3⟩:=again IC;exact⟨m',hm,i+1,U++[v],_,a1,a2,a3,w'⟩
 exact codeAny_compStart_list L (T.self X.A 0 _ _ _ e0 L)
theorem rz{l iter f:Expr}{i:List Expr}{pos:Pos}{u:TI}{g:TG}{w:TT}{y:TE}(z:X.calm=true)(B:fE X scope tn cn cap)(A:PI X l iter u)(E:∀x,foldedSetIterable iter X.env x=pure x)
  (n:∀v k H Q,g v k H Q->g v k H λd p=>Q d p/\d.length=k.length/\∀j,tn.length<=j->d[j]?=k[j]?)
  (F:∀r C a c t,PG (blk X scope r C (tn++cn) a c t) l g/\rp (blk X scope r C (tn++cn) a c t) i w/\PE (blk X scope r C (tn++cn) a c t) f y) :
  PE X (.ListComp f [⟨l,iter,i,0⟩] scope pos) (ip u tn.length cap g w y):=by
 intro pins s k H Q I h;rw[eval_ListComp];refine iq (use:=none) z B A E n F (λG p C D m J K L M N O P q=>⟨m,K,λT R=>?_⟩) I h
 exact⟨.ref D,p,J.turned (it:=C) (t':=G.toks) (λb o S e=>R.extBut b o S e) L M (.inr N) O P,rfl,q⟩
theorem kS{r iter k:Expr}{l:List Expr}{pos c n:Pos}{P:TI}{g:TG}{R:TT}{S:TE}{i:Nat}{x:Str}(Z:X.N.Nodup)(u:X.N[i]?=some x)(T:X.env.scope.names.lookup x=some .local)
  (y:swapsWith (.ListComp k [⟨r,iter,l,0⟩] scope pos) (some (.Name x c)) n.line X.env=pure true) (hc:X.calm=true) (B:fE X scope tn cn cap) (hi:PI X r iter P) (hs:∀x,foldedSetIterable iter X.env x=pure x)
  (E:∀v t H Q,g v t H Q->g v t H λp F=>Q p F/\p.length=t.length/\∀j,tn.length<=j->p[j]?=t[j]?)
  (hb:∀G C d f J,PG (blk X scope G C (tn++cn) d f J) r g/\rp (blk X scope G C (tn++cn) d f J) l R/\PE (blk X scope G C (tn++cn) d f J) k S) :
  PS X (.Assign [.Name x c] (.ListComp k [⟨r,iter,l,0⟩] scope pos) n) (u3 (ip P tn.length cap g R S) (ek i)):=by
 intro pins s t H D I h;rw[exec_Assign_Name_used _ _ _ _ y];refine wpAny_bind (wpAny_standAt (wpAny_bind ?_));refine wpAny_bind (m:=comprehension (.ListComp k [⟨r,iter,l,0⟩] scope pos) scope X.env _ (newList []) false (eval iter X.env) (some (assign (.Name x c) X.env))) ?_;refine iq (use:=some (assign (.Name x c) X.env)) (Q':=λ_ K=>wpAny (model X.prog X.w) X.A (pure ()) (λ_ L=>wpAny (model X.prog X.w) X.A (pure Flow.next) (SP X pins D) X.xe L) X.xe K) hc B hi hs E hb (λK F C U m I' ns h1 V h3 Y h5 q=>?_) I h
 show wpAny (model X.prog X.w) X.A (assign (.Name x c) X.env (.ref U)) _ _ K
 refine wpAny_assign_Name (hZ I' Z u (.inl T) (v:=.ref U) rfl (λs2 I2 ch=>?_) (.inr T))
 obtain⟨a,sb,ha⟩:=ch
 have M:C≠a:=by
  rcases ha with rfl|ha
  .exact V
  .exact λz=>Y _ _ ha z.symm
 refine⟨m,ns.sameBut sb M,λh' O=>wpAny_pure (wpAny_pure ?_)⟩
 exact⟨_,F,I2.turned (it:=C) (t':=s2.toks) (λb o nb e=>O.extBut b o nb e) h1 V (.inr h3) Y h5,q⟩
end
theorem PI.imp{X:Cx}{b e:Expr}{t t':TI}(h:PI X b e t)(i:∀a H R,t' a H R->t a H R):PI X b e t':=λpins s a H R I q=>h pins s a H R I (i a H R q)
section
variable{Z:Addr->Prop}{H:Hp}
theorem gE:∀(n:Nat) (a:Int),(intsFrom a n).length=n
 |0,_=>rfl
 |n+1,a=>by rw[intsFrom,List.length_cons,gE n]
theorem ints_get:∀(n:Nat) (a:Int) (i:Nat) (d:D),(intsFrom a n)[i]?=some d->d=.int (a+i)
 |0,_,_,_,h=>by simp[intsFrom]at h
 |n+1,a,0,d,h=>by simp[intsFrom]at h;subst h;simp
 |n+1,a,i+1,d,h=>by
  simp only[intsFrom,List.getElem?_cons_succ]at h;rw[ints_get n (a+1) i d h]
  congr 1
  omega
noncomputable def Cp(x:Str):It:=⟨λi _=>i<x.cps.size,λi H v a=>a=H/\∃c,x.cps[i]?=some c/\v=.str ⟨#[c]⟩,λi _=>x.cps.size<=i⟩
end
theorem oH{P:Program}{w:World}{K:PySem.W.Frag}{U:Expr}(it:Addr)(x:Str)(t:Tok)(j:String)(f:j="str_ascii_iterator"\/j="str_iterator"):Turn P w K U (Cp x) [it] it (λi h=>h.IsStrIter it j x t i) where
 mem:=by simp
 obj:=λi h a b g=>by
  obtain rfl:b=it:=by simpa using g
  obtain⟨o,e,c,d⟩:=a;exact⟨o,e,λv z=>by rw[d]at z;cases z⟩
 keep:=λi h l a k=>let ⟨o,e,r⟩:=a;⟨o,k it (by simp) o e,r⟩
 item:=by
  intro X J L M m i pins s R H E I y a N;subst J L M;obtain⟨B,C,V,D,F,G⟩:=y it (by simp)
  have W:Walks X.prog X.w X.A it [it] [it] x.cps.size (SignAt x) (λi h=>h.IsStrIter it j x t i):=by
   rcases f with rfl|rfl
   .exact Walks.strAscii (I.ok.hd m) it x t
   .exact Walks.strWide (I.ok.hd m) it x t
  refine W.item i s _ _ N a λv l S Y p Z=>?_
  obtain⟨c,u,hx,rfl⟩:=Y;have I1:Inv X pins R H {s with heap:=l,toks:=S}:=I.turned (λb o g e=>Z b o (by simpa using g) e) B C D F G
  obtain⟨o,e,q,d⟩:=id p;refine⟨_,rfl,lD (s:={s with heap:=l,toks:=S}) (n:=j) e q d (by rcases f with rfl|rfl<;>decide) ⟨.str ⟨#[c]⟩,H,I1,⟨u,rfl⟩,⟨rfl,c,hx,rfl⟩,p,λb g=>(y b g).1⟩⟩
 done:=by
  intro X J L M m i pins s R H E I y a N;subst J L M;obtain⟨B,C,V,D,F,G⟩:=y it (by simp)
  have T:x.cps.size<=i:=N;rcases f with rfl|rfl
  .exact wpAny_pyNext_ascii_end (I.ok.hd m) a (by simp[T]) λl O=>⟨rfl,I.turned (t':=s.toks) (λb o g e=>O b o g e) B C D F G⟩
  .exact wpAny_pyNext_wide_end (I.ok.hd m) a (by simp[T]) λl O=>⟨rfl,I.turned (t':=s.toks) (λb o g e=>O b o g e) B C D F G⟩
 self:=λA i s Q E a h=>by
  rcases f with rfl|rfl
  .exact wpAny_pyIter_striter_ascii a h
  .exact wpAny_pyIter_striter_wide a h
section
variable{X:Cx}{Γ:hU}{bw:Bool}{tg e:Expr}{c cs:Ex}{pos p:Pos}
def Bi(K:PySem.W.Frag)(d:TE):TI:=λe H R=>d e H λx b=>(∃a c,x=.ref a/\Rd b a (.lst c)/\R (A7 K a) b)\/(∃a c,x=.ref a/\Rd b a (.tup c)/\R (A8 K a) b)\/∃y,x=.str y/\R (Cp y) b
theorem vu{m:TE}(n:PE X e m):PI X tg e (Bi X.K m):=by
 intro pins s p H R I h;refine bz (n pins s p H _ I h) λv c ⟨x,g,d,i,r⟩=>?_
 have j:∀b∈[c.heap.objs.size],hI X pins g b:=λb u=>by
  obtain rfl:b=c.heap.objs.size:=by simpa using u
  exact d.qP (Nat.le_refl _) (d.hok.fresh (Nat.le_refl _))
 rcases r with ⟨a,w,rfl,k,q⟩|⟨a,w,rfl,k,q⟩|⟨y,rfl,q⟩
 .cases i
  obtain⟨f,z,l,A⟩:=d.list (i5 (K:=X.K) k);refine wpAny_pyIter_list l.isList ?_;exact⟨c.heap.objs.size,[c.heap.objs.size],_,_,g,rfl,d.kept (t':=c.toks) λb o e=>Heap.get?_push_of_some _ e,mO a _,⟨_,Heap.get?_push_size _ rfl,rfl,rfl⟩,j,q⟩
 .cases i
  obtain⟨f,z,l,A⟩:=d.tuple (nP (K:=X.K) k);refine wpAny_pyIter_tuple (show c.heap.IsTuple a f.toArray from l) ?_
  exact⟨c.heap.objs.size,[c.heap.objs.size],_,_,g,rfl,d.kept (t':=c.toks) λb o e=>Heap.get?_push_of_some _ e,kz a _,⟨_,Heap.get?_push_size _ rfl,rfl,rfl⟩,j,q⟩
 .obtain⟨t,rfl⟩:=i
  refine wpAny_pyIter_strU ?_;exact⟨c.heap.objs.size,[c.heap.objs.size],_,_,g,rfl,d.kept (t':=c.toks) λb o e=>Heap.get?_push_of_some _ e,oH _ y t (strIterType y) (by unfold strIterType;split<;>simp),⟨_,Heap.get?_push_size _ rfl,rfl,rfl⟩,j,q⟩
end
section
variable{X:Cx}{Γ:hU}{bw:Bool}{tg iter elt:Expr}{ifs:List Expr}{scope:Scope}{tn cn:List Str}{cap:List Nat}{DC cc EA:Ex}{pos:Pos}{n:Nat}
theorem fF(n:Nat)(d:0<n):∀v b H Q,ek 0 v b H Q->ek 0 v b H λa c=>Q a c/\a.length=b.length/\∀j,n<=j->a[j]?=b[j]?:=λv b H Q h=>⟨h,by simp,λj e=>by
 rw[List.getElem?_set_ne];omega⟩
end
theorem PS.imp{X:Cx}{st:Stmt}{t t':TS}(h:PS X st t)(i:∀D a H,t' D a H->t D a H):PS X st t':=λpins s a H D I q=>h pins s a H D I (i D a H q)
theorem fT.imp{X:Cx}{st:List Stmt}{t t':TS}(h:fT X st t)(i:∀D a H,t' D a H->t D a H):fT X st t':=λpins s a H D I q=>h pins s a H D I (i D a H q)
section
variable{X:Cx}{Γ:hU}{e:Expr}{c:Ex}{st:Stmt}{rest:List Stmt}{a b:Cq}{pos pos':Pos}
end
section
variable{Z0 Z1 Z:Addr->Prop}{H0 H1 H:Hp}{ρ:rh}{σ:L2.St}
end
section
variable{X:Cx}{Γ:hU}{tg e:Expr}{c:Ex}{b:Cq}{tb:List Stmt}{pos pos':Pos}
def fv:List Nat->uh
 |[]=>xf
 |i::a=>ui (ek i) (fv a)
theorem ir{nms:List (Str×Pos)}(b:X.N.Nodup):∀(a:List Nat) (nms:List (Str×Pos)),a.length=nms.length->(∀(j i:Nat) (x:Str×Pos),a[j]?=some i->nms[j]?=some x->X.N[i]?=some x.1/\Loc X.env.scope x.1/\(X.fn x.1=true\/X.env.scope.names.lookup x.1=some .local)) ->
  xa X (nms.map λx=>Expr.Name x.1 x.2) (fv a)
 |[],[],_,_=>qN
 |[],_::_,h,_=>by cases h
 |_::_,[],h,_=>by cases h
 |i::a,(x,c)::nms,d,h=>by
  obtain⟨h1,h2,e⟩:=h 0 i (x,c) rfl rfl;exact nW (iO b h1 h2 e) (ir (nms:=nms) b a nms (by simpa using d) λj i x f g=>h (j+1) i x (by simpa using f) (by simpa using g))
end
section
variable{X:Cx}{Γ:hU}{e o:Expr}{c:Ex}{i j:Nat}{x y:Str}{p0 p1 p2 p3 p4 p5 pos:Pos}
end
theorem fG{X:Cx}{pins:List (Addr×Obj)}{p:L2.St}{H:Hp}{s:Shared}{h':Heap}{t':Nat}{h:List Addr}{a:Addr}{o:HO}(I:Inv X pins p H s)(j:∀b∈h,hI X pins H b)
  (k:∀b o,b∉h->s.heap.get? b=some o->h'.get? b=some o) (t:s.heap.objs.size<=a) (l:bA X.prog X.w (upd H a o) h' a o):Inv X pins p (upd H a o) {s with heap:=h',toks:=t' }:=by
 have x:=I.hok.fresh t;have f:∀b u,H b=some u->b∉h:=λb u e z=>by rw[(j b z).1]at e;cases e
 have g:∀b u,H b=some u->upd H a o b=some u:=λb u e=>by rw[ao (aL e x)];exact e
 refine I.step (g':=s.gens) (d':=s.drawn) (ch:=h) (λb i=>?_) (λb o _ _ d e _=>k b o d e) (λb o _ _ d e _=>⟨o.slots,k b o d e⟩) (λb u _ e n=>?_)
  (λb o d e=>⟨o,k b o d e⟩) (λb J e=>g b _ e) (λb u v e=>g b _ e) (λb K e=>⟨#[],by rw[g b _ e];simp⟩) (λm y=>?_) (λb u e=>?_) I.bare
 .obtain⟨L,A,M,B,C,D⟩:=j b i
  exact⟨B,A,C,D⟩
 .have:b≠a:=λz=>absurd (Heap.lt_size e) (by rw[z];exact Nat.not_lt.mpr t)
  rw[ao this];exact n
 .obtain⟨o,E,F,G,r⟩:=y
  exact⟨o,E,F,k _ o (λz=>(j _ z).2.1 rfl) G,r⟩
 .by_cases i:b=a
  .subst i
   rw[aI]at e;cases e
   exact l
  .rw[ao i]at e
   refine(I.hok b u e).stay (λc v d q=>k c v ?_ q) (λc q=>g c _ q) λc _ q=>g c _ q
   rcases d with z|z
   .rw[z];exact f b u e
   .exact f c _ z
def Cr(K:PySem.W.Frag)(a:Addr):It:=
 ⟨λi H=>∃b x,fU K H a b/\b[i]?=some x,λi H x c=>∃p,x=.ref p/\H p=none/\∀b,fU K H a b->∃v,b[i]?=some v/\c=upd H p (.tup [.int i,v]),λi H=>∃b,fU K H a b/\b.length<=i⟩
theorem m5{P:Program}{w:World}{K:PySem.W.Frag}{r:List Expr}{x1:Nat}{t:Pos}(a e it:Addr)(y:e≠it) :
  Turn P w K (.Tuple r x1 t) (Cr K a) [e,it] e (λi h=>(∃g,IsEnum h e it i g)/\h.IsListIter it a i) where
 mem:=by simp
 obj:=λi h l b m=>by
  obtain⟨⟨g,f⟩,o,e2,c,d⟩:=l;rcases List.mem_cons.mp m with z|z
  .subst z
   exact⟨_,f,λv z=>by
    have z':Data.fields _=Data.cell v:=z;cases z'⟩
  .have z:b=it:=by simpa using z
   subst z;exact⟨o,e2,λv z=>by rw[d]at z;cases z⟩
 keep:=λi h h' l k=>by
  obtain⟨⟨g,f⟩,j⟩:=l;exact⟨⟨g,k e (by simp) _ f⟩,j.at λo q=>k it (by simp) o q⟩
 item:=by
  intro X D F G Y i pins s σ H E I B l J;subst D F G;obtain⟨xs,x,C,L⟩:=J;obtain⟨⟨g,f⟩,j⟩:=l;obtain⟨M,N,p,hz⟩:=I.list C;obtain⟨u,hu,ru⟩:=N.get L;refine wpAny_pyNext_enum_item f j p.isList (x:=u) (by simpa using hu) y λh' so si tu sz kp=>?_
  refine⟨_,rfl,wpAny_letOwnedTupleGo_enum (s:={s with heap:=h',toks:=s.toks+1}) so λn se O=>?_⟩
  have Q:∀b o,b∉[e,it]->s.heap.get? b=some o->n.get? b=some o:=λb o m q=>by
   have Z:b≠e:=λz=>m (by simp[z])
   have h3:b≠it:=λz=>m (by simp[z])
   exact O.extBut b o Z (kp b o Z h3 q)
  have A:e<s.heap.objs.size:=Heap.lt_size f;have R:n.get? s.heap.objs.size=some {cls:=.type "tuple",data:=.seq #[.int i s.toks,u]}:=O.extBut _ _ (Nat.ne_of_gt A) tu;have S:∃g,IsEnum n e it ((i+1:Nat):Int) g:=⟨u,by rw[show((i+1:Nat):Int)=(i:Int)+1 by omega];exact se⟩
  refine⟨.ref s.heap.objs.size,upd H s.heap.objs.size (.tup [.int i,x]),?_,rfl,⟨_,rfl,I.hok.fresh (Nat.le_refl _),λys hy=>⟨x,by rw[I.jG hy C];exact L,rfl⟩⟩,⟨S,?_⟩,λb m=>?_⟩
  .have T:IsTup n s.heap.objs.size [Value.int i s.toks,u].toArray:=⟨_,R,rfl,_,rfl⟩
   have U:bA X.prog X.w (upd H s.heap.objs.size (.tup [.int i,x])) n s.heap.objs.size (.tup [.int i,x]):=⟨by rw[sizeLine_eq];simp,[.int i s.toks,u],.cons ⟨_,rfl⟩ (.cons ru .nil),T⟩
   have:=fG (s:=s) (h':=n) (t':=s.toks+1) I B Q (Nat.le_refl _) U;exact this
  .exact si.extBut O.extBut (Ne.symm y)
  .have V:b<s.heap.objs.size:=by
    rcases List.mem_cons.mp m with z|z
    .subst z;exact A
    .have z:b=it:=by simpa using z
     subst z;obtain⟨o,q,_⟩:=j;exact Heap.lt_size q
   rw[ao (Nat.ne_of_lt V)];exact(B b m).1
 done:=by
  intro X D F G Y i pins s σ H E I B l J;subst D F G;obtain⟨xs,C,L⟩:=J;obtain⟨⟨g,f⟩,j⟩:=l;obtain⟨M,N,p,hz⟩:=I.list C;obtain⟨f0,f1,f2,f3,f4,f5⟩:=B it (by simp)
  have hl:=N.length;exact wpAny_pyNext_enum_end (I.ok.hd Y) f j p.isList (by simp;omega) λh' eb=>⟨rfl,I.turned (t':=s.toks) (λb o m e=>eb b o m e) f0 f1 f3 f4 f5⟩
 self:=λ_ _ _ _ _ l h=>by
  obtain⟨⟨g,f⟩,_⟩:=l;exact wpAny_pyIter_enum f h
theorem i8:∀(ds:List D) (k:Nat),(cF k ds).length=ds.length
 |[],_=>rfl
 |d::ds,k=>by rw[cF,List.length_cons,List.length_cons,i8 ds]
theorem i9:∀(ds:List D) (k i:Nat) (d:D),(cF k ds)[i]?=some d->∃x,ds[i]?=some x/\d=.tup [.int (k+i:Nat),x]
 |[],_,_,_,h=>by simp[cF]at h
 |d::ds,k,0,a,h=>by simp[cF]at h;exact⟨d,rfl,h.symm⟩
 |d::ds,k,i+1,a,h=>by
  simp only[cF,List.getElem?_cons_succ]at h;obtain⟨x,h1,h2⟩:=i9 ds (k+1) i a h;exact⟨x,by simpa using h1,by rw[h2,show k+1+i=k+(i+1)by omega]⟩
theorem lV:∀{ds:List D}{xs:List Str}{Z:Addr->Prop}{H:Hp}{vs:List V}{us:List Value},gs ds=some xs->aG Z H ds vs->Vals vs us->StrsAre us xs
 |[],xs,Z,H,vs,us,h,r,q=>by
  cases h;rw[r.nil_inv]at q;cases q;exact .nil
 |d::ds,xs,Z,H,vs,us,h,r,q=>by
  obtain⟨v,rs,rfl,a,b⟩:=r.cons_inv;cases d with
  |str x=>
   simp only[gs]at h;obtain⟨g,c,rfl⟩:=Option.map_eq_some_iff.mp h;simp only[Rep]at a;subst a;cases q with
   |cons e f=>
    obtain⟨t,rfl⟩:=e;exact .cons x t (lV c b f)
  |_=>cases h
def rJoin:V->List V->Hp->VK->Prop:=λx c H Q=>∃z Z b a y,x=.str z/\c=[y]/\Now Z H (.lst b) y/\gs b=some a/\z.length<=16/\(a.map (·.length)).sum+a.length<=1048576/\Q (.str (Txt.join z a)) H
theorem rC{X:Cx}:Bf X "str.join" rJoin:=by
 intro pins s r H x w v A Q I b c h;obtain⟨z,Z,B,C,y,rfl,rfl,n,d,e,f,q⟩:=h;obtain⟨t,rfl⟩:=b;obtain⟨l,D,rfl,g,i⟩:=cG n;obtain⟨u,rfl,j⟩:=c.one;cases j;obtain⟨m,a,o,E⟩:=I.list (i5 (K:=X.K) g);exact join_listW o.isList (by simpa using lV d i a) e f λp k=>⟨.str _,H,I.tok _,⟨p,rfl⟩,q⟩
section
variable{X:Cx}{Γ:hU}{bw:Bool}{a b:Expr}{rest:List Expr}{ca cb:Ex}{pos:Pos}
theorem rD{i tb:TE}(j:PE X a i)(k:PE X (.BoolOp .And (b::rest) pos) tb):PE X (.BoolOp .And (a::b::rest) pos) (λe H Q=>i e H λx f=>∃c,jH X.K x f c/\if c=true then tb e f Q else Q x f):=by
 intro pins s e H Q I h;refine BoolOp_and (bz (j pins s e H _ I h) λv l ⟨x,f,I1,r1,c,t1,q1⟩=>?_)
 refine bz (iR pins l e f x v (λd g=>d=c/\g=f) I1 r1 ⟨c,t1,rfl,rfl⟩) λd m ⟨g,I2,e1,e2⟩=>?_
 subst e1 e2;cases d with
 |true=>exact k pins m e g Q I2 q1
 |false=>exact⟨x,g,I2,r1,q1⟩
theorem vv{i tb:TE}(j:PE X a i)(k:PE X (.BoolOp .Or (b::rest) pos) tb):PE X (.BoolOp .Or (a::b::rest) pos) (λe H Q=>i e H λx f=>∃c,jH X.K x f c/\if c=true then Q x f else tb e f Q):=by
 intro pins s e H Q I h;refine BoolOp_or (bz (j pins s e H _ I h) λv l ⟨x,f,I1,r1,c,t1,q1⟩=>?_)
 refine bz (iR pins l e f x v (λd g=>d=c/\g=f) I1 r1 ⟨c,t1,rfl,rfl⟩) λd m ⟨g,I2,e1,e2⟩=>?_
 subst e1 e2;cases d with
 |false=>exact k pins m e g Q I2 q1
 |true=>exact⟨x,g,I2,r1,q1⟩
theorem rE{g:TE}(i:PE X a g):PE X (.UnaryOp .Not a pos) (λe H Q=>g e H λx b=>∃c,jH X.K x b c/\Q (.bl (!c)) b):=by
 intro pins s e H Q I h;refine UnaryOp_ (bz (i pins s e H _ I h) λv j ⟨x,b,I1,r1,c,t1,q1⟩=>?_)
 refine not_of (bz (iR pins j e b x v (λd f=>d=c/\f=b) I1 r1 ⟨c,t1,rfl,rfl⟩) λd k ⟨f,I2,e1,e2⟩=>?_)
 subst e1 e2;exact⟨.bl (!d),f,I2,rfl,q1⟩
theorem cx.nw{a:Bool}{Z:Addr->Prop}{b H:Hp}{d:D}{v:V}(h:cx bw a Z b H d v):Now Z H d v:=by
 cases bw with
 |true=>exact h.now
 |false=>exact(h.weak (bw:=true)).now
end
noncomputable def xX(a:Scope)(x:Str):Bool:=match a.names.lookup x with
 |some .local|some .cell|some .free=>true
 |_=>false
noncomputable def oI(a:Scope)(x:Str):Bool:=match a.names.lookup x with
 |some .local|some .cell=>true
 |_=>false
noncomputable def oJ(a:Scope)(x:Str):Bool:=a.names.lookup x==some .globalImplicit
noncomputable def okN(x:Str):Bool := !(x==("__debug__":Str))&&!(x==("__classdict__":Str))&&!(x==("__name__":Str))
noncomputable def rF(N:List Str)(x:Str):Option Nat:=N.findIdx? (· == x)
def iu(a:Scope)(N:List Str)(x:Str):Option Nat:=if xX a x&&okN x then rF N x else none
def oK(x:Str):Option Ty:=[Ty.int,.str,.bool,.list,.tuple,.dict].find? (λt=>t.nm==x)
noncomputable def isStar:Expr->Bool
 |.Starred _ _=>true
 |_=>false
noncomputable def isSlice:Expr->Bool
 |.Slice _ _ _ _=>true
 |_=>false
noncomputable def isSet:Expr->Bool
 |.Set _ _ _=>true
 |_=>false
noncomputable def kT(scope a:Scope):Scope:={scope with names:=scope.names.map λ(n,k)=>if (k==.free&&a.kind==.function&&a.names.lookup n==some .cell)then (n,.cell)else (n,k)}
noncomputable def bV(scope:Scope):List Str:=(scope.names.filter λy=>y.2==.free).map (·.1)
def kU(a:Scope)(N:List Str):List Str->Option (List Nat)
 |[]=>some []
 |x::xs=>do let i ←iu a N x;let b ←kU a N xs;some (i::b)
def oM(scope:Scope)(sc:Scope)(x:Str):Bool:=
 scope.kind==.function&&scope.names.all (λy=>!(y.2==.cell))&&scope.names.all (λy=>!(y.2==.local)||scope.names.lookup y.1==some .local) &&
 scope.names.all (λy=>!(y.2==.free)||(sc.names.lookup y.1==some .cell||sc.names.lookup y.1==some .free)&&scope.names.lookup y.1==some .free) &&
 scope.names.lookup x==some .local&&decide ((x::bV scope).Nodup)
noncomputable def gF:List Comprehension->Option (Str×Pos×Expr×List Expr)
 |[⟨.Name x p,iter,ifs,0⟩]=>some (x,p,iter,ifs)
 |_=>none
theorem iv{b:List Comprehension}{x:Str}{p:Pos}{iter:Expr}{a:List Expr}(h:gF b=some (x,p,iter,a)):b=[⟨.Name x p,iter,a,0⟩]:=by
 unfold gF at h;split at h
 .cases h;rfl
 .cases h
theorem oO{N:List Str}{x:Str}{i:Nat}(h:rF N x=some i):N[i]?=some x:=by
 unfold rF at h;obtain⟨a,b,_⟩:=List.findIdx?_eq_some_iff_getElem.mp h;rw[List.getElem?_eq_getElem a,eq_of_beq b]
theorem lW{c:Scope}{N:List Str}{x:Str}{i:Nat}(h:iu c N x=some i):N[i]?=some x/\qC c x/\(x==("__debug__":Str))=false/\(x==("__classdict__":Str))=false:=by
 unfold iu at h;split at h
 .rename_i a
  simp only[Bool.and_eq_true,okN,Bool.not_eq_true']at a;refine⟨oO h,?_,a.2.1.1,a.2.1.2⟩;have b:=a.1;unfold xX at b;unfold qC;split at b
  .rename_i q;exact .inl q
  .rename_i q;exact .inr (.inl q)
  .rename_i q;exact .inr (.inr q)
  .cases b
 .cases h
theorem fV{x:Str}(h:okN x=true):(x==("__debug__":Str))=false/\(x==("__classdict__":Str))=false/\x≠"__name__":=by
 simp only[okN,Bool.and_eq_true,Bool.not_eq_true']at h;refine⟨h.1.1,h.1.2,λe=>?_⟩
 rw[e]at h;simp at h
noncomputable def cy:List Str:=["len","all","any","list","tuple","int","min","max","bool","isinstance","str","dict","range","sorted","enumerate","reversed","set"]
theorem bj{e:Expr}{es:List Expr}{env:Env}(h:isStar e=false):starEach (e::es) env=(false,eval e env)::starEach es env:=by
 cases e<;>first|rfl | (cases h)
theorem bT{env:Env}{pos:Pos}:∀{es:List Expr},(∀e∈es,isStar e=false)->(backTo pos (starEach es env)).any (·.1)=false
 |[],_=>rfl
 |e::es,h=>by
  rw[bj (h e (by simp))]
  show(false||(backTo pos (starEach es env)).any (·.1))=false
  rw[bT λz a=>h z (by simp[a])]
  rfl
section
variable{X:Cx}{Γ:hU}{T:Tab}{k:Nat}{sc:Scope}{N:List Str}
theorem xY{x:Str}{t:Ty}(h:oK x=some t):x=t.nm/\t.nm∈cy:=by
 unfold oK at h;have a:=List.find?_some h;exact⟨(eq_of_beq a).symm,by cases t<;>decide⟩
end
section
variable{X:Cx}{Γ:hU}{T:Tab}{k:Nat}{sc:Scope}{N:List Str}
theorem oP{d:Scope}{N:List Str}:∀{xs:List Str}{a:List Nat},kU d N xs=some a->xs.length=a.length/\∀(j i:Nat) (x:Str),xs[j]?=some x->a[j]?=some i->N[i]?=some x
 |[],a,h=>by cases h;exact⟨rfl,λj i x e=>by simp at e⟩
 |x::xs,a,h=>by
  simp only[kU,Option.bind_eq_bind]at h;obtain⟨i,h1,h⟩:=Option.bind_eq_some_iff.mp h;obtain⟨f,g,h⟩:=Option.bind_eq_some_iff.mp h;cases h;obtain⟨k,l⟩:=oP g;refine⟨by rw[List.length_cons,List.length_cons,k],λj m y b c=>?_⟩
  cases j with
  |zero=>simp at b c;subst b c;exact(lW h1).1
  |succ j=>exact l j m y (by simpa using b) (by simpa using c)
theorem gG{iter:Expr}{env:Env}(h:isSet iter=false):∀x,foldedSetIterable iter env x=pure x:=by
 intro x;cases iter<;>first|rfl | (simp[isSet]at h)
theorem jT{op:CmpOp}{b:Expr}(h:isSet b=false):behindInMarks op b=false:=by
 cases b<;>first|rfl | (simp[isSet]at h)
end
def jU(a:Scope)(N:List Str)(x:Str):Option Nat:=if oI a x&&okN x then rF N x else none
noncomputable def kW:Expr->Bool
 |.ListComp .. |.SetComp .. |.DictComp ..=>true
 |_=>false
noncomputable def jV(a:Scope)(x:Str)(b:Pos)(e:Expr):Bool:=match e with
 |.ListComp _ _ s _=>a.names.lookup x==some .local&&b.line==e.pos.line&&!(s.names.any λ(n,k)=>n==x&&(k==.local||k==.cell))
 |_=>false
noncomputable def cM:List Expr->Option (List (Str×Pos))
 |[]=>some []
 |.Name x p::r=>(cM r).map ((x,p):: ·)
 |_=>none
def gH(a:Scope)(N:List Str):List (Str×Pos)->Option (List Nat)
 |[]=>some []
 |x::xs=>do let i ←jU a N x.1;let b ←gH a N xs;some (i::b)
noncomputable def oQ:Expr->Bool
 |.Call .. |.Name .. |.Subscript ..=>true
 |_=>false
section
variable{X:Cx}{Γ:hU}{T:Tab}{k:Nat}{sc:Scope}{N:List Str}
theorem fH:∀{es:List Expr}{nms:List (Str×Pos)},cM es=some nms->es=nms.map λx=>Expr.Name x.1 x.2
 |[],_,h=>by cases h;rfl
 |e::es,nms,h=>by
  unfold cM at h;split at h
  .rename_i e;cases e
  .rename_i x p r q
   cases q;obtain⟨ns,h1,h⟩:=Option.map_eq_some_iff.mp h;subst h;rw[fH h1];rfl
  .cases h
theorem iw(env:Env):∀(nms:List (Str×Pos)),(assignEach (nms.map λx=>Expr.Name x.1 x.2) env).length=nms.length/\(assignEach (nms.map λx=>Expr.Name x.1 x.2) env).findIdx? (·.1)=none
 |[]=>⟨rfl,rfl⟩
 |x::r=>by
  obtain⟨h1,h2⟩:=iw env r;refine⟨?_,?_⟩
  .show(assignEach (r.map λx=>Expr.Name x.1 x.2) env).length+1=_
   rw[h1];rfl
  .show List.findIdx? (·.1) ((false,_)::assignEach (r.map λx=>Expr.Name x.1 x.2) env)=none
   rw[List.findIdx?_cons,h2];rfl
end
def cY(N ps:List Str)(a:Scope):Bool:=
 a.kind==.function&&!a.isCoroutine&&!a.isGenerator&&decide N.Nodup&&decide (N.take ps.length=ps)&&ps.all (oI a)&&a.names.all λy=>!(y.2==.free)
theorem fW{N ps:List Str}{b:Scope}(h:cY N ps b=true):eQ N ps b:=by
 simp only[cY,Bool.and_eq_true,Bool.not_eq_true',decide_eq_true_eq,List.all_eq_true,beq_iff_eq]at h;obtain⟨⟨⟨⟨⟨⟨c,d⟩,f⟩,g⟩,i⟩,j⟩,k⟩:=h;refine⟨c,d,f,g,i,λx l=>?_,λy m e=>?_⟩
 .have a:=j x l
  unfold oI at a;split at a
  .rename_i q;exact .inl q
  .rename_i q;exact .inr q
  .cases a
 .have:=k y m
  rw[e]at this;exact absurd this (by decide)
section
variable{P:Program}{w:World}{K:PySem.W.Frag}{mg:Str->Option Value}{base:Heap}{Γ:hU}{T:Tab}{k:Nat}
end
noncomputable def rG:Value->Bool
 |.type x=>x=="list"
 |_=>false
def jW(K:PySem.W.Frag):Bool:=K.all λp=>!rG p.2.cls
theorem jX:∀{K:PySem.W.Frag}{a:Addr}{o:Obj},K.lookup a=some o->(a,o)∈K
 |[],_,_,h=>by cases h
 | (b,p)::K,a,o,h=>by
  rw[List.lookup_cons]at h;split at h
  .rename_i e
   cases h;rw[eq_of_beq e];simp
  .exact List.mem_cons_of_mem _ (jX h)
theorem xZ{K:PySem.W.Frag}(b:jW K=true){H:Hp}{a:Addr}{xs:List V}(h:fU K H a xs):Rd H a (.lst xs):=by
 rcases h with h|⟨o,c,n,d,e,_⟩
 .exact h
 .have f:=jX d
  have:=List.all_eq_true.mp b _ f;rw[e]at this;exact absurd this (by decide)
noncomputable def oR(K:PySem.W.Frag)(x:Str):Bool:=match PySem.W.nsIn K mainGlobals x with
 |some none=>true
 |_=>false
def lX(K:PySem.W.Frag):Bool:=cy.all (oR K)
theorem oS{K:PySem.W.Frag}{h:Heap}{a:Str->Option Value}(X:K.In h)(G:h.Ns mainGlobals a)(b:lX K=true):∀x∈cy,a x=none:=λx c=>by
 have:=List.all_eq_true.mp b x c;unfold oR at this;split at this
 .rename_i q;exact PySem.W.mg_none_of X G q
 .cases this
section
variable{prog:Program}{w:World}{A:Around}{E:Value->Shared->Prop}{s:Shared}
theorem kX{it t:Addr}{i:Nat}{items:Array Value}{x:Value}{Q:Value->Shared->Prop}(a:s.heap.IsTupleIter it t i)(f:s.heap.IsTuple t items)(g:items[i]?=some x)
  (h:∀h',h'.IsTupleIter it t (i+1)->Heap.SameBut it s.heap h'->Q x {s with heap:=h' }):wpAny (model prog w) A (Builtin.SmallTypes.nextOf (.ref it)) Q E s:=by
 obtain⟨o,c,j,b⟩:=id a;obtain⟨k,d,_,l,e⟩:=f;unfold Builtin.SmallTypes.nextOf
 refine wpAny_bind (wpAny_callSpecial?_slot (name:=Str.ofString "__next__") a.typeIs F.slot_tuple_iterator_next
  (wpAny_call_entry F.slot_tuple_iterator_next a.typeIs F.entry_tuple_iterator_next ?_ (F.args_tuple_iterator_next_1 _)))
 show wpAny _ _ (field (.ref it) 0 >>= _) _ _ s
 refine wpAny_bind (wpAny_field c b (x:=.ref t) rfl ?_)
 show wpAny _ _ (if (Value.ref t==Value.none)=true then _ else _) _ _ s
 rw[if_neg (show ¬ ((Value.ref t==Value.none)=true)from Bool.false_ne_true)]
 show wpAny _ _ (field (.ref it) 1 >>= _) _ _ s
 refine wpAny_bind (wpAny_field c b (x:=.int i 0) rfl ?_)
 show wpAny _ _ (seqItems? (.ref t) >>= _) _ _ s
 refine wpAny_bind (wpAny_seqItems d e ?_);simp only[Int.toNat_natCast,g];refine wpAny_bind (wpAny_setField c b (by simp) (wpAny_pure ⟨x,rfl,wpAny_pure (h _ ?_ (Heap.SameBut.update ..))⟩))
 exact⟨_,Heap.get?_update_self _ c (Obj.isFreed_of_fields (Obj.data_mapFields b _)),(Obj.cls_mapFields ..).trans j,by
  rw[Obj.data_mapFields b];simp[rawInt]⟩
theorem ix{it t:Addr}{i:Nat}{items:Array Value}{Q:Value->Shared->Prop}(h:A.handled=none)(b:s.heap.IsTupleIter it t i)(j:s.heap.IsTuple t items)(k:items[i]?=none)
  (l:∀h' e,Heap.ExtBut it s.heap h'->(∃o,h'.get? e=some o/\o.cls=.type "StopIteration")->E (.ref e) {s with heap:=h' }):wpAny (model prog w) A (Builtin.SmallTypes.nextOf (.ref it)) Q E s:=by
 obtain⟨o,c,n,d⟩:=id b;obtain⟨p,f,_,q,g⟩:=j;unfold Builtin.SmallTypes.nextOf
 refine wpAny_bind (wpAny_callSpecial?_slot (name:=Str.ofString "__next__") b.typeIs F.slot_tuple_iterator_next
  (wpAny_call_entry F.slot_tuple_iterator_next b.typeIs F.entry_tuple_iterator_next ?_ (F.args_tuple_iterator_next_1 _)))
 show wpAny _ _ (field (.ref it) 0 >>= _) _ _ s
 refine wpAny_bind (wpAny_field c d (x:=.ref t) rfl ?_)
 show wpAny _ _ (if (Value.ref t==Value.none)=true then _ else _) _ _ s
 rw[if_neg (show ¬ ((Value.ref t==Value.none)=true)from Bool.false_ne_true)]
 show wpAny _ _ (field (.ref it) 1 >>= _) _ _ s
 refine wpAny_bind (wpAny_field c d (x:=.int i 0) rfl ?_)
 show wpAny _ _ (seqItems? (.ref t) >>= _) _ _ s
 refine wpAny_bind (wpAny_seqItems f g ?_);simp only[Int.toNat_natCast,k];refine wpAny_bind (wpAny_rule (wpAny_bind (wpAny_setField c d (by simp) ?_)))
 show wpAny _ _ (newExc (.type "StopIteration") [] >>= _) _ _ _
 refine wpAny_bind ?_;simp only[newExc,newTuple];refine wpAny_bind (wpAny_newObj_type ?_ (by size_fits))
 refine wpAny_bind (m:=firstArgMember _ _) (wpAny_of_eq (a:=Value.none) (by first|rfl | (simp only[firstArgMember];rfl)) ?_)
 refine wpAny_newObj_type ?_ (by size_fits)
 simp only[raiseNew];refine wpAny_bind (wpAny_handled ?_)
 first|rw[show A.in1.handled=none from h]|rw[h]
 refine wpAny_bind (wpAny_pure (wpAny_throw ?_));exact l _ _ (((Heap.SameBut.update ..).extBut.push _).push _) ⟨_,Heap.get?_push_size _ rfl,rfl⟩
end
theorem vw{prog:Program}{w:World}{A:Around}(j:A.handled=none)(it l:Addr)(e:l≠it)(items:Array Value) :
  Draws prog w A it [it,l] items.size (λi v=>items[i]?=some v) (λi h=>h.IsTupleIter it l i/\h.IsTuple l items) where
 live:=λ_ _ a=>let ⟨o,b,_⟩:=a.1;⟨o,b⟩
 frame:=λ_ _ _ a f=>⟨let ⟨o,b,r⟩:=a.1;⟨o,f it (by simp) o b,r⟩,let ⟨o,b,r⟩:=a.2;⟨o,f l (by simp) o b,r⟩⟩
 item:=λi s Q E g a k=>by
  refine kX a.1 a.2 (x:=items[i]) (by simp[g]) λm c d=>?_
  exact k _ m s.toks (by simp[g]) ⟨c,a.2.extBut d.extBut e⟩ d
 done:=λs Q E a n=>ix j a.1 a.2 (by simp) n
open AutoSeq1 (wpAny_loadPart') in
theorem jY(l:Addr)(items:Array Value)(n:Nat)(b:Option Addr)(i:Array (Option Value)) :
  Meets (Builtin.«enumerate.__new__» ⟨[.type "enumerate",.ref l],[]⟩) (λ_ R s=>s.heap.get? l=some {cls:=.type "tuple",dict:=b,data:=.seq items n,slots:=i} /\
   R (.ok (.ret (.ref (s.heap.push {cls:=.type "tuple_iterator",data:=.fields #[.ref l,.int 0 0]}).objs.size)))
    {s with heap:=(s.heap.push {cls:=.type "tuple_iterator",data:=.fields #[.ref l,.int 0 0]}).push {cls:=.type "enumerate",data:=.fields #[.none,.bool false,.ref s.heap.objs.size,rawInt 0,.none,.none]} }):=
 .of_wp λprog w A R s h=>by
  obtain⟨j,g,d,k,m⟩:=s;obtain⟨a,h⟩:=h
  have f:=sub_enumerate;have e:Heap.IsTuple (Shared.heap ⟨j,g,d,k,m⟩) l items:=⟨_,a,rfl,n,rfl⟩
  wp_walk using wpAny_loadPart' a
  refine wpAny_stack_any λo=>wpAny_pure ?_
  split
  .rename_i c _ _ _ _ _
   cases (c==Value.type "enumerate")
   .wp_walk using wpAny_loadPart' a,wpAny_pyIter_tuple e
    exact⟨_,rfl,h⟩
   .wp_walk using wpAny_loadPart' a,wpAny_pyIter_tuple e
    exact⟨_,rfl,h⟩
  .wp_walk using wpAny_loadPart' a,wpAny_pyIter_tuple e
   exact⟨_,rfl,h⟩
theorem kY{prog:Program}{w:World}{A:Around}{E:Value->Shared->Prop}{s:Shared}{l:Addr}{items:Array Value}{Q:Value->Shared->Prop}(j:s.heap.IsTuple l items)
  (h:∀h',IsEnum h' (s.heap.objs.size+1) s.heap.objs.size 0 .none->h'.IsTupleIter s.heap.objs.size l 0->h'.objs.size=s.heap.objs.size+2 ->
   (∀b o,s.heap.get? b=some o->h'.get? b=some o)->Q (.ref (s.heap.objs.size+1)) {s with heap:=h' }) :
  wpAny (model prog w) A (call (.type "enumerate") [.ref l]) Q E s:=by
 obtain⟨⟨c,a,k,m⟩,p,d,n,e⟩:=j;replace d:c=.type "tuple":=d;replace e:k=.seq items n:=e;subst d e
 refine callType_new F.called_enumerate (by decide) (F.typeCall_enumerate_1 _) (F.newCall_enumerate_1 _) (λf=>F.args_object_init_2 f _) F.entry_enumerate_new
  (jY l items n a m) ⟨p,?_⟩
 have g:(s.heap.push {cls:=.type "tuple_iterator",data:=.fields #[.ref l,.int 0 0]}).objs.size=s.heap.objs.size+1:=Heap.size_push ..
 show _/\_
 rw[g]
 have i:IsEnum ((s.heap.push {cls:=.type "tuple_iterator",data:=.fields #[.ref l,.int 0 0]}).push
   {cls:=.type "enumerate",data:=.fields #[.none,.bool false,.ref s.heap.objs.size,rawInt 0,.none,.none]}) (s.heap.objs.size+1) s.heap.objs.size 0 .none:=by
  have:=Heap.get?_push_size (s.heap.push {cls:=.type "tuple_iterator",data:=.fields #[.ref l,.int 0 0]})
   (o:={cls:=.type "enumerate",data:=.fields #[.none,.bool false,.ref s.heap.objs.size,rawInt 0,.none,.none]}) rfl
  rw[g]at this;exact this
 refine⟨⟨_,i,rfl⟩,h _ i ⟨_,Heap.get?_push_of_some _ (Heap.get?_push_size _ rfl),rfl,rfl⟩ (by rw[Heap.size_push,g]) λb o x=>Heap.get?_push_of_some _ (Heap.get?_push_of_some _ x)⟩
theorem m6{prog:Program}{w:World}{A:Around}{E:Value->Shared->Prop}{s:Shared}{e it l:Addr}{i:Nat}{items:Array Value}{a:Value}{Q:Option Value->Shared->Prop}(j:A.handled=none)
  (g:IsEnum s.heap e it i a) (c:s.heap.IsTupleIter it l i) (k:s.heap.IsTuple l items) (m:items[i]?=none)
  (n:∀h',Heap.ExtBut it s.heap h'->Q none {s with heap:=h' }):wpAny (model prog w) A (pyNext (.ref e)) Q E s:=by
 have h:s.TypeIs (.ref e) "enumerate":=⟨_,g,rfl⟩;unfold pyNext
 refine wpAny_bind (wpAny_attempt (wpAny_callSpecial?_slot (name:=Str.ofString "__next__") h F.slot_enumerate_next
  (wpAny_call_entry F.slot_enumerate_next h F.entry_enumerate_next ?_ (F.args_enumerate_next_1 _))))
 show wpAny _ _ (field (.ref e) 2 >>= _) _ _ _
 refine wpAny_bind (wpAny_field g rfl (x:=.ref it) rfl ?_);refine wpAny_bind (ix j c k m λh' x d f=>?_)
 obtain⟨o,p,q⟩:=f;refine wpAny_bind (wpAny_isInstance (T:="StopIteration") (b:=true) ⟨o,p,q⟩ isSubtype_stop ?_);exact wpAny_pure (n _ d)
def x3(K:PySem.W.Frag)(a:Addr):It:=
 ⟨λi H=>∃b x,dC K H a b/\b[i]?=some x,λi H x c=>∃p,x=.ref p/\H p=none/\∀b,dC K H a b->∃v,b[i]?=some v/\c=upd H p (.tup [.int i,v]),λi H=>∃b,dC K H a b/\b.length<=i⟩
theorem kZ{P:Program}{w:World}{K:PySem.W.Frag}{J:List Expr}{x1:Nat}{L:Pos}(a e it:Addr)(B:e≠it) :
  Turn P w K (.Tuple J x1 L) (x3 K a) [e,it] e (λi h=>(∃g,IsEnum h e it i g)/\h.IsTupleIter it a i) where
 mem:=by simp
 obj:=λi h n b t=>by
  obtain⟨⟨g,f⟩,o,G,c,d⟩:=n;rcases List.mem_cons.mp t with z|z
  .subst z
   exact⟨_,f,λv z=>by
    have z':Data.fields _=Data.cell v:=z;cases z'⟩
  .have z:b=it:=by simpa using z
   subst z;exact⟨o,G,λv z=>by rw[d]at z;cases z⟩
 keep:=λi h h' n k=>by
  obtain⟨⟨g,f⟩,o,G,r⟩:=n;exact⟨⟨g,k e (by simp) _ f⟩,o,k it (by simp) o G,r⟩
 item:=by
  intro X U V Y Z i pins s σ H E I S n hg;subst U V Y;obtain⟨xs,x,T,hx⟩:=hg;obtain⟨⟨g,f⟩,j⟩:=n;obtain⟨l,rv,p,hz⟩:=I.tuple T;obtain⟨u,hu,ru⟩:=rv.get hx
  have M:a≠it:=λz=>by
   obtain⟨o,C,m,_⟩:=p;obtain⟨o',h3,h4,_⟩:=j;rw[z,h3]at C;cases C
   rw[m]at h4;exact absurd h4 (by decide)
  have a0:e≠a:=λz=>by
   obtain⟨o,C,m,_⟩:=p;have y:s.heap.get? e=some _:=f;rw[z,C]at y;have N:=congrArg (λx:Option Obj=>x.map (·.cls)) y
   simp only[Option.map_some,m,Option.some.injEq]at N;exact absurd N (by decide)
  have D:i<l.toArray.size:=by
   have:=(List.getElem?_eq_some_iff.mp hu).1;simpa using this
  refine wpAny_pyNext_enum_itemD (vw (A:=X.A.in1) (I.ok.hd Z) it a M l.toArray) f ⟨j,p⟩ D B (by simp[B,a0]) λF h' O b0 so si tu sz kp=>?_
  have Q:F=u:=by
   have e1:l.toArray[i]?=some F:=b0;have G:l[i]?=some F:=by simpa using e1
   rw[hu]at G;cases G;rfl
  subst Q;refine⟨_,rfl,wpAny_letOwnedTupleGo_enum (s:={s with heap:=h',toks:=O+1}) so λm se sb=>?_⟩
  have d0:∀b o,b∉[e,it]->s.heap.get? b=some o->m.get? b=some o:=λb o t q=>by
   have C:b≠e:=λz=>t (by simp[z])
   have h3:b≠it:=λz=>t (by simp[z])
   exact sb.extBut b o C (kp b o C h3 q)
  have R:e<s.heap.objs.size:=Heap.lt_size f;have e0:m.get? s.heap.objs.size=some {cls:=.type "tuple",data:=.seq #[.int i O,F]}:=sb.extBut _ _ (Nat.ne_of_gt R) tu;have g0:∃g,IsEnum m e it ((i+1:Nat):Int) g:=⟨F,by rw[show((i+1:Nat):Int)=(i:Int)+1 by omega];exact se⟩
  refine⟨.ref s.heap.objs.size,upd H s.heap.objs.size (.tup [.int i,x]),?_,rfl,⟨_,rfl,I.hok.fresh (Nat.le_refl _),λys hy=>⟨x,by rw[I.h7 hy T];exact hx,rfl⟩⟩,⟨g0,?_⟩,λb t=>?_⟩
  .have h0:IsTup m s.heap.objs.size [Value.int i O,F].toArray:=⟨_,e0,rfl,_,rfl⟩
   have i0:bA X.prog X.w (upd H s.heap.objs.size (.tup [.int i,x])) m s.heap.objs.size (.tup [.int i,x]):=⟨by rw[sizeLine_eq];simp,[.int i O,F],.cons ⟨_,rfl⟩ (.cons ru .nil),h0⟩
   have:=fG (s:=s) (h':=m) (t':=O+1) I S d0 (Nat.le_refl _) i0;exact this
  .exact si.1.extBut sb.extBut (Ne.symm B)
  .have D:b<s.heap.objs.size:=by
    rcases List.mem_cons.mp t with z|z
    .subst z;exact R
    .have z:b=it:=by simpa using z
     subst z;obtain⟨o,q,_⟩:=j;exact Heap.lt_size q
   rw[ao (Nat.ne_of_lt D)];exact(S b t).1
 done:=by
  intro X U V Y Z i pins s σ H E I S n hg;subst U V Y;obtain⟨xs,T,hx⟩:=hg;obtain⟨⟨g,f⟩,j⟩:=n;obtain⟨l,rv,p,hz⟩:=I.tuple T;obtain⟨f0,f1,f2,f3,f4,f5⟩:=S it (by simp)
  have hl:=rv.length;exact m6 (I.ok.hd Z) f j p (by simp;omega) λh' eb=>⟨rfl,I.turned (t':=s.toks) (λb o t e=>eb b o t e) f0 f1 f3 f4 f5⟩
 self:=λ_ _ _ _ _ n h=>by
  obtain⟨⟨g,f⟩,_⟩:=n;exact wpAny_pyIter_enum f h
def x4(K:PySem.W.Frag)(d:TA):TI:=λe H R=>d e H λf b=>∃a,f=[.ref a]/\(((∃c,fU K b a c)/\R (Cr K a) b)\/((∃c,dC K b a c)/\R (x3 K a) b))
theorem oT{X:Cx}{es:List Expr}{x1:Nat}{e p pos:Pos}{a:Expr}{x:TA}(y:Gl X "enumerate")(A:X.mg "enumerate"=none)(B:PA X [a] x)(C:starEach [a] X.env=[(false,eval a X.env)]) :
  PI X (.Tuple es x1 e) (.Call (.Name "enumerate" p) [a] [] pos) (x4 X.K x):=by
 intro pins s n H R I h;refine Call_ (eu I y A boot_enumerate (PyProof.Rows.callWith_type1 (bz (B pos pins s n H _ I h) λM s1 ⟨N,k,c,D,q1⟩=>?_) C rfl))
 obtain⟨l,rfl,f⟩:=q1;cases D with
 |cons r E=>
  cases E;cases r
  have m:∀b∈[s1.heap.objs.size+1,s1.heap.objs.size],s1.heap.objs.size<=b:=λb d=>by
   rcases List.mem_cons.mp d with z|z
   .rw[z];exact Nat.le_succ _
   .have z:b=s1.heap.objs.size:=by simpa using z
    rw[z];exact Nat.le_refl _
  rcases f with ⟨⟨F,f⟩,q⟩|⟨⟨F,f⟩,q⟩
  .obtain⟨g,G,o,J⟩:=c.list f
   refine call_enumerate_list o.isList λi j t L u=>wpAny_pyIter_enum (s:={s1 with heap:=i}) j ?_
   have w:L2.Inv X pins n k {s1 with heap:=i}:=c.kept (t':=s1.toks) u;exact⟨s1.heap.objs.size+1,[s1.heap.objs.size+1,s1.heap.objs.size],_,_,k,rfl,w,m5 l _ _ (Nat.succ_ne_self _),⟨⟨_,j⟩,t⟩,λb d=>c.qP (m b d) (c.hok.fresh (m b d)),q⟩
  .obtain⟨g,G,o,J⟩:=c.tuple f
   refine kY (items:=g.toArray) o λi j t L u=>wpAny_pyIter_enum (s:={s1 with heap:=i}) j ?_
   have w:L2.Inv X pins n k {s1 with heap:=i}:=c.kept (t':=s1.toks) u;exact⟨s1.heap.objs.size+1,[s1.heap.objs.size+1,s1.heap.objs.size],_,_,k,rfl,w,kZ l _ _ (Nat.succ_ne_self _),⟨⟨_,j⟩,t⟩,λb d=>c.qP (m b d) (c.hok.fresh (m b d)),q⟩
end Mir
namespace L2
open PySem PySem.Spec PyProof.Rows PySem.W
def x5(X:Cx)(f:Addr)(vs:List V)(a:St)(H:Hp)(Q:VK):Prop:=∀(pins:List (Addr×Obj)) (s:Shared) (b:List Value),Inv X pins a H s->Vals vs b->wpAny (model X.prog X.w) X.A (call (.ref f) b) (EP X pins a Q) X.xe s
noncomputable def x6(a:Addr)(o:Obj):HO:=.eK o (.ext λh=>h.get? a=some o)
theorem lY{P:Program}{w:World}{H:Hp}{h:Heap}{a:Addr}{o:Obj}(e:h.get? a=some o):bA P w H h a (x6 a o):=⟨e,e,⟨o,e⟩,λb c q k=>k o q⟩
noncomputable def Cx.fz(X:Cx)(xs:List Str):Cx:={X with fn:=λy=>X.fn y&&!(xs.contains y)}
section
variable{X:Cx}{pins:List (Addr×Obj)}{σ:St}{H:Hp}{s:Shared}
end
end L2
namespace L2
open PySem PySem.Spec PyProof.Rows
theorem KT.length{H:Hp}{l:List (List Key×V)}{m:List (List Key×Addr×Value)}(q:KT H l m):m.length=l.length:=by
 induction q with
 |nil=>rfl
 |cons _ _ a=>rw[List.length_cons,List.length_cons,a]
end L2
namespace HT
open PySem PyProof.Rows
section
variable{prog:Program}{w:World}{A:Around}{E:Value->Shared->Prop}{s:Shared}
theorem eh{t e:Addr}{items:Array Value}{j k:Value}{a d:Option Int}{Q:Value->Shared->Prop}(b:IsTup s.heap t items)(l:s.heap.IsSliceOf e j k .none)(pl:IsPart j a)(m:IsPart k d)
  (n:bB items.size 0 a=0) (o:bB items.size items.size d=items.size) (h:Q (.ref t) s):wpAny (model prog w) A (getItem (.ref t) (.ref e)) Q E s:=by
 obtain⟨p,f,g,q⟩:=id l;have i:s.TypeIs (.ref e) "slice":=⟨p,f,g⟩;unfold getItem
 try with_reducible refine wpAny_holding ?_
 first|refine wpAny_bind (wpAny_pure ?_)|skip
 refine wpAny_bind (wpAny_sequenceKey b.typeIs (by decide) ?_)
 refine wpAny_bind (wpAny_callSpecial?_slot (name:=Str.ofString "__getitem__") b.typeIs PyProof.Rows.slot_tuple_getitem
  (wpAny_call_entry PyProof.Rows.slot_tuple_getitem b.typeIs entry_tuple_getitem ?_ (args_tuple_getitem _ _)))
 show wpAny _ _ (Builtin.Tuple.tupleItemsOf (.ref t) >>= _) _ _ s
 refine wpAny_bind (tupleItemsOf_ b ?_);refine wpAny_bind (wpAny_typeOf i ?_);rw[if_pos (by decide)]
 refine wpAny_bind (c_ l pl m ?_)
 have c:(((bB items.size 0 a:Nat):Int)==0&&(1:Int)==1&&(bB items.size items.size d - bB items.size 0 a)==items.size)=true:=by
  rw[n,o];simp
 show wpAny _ _ (if (((bB items.size 0 a:Nat):Int)==0&&(1:Int)==1&&(bB items.size items.size d - bB items.size 0 a)==items.size)=true then _ else _) _ _ s
 rw[if_pos c];unfold Builtin.Tuple.tupleIsExact;refine wpAny_bind (wpAny_bind (wpAny_typeOf b.typeIs (wpAny_pure ?_)));rw[if_pos (by decide)]
 exact wpAny_bind (wpAny_rule (wpAny_pure ⟨_,rfl,wpAny_pure h⟩))
theorem oU{t b:Addr}{g:List Value}{Q:Value->Shared->Prop}(m:IsTup s.heap t #[])(o:IsTup s.heap b g.toArray)(h:Q (.ref b) s):wpAny (model prog w) A (binaryOp .Add (.ref t) (.ref b)) Q E s:=by
 obtain⟨⟨p,q,data,r⟩,i,j,n,k⟩:=id m;obtain⟨⟨l,e,data2,f⟩,a,c,u,d⟩:=id o;simp only at j k c d;subst j k c d
 exact concat_meets ⟨_,i,rfl⟩ ⟨_,a,rfl⟩ noFill_tuple_add seq_tuple_add PySem.F.slot_tuple_add PySem.F.entry_tuple_add (PySem.F.args_tuple_add_2 _ _)
   (tuple_addW0 t b #[] g.toArray n u q e r f rfl) ⟨i,a,h⟩
end
end HT
namespace L2
open PySem PySem.Spec PyProof.Rows
section
variable{X:Cx}
def x8(K:PySem.W.Frag):V->Option Int->Option Int->Hp->VK->Prop:=λx c d H Q=>∃a b,x=.ref a/\dC K H a b/\HT.bB b.length 0 c=0/\HT.bB b.length b.length d=b.length/\Q (.ref a) H
theorem eV:qZ X (x8 X.K):=by
 intro pins s n H x v o p t u w Q I e f g i h;obtain⟨a,j,rfl,k,l,m,q⟩:=h;cases e;obtain⟨c,r,d,y⟩:=I.tuple k;have b:c.toArray.size=j.length:=by rw[List.size_toArray];exact r.length.symm
 refine⟨"tuple",_,PyProof.Rows.slot_tuple_getitem.lookup,d.typeIs,?_⟩;exact HT.eh d f g i (by rw[b];exact l) (by rw[b];exact m) ⟨.ref a,H,I,rfl,q⟩
noncomputable def uv(K:PySem.W.Frag):R2:=λx y H Q=>∃a b c,x=.ref a/\y=.ref b/\dC K H a []/\dC K H b c/\Q (.ref b) H
theorem rH:dD X (binaryOp .Add) (uv X.K):=by
 intro pins s m H x y v u Q I d e h;obtain⟨a,b,n,rfl,rfl,f,g,q⟩:=h;cases d;cases e;obtain⟨i,j,k,_⟩:=I.tuple f;obtain⟨c,o,l,_⟩:=I.tuple g;cases j;exact HT.oU k l ⟨.ref b,H,I,rfl,q⟩
end
end L2
namespace Mir
open PySem PySem.Spec PyProof.Rows L2
end Mir
namespace L2
open PySem PySem.Spec PyProof.Rows PySem.W
section
variable{P:Program}{w:World}{K:PySem.W.Frag}{mg:Str->Option Value}{base:Heap}
end
end L2
namespace L2
open PySem PySem.Spec PyProof.Rows
section
variable{prog:Program}{w:World}{A:Around}{R:Result->Shared->Prop}{h:Heap}{g:Array GenState}{d:Drawn}{t:Nat}{os:OsState}
variable{nm q:Str}{C N f:Addr}{bs bm bmB:List Value}{hdct:Bool}{sn:List Str}{sub:List Value}{ab:Bool}{col:Option Bool}{dd:Option Addr}{k0 k1 k2 k3 k5:Option Value}{B newId initId:String}
abbrev cq(h:Heap)(C:Addr)(rest:List Value):Heap:=(h.push {cls:=.type "tuple",data:=.seq rest.toArray}).push {cls:=.ref C,data:=.fields #[.ref h.objs.size,.none,.none,.none,.bool false,.none]}
theorem hV(F:ExcBaseFacts B newId initId bmB)(T:OwnTail h bmB bm){mN:Str->Option Value}{rest:List Value}
  (j:h.get? C=some (excClassObj nm q C N bs bm hdct sn sub ab col dd k0 k1 k2 k3 k5 newId)) (u:h.Ns N mN) (n:mN "__init__"=some (.ref f))
  (x:∀self,PySem.W.Looks (model prog w) h (bindSpecial (.ref f) self) (.ref f,[self])) (c:rest.length<=sizeLine)
  {Q:Fin->Shared->Prop}{E:Value->Shared->Prop}
  (y:codeAny (model prog w) A (.call (.ref f) ⟨.ref (h.objs.size+1)::rest,[]⟩) (λr p=>match r with|.ok (.ret v)=>v=.none/\Q (.done (.ret (.ref (h.objs.size+1)))) p|.ok _=>False|.error e=>E e p) ⟨cq h C rest,g,d,t,os⟩) :
  wpAny (model prog w) A (Builtin.«type.__call__» ⟨.ref C::rest,[]⟩) Q E ⟨h,g,d,t,os⟩:=by
 repeat (first|with_reducible refine wpAny_loadPart_at j ?_|with_reducible refine wpAny_madeBy_exc j ?_|wp_step)
 refine codeAny_call_builtin_code (Code.quiet_builtin _ F.quiet) (wpAny_check_new_subT F T j ?_);refine codeAny_exc_new_subT F T j ?_ c
 show wpAny _ _ _ _ _ _
 have k:∀b o,h.get? b=some o->(cq h C rest).get? b=some o:=λb o e=>Heap.get?_push_of_some _ (Heap.get?_push_of_some _ e)
 have a:=k _ _ j;have i:(cq h C rest).Ns N mN:=let ⟨o,es,ep,e,r⟩:=u;⟨o,es,ep,k _ _ e,r⟩
 have l:(cq h C rest).get? (h.objs.size+1)=some {cls:=.ref C,data:=.fields #[.ref h.objs.size,.none,.none,.none,.bool false,.none]}:=by heap_get
 have s:(Value.ref C::bm).contains (.ref C)=true:=by simp
 have m:=T.keeps k;have D:=(x (.ref (h.objs.size+1))).keeps k;unfold isInstance
 repeat (first|with_reducible refine wpAny_loadPart_at l ?_ | (with_reducible refine wpAny_isSubtype_exc a ?_;rw[s])|wp_step)
 show wpAny _ _ (typeLookup (.ref C) _) _ _ _
 refine wpAny_typeLookup_tail a i m F.mroIs F.init.lookup ?_;rw[n];refine wpAny_holding (wpAny_bind (D.at ?_));refine wpAny_bind (wpAny_call (codeAny_mono y λr p z=>?_))
 rcases r with e | (v|_|_|_)<;>first|exact z|exact z.elim|skip
 obtain⟨rfl,z⟩:=z;exact wpAny_pure (wpAny_pure z)
theorem oV(F:ExcBaseFacts B newId initId bmB)(T:OwnTail h bmB bm){mN:Str->Option Value}{rest:List Value}
  (b:h.get? C=some (excClassObj nm q C N bs bm hdct sn sub ab col dd k0 k1 k2 k3 k5 newId)) (e:h.Ns N mN) (c:mN "__init__"=some (.ref f))
  (i:∀self,PySem.W.Looks (model prog w) h (bindSpecial (.ref f) self) (.ref f,[self])) (a:rest.length<=sizeLine)
  (j:codeAny (model prog w) (A.under (.builtin "type.__call__" ⟨.ref C::rest,[]⟩)) (.call (.ref f) ⟨.ref (h.objs.size+1)::rest,[]⟩) (PySem.W.InitBack (h.objs.size+1) R) ⟨cq h C rest,g,d,t,os⟩) :
  codeAny (model prog w) A (.call (.ref C) ⟨rest,[]⟩) R ⟨h,g,d,t,os⟩:=by
 have k:=tc_lookup;have l:=tc_bind (.ref C);have m:(⟨h,g,d,t,os⟩:Shared).TypeIs (.ref C) "type":=⟨_,b,rfl⟩;refine codeAny_of_tree ?_
 show wpAny _ _ (callAny (.ref C) _) _ _ _
 repeat (any_goals (first|assumption|with_reducible refine wpAny_loadPart_at b ?_|wp_step))
 refine⟨rfl,?_⟩;refine codeAny_call_builtin_at (Code.quiet_builtin _ (by decide +kernel)) entry_typeCall (wpAny_check_type_call_sub b (hV F T b e c i a ?_))
 exact j
end
end L2
namespace L2
open PySem PySem.Spec PyProof.Rows
open PySem.W (clsIn findIn takerIn InstAt)
open PySem.Builtin PySem.Builtin.ObjectAttr PySem.Builtin.Getset_descriptor
section
variable{K:PySem.W.Frag}{prog:Program}{w:World}{A:Around}{E:Value->Shared->Prop}{s:Shared}{x C:Addr}{name:Str}{v:Value}{R:Result->Shared->Prop}
abbrev ey:List Value:=[.type "ValueError",.type "Exception",.type "BaseException",.type "object"]
noncomputable def cN:List Value->Bool
 |.ref _::r=>cN r
 |l=>l==ey
theorem iy(self:Value):∀{l:List Value},cN l=true->refuseLoop self "__setattr__" l=pure ()
 |[],e=>by simp[cN]at e
 |a::r,e=>by
  cases a with
  |ref c=>rw[refuseLoop_ref];exact iy self e
  |_=>rw[eq_of_beq (show(_==ey)=true from e)];exact PySem.F.store_ValueError.passes self
theorem oW:∀{l:List Value},cN l=true->l.contains (.type "object")=true
 |[],e=>by simp[cN]at e
 |a::r,e=>by
  cases a with
  |ref c=>rw[List.contains_cons,oW (l:=r) e,Bool.or_true]
  |_=>rw[eq_of_beq (show(_==ey)=true from e)];decide
theorem lZ{ox:Obj}{od:Option Obj}{k:Tok}{d:ClassData}(X:K.In s.heap)(I:InstAt s.heap x ox C od)(n:clsIn K C=some d)(i:cN d.mro=true)(p:takerIn K C name=some none)
  (h:∀b,wpAny (model prog w) A.in1 (storeInOwnDict (.ref x) (.ref C) (.str name k) name v b) (λl j=>match l with|.done f=>R (.ok f) j|.again o=>o.quiet=true/\codeAny (model prog w) A o R j) (λe j=>R (.error e) j) s) :
  codeAny (model prog w) A (.call (.builtin "object.__setattr__") ⟨[.ref x,.str name k,v],[]⟩) R s:=by
 have g:=PySem.F.store_object
 have r:d.mro.isEmpty=false:=by cases q:d.mro with
  |nil=>rw[q]at i;simp[cN]at i
  |cons _ _=>rfl
 have m:PySem.W.Looks (model prog w) s.heap (isInstance (.ref x) (.type "object")) true:=I.type.andThen (PySem.W.looks_mroIn X (by unfold PySem.W.mroIn;rw[n,Option.bind_some,if_neg (by rw[r];decide),oW i]))
 refine codeAny_call_builtin g.slot.plain g.entry (@PySem.W.check_slot (model prog w) _ _ s _ _ _ (.ref x) [.str name k,v] [] _ g.kind g.split m (g.args _ _ _) ?_);obtain⟨c,t,u⟩:=Option.bind_eq_some_iff.mp p;have y:PySem.W.Looks (model prog w) s.heap (mroOf (.ref C)) d.mro:=(PySem.W.looks_clsIn X n).andThen .now
 have z:PySem.W.Looks (model prog w) s.heap (storeTaker? c) none:=by
  cases c with
  |none=>exact .now
  |some a=>
   obtain⟨b,B,e⟩:=Option.map_eq_some_iff.mp u;refine(PySem.W.looks_takesIn X B).andThen ?_;cases b with
   |true=>cases e
   |false=>exact .now
 rw[PySem.W.osa_eq,refuse_eq];refine wpAny_bind (wpAny_bind (I.type.here (wpAny_bind (y.here ?_))));rw[iy _ i];refine wpAny_pure (wpAny_bind (I.type.here (wpAny_bind ((PySem.W.looks_findIn X t).here (wpAny_bind (z.here ?_))))));exact h _
theorem rJ{vs:Array Value}{c:Array (Option Value)}{j:ClassData}{Q:Unit->Shared->Prop}(X:K.In s.heap)(i:s.heap.get? x=some ⟨.ref C,none,.fields vs,c⟩)(u:clsIn K C=some j)(z:cN j.mro=true)(B:j.hasDict=true)
  (D:findIn K (.ref C) "__setattr__"=some (some (.builtin "object.__setattr__"))) (F:takerIn K C name=some none)
  (h:∀h' t',h'.get? x=some ⟨.ref C,some s.heap.objs.size,.fields vs,c⟩->h'.Ns1 s.heap.objs.size (λy=>if y=name then some v else none)->(∀b o,b≠x->s.heap.get? b=some o->h'.get? b=some o)->Q () {s with heap:=h',toks:=t' }) :
  wpAny (model prog w) A (setAttr (.ref x) name v) Q E s:=by
 have I:InstAt s.heap x ⟨.ref C,none,.fields vs,c⟩ C none:=⟨i,rfl,rfl,trivial⟩;refine PySem.W.set_plain X I D (lZ (s:={s with toks:=s.toks+1}) X I u z F λb=>?_)
 have a:(s.heap.push {cls:=.type "dict",data:=.dict #[]}).get? x=some ⟨.ref C,none,.fields vs,c⟩:=Heap.get?_push_of_some _ i;have d:x≠s.heap.objs.size:=Nat.ne_of_lt (Heap.lt_size i);refine wpAny_bind (wpAny_pure (wpAny_bind (wpAny_bind (wpAny_loadPart i (wpAny_bind (PySem.W.Looks.here (s:={s with toks:=s.toks+1}) (PySem.W.looks_clsIn X u) ?_))))));rw[B];refine wpAny_bind (wpAny_alloc' (wpAny_bind (wpAny_update' a (wpAny_pure ?_))))
 have k:((s.heap.push {cls:=.type "dict",data:=.dict #[]}).update x λo=>{o with dict:=some s.heap.objs.size}).get? s.heap.objs.size=some {cls:=.type "dict",data:=.dict #[]}:=
  (Heap.get?_update_ne _ _ _ _ d.symm).trans (Heap.get?_push_at rfl rfl)
 have l:((s.heap.push {cls:=.type "dict",data:=.dict #[]}).update x λo=>{o with dict:=some s.heap.objs.size}).Ns s.heap.objs.size (λ_=>none):=
  ⟨_,#[],_,k,rfl,λe G=>absurd G (by simp),λ_=>rfl⟩
 have m:((s.heap.push {cls:=.type "dict",data:=.dict #[]}).update x λo=>{o with dict:=some s.heap.objs.size}).get? x=some ⟨.ref C,some s.heap.objs.size,.fields vs,c⟩:=Heap.get?_update_self _ a rfl
 have n:∀b o,b≠x->s.heap.get? b=some o->((s.heap.push {cls:=.type "dict",data:=.dict #[]}).update x λo=>{o with dict:=some s.heap.objs.size}).get? b=some o:=λb o p e=>
  (Heap.get?_update_ne _ _ _ _ p).trans (Heap.get?_push_of_some _ e)
 show wpAny _ _ (storeInDict s.heap.objs.size (.str name s.toks) name v) _ _ _
 unfold storeInDict newKeyGuard;refine wpAny_bind (wpAny_pure (wpAny_bind (wpAny_nsSet1 (Heap.Ns1.of_empty l) λh' f g=>?_)))
 obtain⟨L,H,J,q,r,t⟩:=f.count (Within.cons name v Within.nil);refine wpAny_bind (wpAny_lookBehind q (by rw[r];exact pastItsLine_dict (Nat.le_trans t (by rw[List.length_cons,List.length_nil,sizeLine_eq];omega))) ?_)
 refine wpAny_pure (h h' _ ((g.2 x d).trans m) f λb o p e=>(g.2 b (Nat.ne_of_lt (Heap.lt_size e))).trans (n b o p e))
end
end L2
namespace L2
open PySem PySem.Spec PyProof.Rows
section
variable{prog:Program}{w:World}{A:Around}{R:Result->Shared->Prop}{h:Heap}{g:Array GenState}{d:Drawn}{t:Nat}{os:OsState}
variable{nm q:Str}{C N e:Addr}{bs bm bmB:List Value}{hdct:Bool}{sn:List Str}{sub:List Value}{ab:Bool}{col:Option Bool}{dd od:Option Addr}{k0 k1 k2 k3 k5:Option Value}{B newId initId:String}{a0:Addr}{sl:Array (Option Value)}
theorem hW(F:ExcBaseFacts B newId initId bmB)(T:OwnTail h bmB bm){rest:List Value}
  (j:h.get? C=some (excClassObj nm q C N bs bm hdct sn sub ab col dd k0 k1 k2 k3 k5 newId)) (a:h.get? e=some ⟨.ref C,od,.fields #[.ref a0,.none,.none,.none,.bool false,.none],sl⟩) (c:rest.length<=sizeLine)
  (k:∀h',h'.get? e=some ⟨.ref C,od,.fields #[.ref h.objs.size,.none,.none,.none,.bool false,.none],sl⟩->h'.get? h.objs.size=some {cls:=.type "tuple",data:=.seq rest.toArray}->(∀b o,b≠e->h.get? b=some o->h'.get? b=some o)->R (.ok (.ret .none)) ⟨h',g,d,t,os⟩) :
  codeAny (model prog w) A (.call (.builtin initId) ⟨.ref e::rest,[]⟩) R ⟨h,g,d,t,os⟩:=by
 refine codeAny_call_builtin F.init.plain F.initEntry (wpAny_check_init_subT F T j a rfl ?_);have f:=Heap.get?_push_of_some (h:=h) {cls:=.type "tuple",data:=.seq rest.toArray} a;have i:h.objs.size≠e:=Nat.ne_of_gt (Heap.lt_size a)
 wp_walk
 refine k _ ?_ ?_ λb o l m=>?_
 .exact Heap.get?_update_self _ f rfl
 .rw[Heap.get?_update_other _ _ (Ne.symm i)]
  exact Heap.get?_push_at rfl rfl
 .rw[Heap.get?_update_other _ _ (Ne.symm l)]
  exact Heap.get?_push_of_some _ m
end
end L2
namespace L2
open PySem PySem.Spec PyProof.Rows
open PySem.W (clsIn findIn takerIn InstAt Looks mroIn)
structure k4(K:PySem.W.Frag)(C:Addr):Prop where
 ga:findIn K (.ref C) "__getattribute__"=some (some (.builtin "BaseException.__getattribute__"))
 gn:findIn K (.ref C) "__getattr__"=some none
 be:mroIn K C (.type "BaseException")=some true
section
variable{prog:Program}{w:World}{A:Around}{E:Value->Shared->Prop}{h:Heap}{g:Array GenState}{d:Drawn}{t:Nat}{os:OsState}{K:PySem.W.Frag}{x C:Addr}{ox:Obj}{od:Option Obj}{vx:Value}
theorem oX{Q:Unit->Shared->Prop}(X:K.In h)(I:InstAt h x ox C od)(G:k4 K C)(c:Q () ⟨h,g,d,t,os⟩):wpAny (model prog w) A (checkBuiltinCall "BaseException.__getattribute__" ⟨[.ref x,vx],[]⟩) Q E ⟨h,g,d,t,os⟩:=by
 have b:builtinKind "BaseException.__getattribute__"=some .slot:=by decide +kernel
 have a:splitId "BaseException.__getattribute__"=some ("BaseException","__getattribute__"):=by decide +kernel
 have e:=F.args_bexc_ga (.ref x) vx;have L:Looks (model prog w) h (isInstance (.ref x) (.type "BaseException")) true:=(I.type).andThen (PySem.W.looks_mroIn X G.be);simp only[checkBuiltinCall,b,a];refine wpAny_bind (L.at ?_)
 repeat (any_goals (first|assumption|wp_step))
theorem rK{v:Value}{t':Nat}{R:Result->Shared->Prop}(X:K.In h)(I:InstAt h x ox C od)(G:k4 K C)(a:∀(Q:Fin->Shared->Prop) (E:Value->Shared->Prop),Q (.done (.ret v)) ⟨h,g,d,t',os⟩->wpAny (model prog w) A.in1 (Builtin.«object.__getattribute__» ⟨[.ref x,vx],[]⟩) Q E ⟨h,g,d,t,os⟩)
  (b:R (.ok (.ret v)) ⟨h,g,d,t',os⟩):codeAny (model prog w) A (.call (.builtin "BaseException.__getattribute__") ⟨[.ref x,vx],[]⟩) R ⟨h,g,d,t,os⟩:=
 codeAny_call_builtin F.attr_ValueError.ga.plain F.entry_bexc_ga (oX X I G (a _ _ b))
theorem uw{v:Value}{t':Nat}{fill a:Bool}{Q:Value->Shared->Prop}(X:K.In h)(I:InstAt h x ox C od)(G:k4 K C)(c:∀(A:Around) (Q:Fin->Shared->Prop) (E:Value->Shared->Prop),Q (.done (.ret v)) ⟨h,g,d,t',os⟩->wpAny (model prog w) A (Builtin.«object.__getattribute__» ⟨[.ref x,vx],[]⟩) Q E ⟨h,g,d,t,os⟩)
  (e:handedOut v=pure v) (f:Q v ⟨h,g,d,t',os⟩):wpAny (model prog w) A (getAttrBy (.ref x) vx fill a) Q E ⟨h,g,d,t,os⟩:=by
 have i:=I.type (M:=model prog w);have L1:=PySem.W.looks_findIn (M:=model prog w) X G.ga;have L2:=PySem.W.looks_findIn (M:=model prog w) X G.gn;have k:=F.attr_ValueError.ga.bind (.ref x);have j:(a&&onTheHeap (Value.builtin "BaseException.__getattribute__"))=false:=by cases a<;>rfl
 have b:(Value.builtin "BaseException.__getattribute__"==Value.builtin "object.__getattribute__")=false:=by decide +kernel
 unfold getAttrBy;refine wpAny_holding (wpAny_bind (i.at (wpAny_bind (L1.at ?_))))
 show wpAny _ _ (if (onTheHeap (.ref C)&&Value.builtin "BaseException.__getattribute__"==Value.builtin "object.__getattribute__")=true then _ else _) _ _ _
 rw[if_neg (by rw[b];simp)]
 unfold getAttrByItsOwn hookBefore;rw[if_pos (by rfl)]
 refine wpAny_bind (L2.at ?_)
 repeat (any_goals (first|assumption|wp_step))
 refine rK X I G (c _) ?_
 show wpAny _ _ (handedOut v) _ _ _
 rw[e];exact wpAny_pure f
theorem l4{v:Value}{name:Str}{a:Bool}{Q:Value->Shared->Prop}(X:K.In h)(I:InstAt h x ox C od)(G:k4 K C)(b:PySem.W.findObj K C od name=some (.value v))(c:PySem.W.handedIn v=true)(e:Q v ⟨h,g,d,t+1,os⟩) :
  wpAny (model prog w) A (getAttr (.ref x) name a) Q E ⟨h,g,d,t,os⟩:=by
 unfold getAttr;refine wpAny_bind (wpAny_mkText (uw X I G (λi j k q=>?_) (PySem.W.handedOut_of c) e))
 have f:=I.type (M:=model prog w);have L1:=PySem.W.looks_find (M:=model prog w) X I b;unfold Builtin.«object.__getattribute__»;refine wpAny_bind (wpAny_pure (wpAny_bind (wpAny_pure (wpAny_bind (f.at (wpAny_bind (L1.at ?_)))))));exact wpAny_pure q
end
end L2
namespace L2
open PySem PySem.Spec PyProof.Rows
open PySem.W (clsIn findIn takerIn InstAt)
structure ez(K:PySem.W.Frag)(C N fI:Addr):Prop where
 ex:∃(nm q:Str) (bs bm:List Value) (sn:List Str) (sub:List Value) (ab:Bool) (col:Option Bool) (dd:Option Addr) (k0 k1 k2 k3 k5:Option Value),
  K.lookup C=some (excClassObj nm q C N bs bm true sn sub ab col dd k0 k1 k2 k3 k5 "ValueError.__new__")/\(∀h:Heap,K.In h->OwnTail h ey bm)
 cd:∃cd,clsIn K C=some cd/\cN cd.mro=true/\cd.hasDict=true
 sa:findIn K (.ref C) "__setattr__"=some (some (.builtin "object.__setattr__"))
 xg:k4 K C
 hd:PySem.W.hasDictIn K C=true
 ns:∀h:Heap,K.In h->∃mN,h.Ns N mN/\mN "__init__"=some (.ref fI)
 kp:PySem.W.keepIn K (.ref C)=true
 fn:PySem.W.typeIn K (.ref fI)=some (.type "function")
noncomputable def aS(C:Addr)(od:Option Addr)(t:Addr):Obj:=⟨.ref C,od,.fields #[.ref t,.none,.none,.none,.bool false,.none],#[]⟩
section
variable{X:Cx}{pins:List (Addr×Obj)}{σ:St}{H:Hp}{s:Shared}{e C N fI t:Addr}{fld:Str}
theorem Inv.vy(I:Inv X [] σ H s){o:Obj}(h:s.heap.get? e=some o)(a:H e=none)(b:e≠X.env.locals)(c:e∉X.fs)(d:∀v,o.data≠.cell v):Inv X [(e,o)] σ H s:=
 ⟨I.ok,I.os,I.bare,I.base,I.loc,I.cell,I.free,I.cJ,λp f=>by
  rcases List.mem_append.mp f with q|q
  .exact I.pin p (by simp[q])
  .rw[List.mem_singleton.mp q];exact⟨h,a,b,c,d⟩,I.hok,I.len⟩
theorem Inv.ux(I:Inv X pins σ H s):Inv X [] σ H s:=
 ⟨I.ok,I.os,I.bare,I.base,I.loc,I.cell,I.free,I.cJ,λp a=>I.pin p (by rw[List.append_nil]at a;simp[a]),I.hok,I.len⟩
theorem rL{Q:Value->Shared->Prop}{E:Value->Shared->Prop}{A:Around}{v:V}{b:Bool}{a:Addr}{o:Obj}{fs:List (Str×V)}(I:Inv X pins σ H s)(T:ez X.K C N fI)(i:bN X.K C fld)(j:s.heap.get? e=some o)(k:o.cls=.ref C)(c:o.dict=some a)(d:PySem.W.notCls o=true)
  (m:H a=some (.xd fs)) (p:fs.lookup fld=some v) (h:∀u,RelV v u->Inv X pins σ H {s with toks:=s.toks+1}->Q u {s with toks:=s.toks+1}):wpAny (model X.prog X.w) A (getAttr (.ref e) fld b) Q E s:=by
 obtain⟨q,n,r⟩:=I.hok a _ m;obtain⟨u,t,f⟩:=eM.some_of (v:=v) (o:=q fld) (by rw[←p];exact r fld)
 obtain⟨x,g,l⟩:=c9 n;have J:InstAt s.heap e o C (some x):=⟨j,k,d,by rw[c];exact g⟩
 have y:=h u f (I.tok _);have z:=I.dB;obtain⟨B,D,F,G,L⟩:=s;exact l4 z J T.xg (PySem.W.findObj_own T.hd i (by rfl) (by rw[l,t])) (fq f) y
end
end L2
namespace L2
open PySem PySem.Spec PyProof.Rows
open PySem.W (clsIn findIn takerIn InstAt)
section
variable{X:Cx}{pins:List (Addr×Obj)}{σ:St}{H:Hp}{s:Shared}{e C N fI t dd:Addr}{fld:Str}{o o':Obj}{h':Heap}
structure rM(X:Cx)(e:Addr):Prop where
 new:e∈X.ex\/X.s₀.heap.objs.size<=e
 cell:∀x c,X.env.cells.lookup x=some c->c≠e
 pn:∀p∈X.pn,p.1≠e
theorem Inv.DD{t':Nat}(I:Inv X [(e,o)] σ H s)(F:rM X e)(k:h'.get? e=some o')(l:∀b h,b≠e->s.heap.get? b=some h->h'.get? b=some h)(n:∀v,o'.data≠.cell v):Inv X [(e,o')] σ H {s with heap:=h',toks:=t' }:=by
 obtain⟨r,d,f,i,t⟩:=I.pin (e,o) (by simp)
 dsimp only at r d f i t;have w:=I.ux;have keep:∀b o,b∉[e]->s.heap.get? b=some o->h'.get? b=some o:=λb o hb q=>l b o (by simpa using hb) q
 have J:Inv X [] σ H {s with heap:=h',toks:=t' }:=by
  refine w.step (ch:=[e]) (λb hb=>?_) (λb o _ _ hb q _=>keep b o hb q) (λb o _ _ hb q _=>⟨o.slots,keep b o hb q⟩) (λb o hb q g=>g) (λb o hb q=>⟨o,keep b o hb q⟩) (λb x q=>q) (λb o j q=>q) (λb E q=>⟨#[],by rw[q];simp⟩) (λm g=>?_) ?_ I.bare
  .rw[List.mem_singleton.mp hb]
   exact⟨F.new,f,F.cell,λp y=>F.pn p (by simpa using y)⟩
  .obtain⟨o,A,B,C,D⟩:=g
   exact⟨o,A,B,keep _ o (by simp[Ne.symm f]) C,D⟩
  .intro a u q
   refine(I.hok a u q).stay (λb j hb c=>keep b j (λz=>?_) c) (λb c=>c) λb x c=>c
   rw[List.mem_singleton.mp z]at hb;rcases hb with hb|hb
   .rw[←hb,d]at q;cases q
   .rw[d]at hb;cases hb
 exact J.vy k d f i n
structure XBase(K:PySem.W.Frag)(mg:Str->Option Value)(bn:Str)(B0:Addr):Prop where
 mg:mg bn=some (.ref B0)
 ga:PySem.W.specialIn K (.ref B0) "__getattribute__"=some (some (.builtin "type.__getattribute__"))
 rd:PySem.W.readsIn K B0 (.type "type")=true
 ini:PySem.W.findCls K (.ref B0) (.type "type") "__init__"=some (.val (.builtin "ValueError.__init__"))
end
end L2
namespace L2
open PySem PySem.Spec PyProof.Rows
section
variable{X:Cx}{pins:List (Addr×Obj)}{σ:St}{H:Hp}{s:Shared}{e:Addr}
noncomputable def Cx.mk1(X:Cx)(e:Addr):Cx:={X with ex:=[e]}
theorem Inv.mk1(I:Inv X pins σ H s)(d:X.ex=[])(f:e≠X.env.locals)(g:∀x c,X.env.cells.lookup x=some c->c≠e)(i:∀o,X.base.get? e≠some o)(j:e∉X.fs):Inv (X.mk1 e) pins σ H s:=
 ⟨⟨I.ok.mod,I.ok.kind,I.ok.glob,I.ok.blt,I.ok.above,I.ok.inj,I.ok.has,I.ok.cab,I.ok.hd,I.ok.frames,I.ok.w4,λb a=>by rw[List.mem_singleton.mp a];exact⟨f,g⟩,I.ok.bs,I.ok.qD,λb o q a=>by rw[List.mem_singleton.mp a]at q;exact i o q,λb a=>by rw[List.mem_singleton.mp a];exact j,I.ok.fm,I.ok.ug⟩,
  I.os,I.bare,I.base.mono (λ_ h=>h) (by rw[d];simp),I.loc,I.cell,I.free,I.cJ,I.pin,I.hok,I.len⟩
end
section
variable{P:Program}{w:World}{K:PySem.W.Frag}{mg:Str->Option Value}{base:Heap}
end
section
variable{M:Model}{A:Around}{E:Value->Shared->Prop}{s:Shared}
end
section
variable{X:Cx}{pins:List (Addr×Obj)}{σ:St}{H:Hp}{s:Shared}{C N0 f c:Addr}{fd:FuncData}{st:Stmt}{qual fld sf pn:Str}{ve:Expr}{k:Nat}{v0:V}{u:Value}{eA:VK}
end
end L2
namespace L2
open PySem PySem.Spec PyProof.Rows
open PySem.W (clsIn findIn takerIn InstAt)
open PySem.Builtin.ObjectAttr
section
variable{prog:Program}{w:World}{A:Around}{s:Shared}{K:PySem.W.Frag}{name:Str}{x C dd:Addr}{v:Value}{E:Value->Shared->Prop}
theorem oY{ox:Obj}{f:ClassData}{i:Str->Option Value}{ns:List Str}{Q:Unit->Shared->Prop}(X:K.In s.heap)(p:s.heap.get? x=some ox)(c:ox.cls=.ref C)(d:ox.dict=some dd)(j:PySem.W.notCls ox=true)(q:clsIn K C=some f)(t:cN f.mro=true)(u:f.hasDict=true)
  (z:findIn K (.ref C) "__setattr__"=some (some (.builtin "object.__setattr__"))) (B:takerIn K C name=some none) (r:s.heap.Ns1 dd i) (D:Within i ns) (N:ns.length<1000)
  (h:∀h' t',h'.Ns1 dd (λy=>if y=name then some v else i y)->Heap.SameBut dd s.heap h'->Q () {s with heap:=h',toks:=t' }) :
  wpAny (model prog w) A (setAttr (.ref x) name v) Q E s:=by
 obtain⟨F,g,l⟩:=c9 r;have I:InstAt s.heap x ox C (some F):=⟨p,c,j,by rw[d];exact g⟩
 refine PySem.W.set_plain X I z (lZ (s:={s with toks:=s.toks+1}) X I q t B λb=>?_)
 obtain⟨oc,G,H,J⟩:=ox;dsimp only at c d;subst c d;refine wpAny_bind (wpAny_pure (wpAny_bind (wpAny_bind (wpAny_loadPart p (wpAny_bind (PySem.W.Looks.here (s:={s with toks:=s.toks+1}) (PySem.W.looks_clsIn X q) ?_))))));rw[u];refine wpAny_pure (a:=some dd) ?_
 show wpAny _ _ (storeInDict dd (.str name s.toks) name v) _ _ _
 unfold storeInDict newKeyGuard;refine wpAny_bind (wpAny_pure (wpAny_bind (wpAny_nsSet1 r λh' e k=>?_)))
 obtain⟨O,L,M,m,n,o⟩:=e.count (Within.cons name v D);refine wpAny_bind (wpAny_lookBehind m (by rw[n];exact pastItsLine_dict (Nat.le_trans o (by rw[List.length_cons,sizeLine_eq];omega))) ?_)
 exact wpAny_pure (h h' _ e k)
end
section
variable{X:Cx}{pins:List (Addr×Obj)}{σ:St}{H:Hp}{s:Shared}{e C N fI t dd:Addr}{fld:Str}{fs:List (Str×V)}
theorem Inv.uy(I:Inv X pins σ H s){o:HO}(b:H dd=some o)(d:∀a u,o≠.eK a u):dd≠X.env.locals/\(∀x c,X.env.cells.lookup x=some c->c≠dd)/\∀p∈X.pn++pins,p.1≠dd:=by
 refine⟨λz=>?_,λx c e z=>?_,λp f z=>?_⟩
 .have:=I.free;rw[←z,b]at this;cases this
 .rcases(I.cJ x c e).1 with q|⟨g,u,q⟩
  .rw[z,b]at q;cases q
  .rw[z,b]at q;cases q;exact d _ _ rfl
 .obtain⟨_,q,_⟩:=I.pin p f
  rw[z,b]at q;cases q
theorem rN{c:Str->Option Value}{v:V}{u:Value}(d:∀f,eM (fs.lookup f) (c f))(a:fs.lookup fld=none)(r:RelV v u)(f:Str):eM ((fs++[(fld,v)]).lookup f) (if f=fld then some u else c f):=by
 have:=d f;rw[List.lookup_append]
 by_cases b:f=fld
 .subst b
  rw[if_pos rfl,a];simp[List.lookup];exact r
 .have e:(f==fld)=false:=by simpa using b
  rw[if_neg b];cases q:fs.lookup f with
  |none=>rw[q]at this;simp[List.lookup,e];exact this
  |some g=>rw[q]at this;exact this
theorem m8{a:Str->Option Value}(b:∀f,eM (fs.lookup f) (a f)):Within a (fs.map (·.1)):=λy d=>by
 have:=b y;cases q:fs.lookup y with
 |none=>
  rw[q]at this;cases c:a y with
  |none=>exact absurd c d
  |some _=>rw[c]at this;exact this.elim
 |some v=>
  clear this b
  induction fs with
  |nil=>cases q
  |cons p r e=>
   rw[List.lookup]at q;split at q
   .rename_i g;simp[eq_of_beq g]
   .exact List.mem_cons_of_mem _ (e q)
theorem oZ{Q:Unit->Shared->Prop}{E:Value->Shared->Prop}{A:Around}{v:V}{u:Value}(I:Inv X [(e,aS C none t)] σ H s)(T:ez X.K C N fI)(S:bN X.K C fld)(U:e∈X.ex\/X.s₀.heap.objs.size<=e)(n:∀x c,X.env.cells.lookup x=some c->c≠e)(y:∀p∈X.pn,p.1≠e)(r:RelV v u)
  (h:∀i L,H i=none->i≠e->s.heap.objs.size<=i->Inv X [(e,aS C (some i) t)] σ (upd H i (.xd [(fld,v)])) L->Q () L):wpAny (model X.prog X.w) A (setAttr (.ref e) fld u) Q E s:=by
 obtain⟨cd,c1,c2,Y⟩:=T.cd;obtain⟨B,k,l,M,Z⟩:=I.pin (e,aS C none t) (by simp)
 dsimp only at B k l M Z;have d:H s.heap.objs.size=none:=I.hok.fresh (Nat.le_refl _);have D:=Heap.lt_size B;have j:s.heap.objs.size≠e:=Nat.ne_of_gt D;refine rJ I.dB B c1 c2 Y T.sa S.taker λO t' g1 g2 g3=>h s.heap.objs.size _ d j (Nat.le_refl _) ?_
 have I0:=I.ux;have keep:∀b o,b∉[e]->s.heap.get? b=some o->O.get? b=some o:=λb o hb q=>g3 b o (by simpa using hb) q
 have J:Inv X [] σ (upd H s.heap.objs.size (.xd [(fld,v)])) {s with heap:=O,toks:=t' }:=by
  refine I0.step (ch:=[e]) (λb hb=>?_) (λb o _ _ hb q _=>keep b o hb q) (λb o _ _ hb q _=>⟨o.slots,keep b o hb q⟩) (λb o hb q F=>?_) (λb o hb q=>⟨o,keep b o hb q⟩) (λb xs q=>?_) (λb o P q=>?_) (λb ps q=>?_) (λm F=>?_) ?_ I.bare
  .rw[List.mem_singleton.mp hb]
   exact⟨U,l,n,λp hp=>y p (by simpa using hp)⟩
  .rw[ao (Nat.ne_of_lt (Heap.lt_size q))];exact F
  .rw[ao (λz=>by rw[z,d]at q;cases q)];exact q
  .rw[ao (λz=>by rw[z,d]at q;cases q)];exact q
  .exact⟨#[],by rw[ao (λz=>by rw[z,d]at q;cases q),q];simp⟩
  .obtain⟨o,es,ep,e1,e2⟩:=F
   exact⟨o,es,ep,keep _ o (by simp[Ne.symm l]) e1,e2⟩
  .intro a o q
   by_cases R:a=s.heap.objs.size
   .subst R
    rw[aI]at q;cases q;refine⟨_,g2,λf=>?_⟩
    show eM ([(fld,v)].lookup f) (if f=fld then some u else none)
    by_cases G:f=fld
    .rw[G,if_pos rfl];simp[List.lookup];exact r
    .rw[if_neg G]
     have:(f==fld)=false:=by simpa using G
     simp[List.lookup,this];exact trivial
   .rw[ao R]at q
    refine(I.hok a o q).stay (λb P hb g=>keep b P (λz=>?_) g) (λb g=>?_) λb xs g=>?_
    .rw[List.mem_singleton.mp z]at hb
     rcases hb with hb|hb
     .rw[←hb,k]at q;cases q
     .rw[k]at hb;cases hb
    .rw[ao (λz=>by rw[z,d]at g;cases g)];exact g
    .rw[ao (λz=>by rw[z,d]at g;cases g)];exact g
 exact J.vy g1 (by rw[ao (Ne.symm j)];exact k) l M (λv=>by simp[aS])
theorem o5{Q:Unit->Shared->Prop}{E:Value->Shared->Prop}{A:Around}{v:V}{u:Value}(I:Inv X [(e,aS C (some dd) t)] σ H s)(T:ez X.K C N fI)(D:bN X.K C fld)(i:H dd=some (.xd fs))(d:X.s₀.heap.objs.size<=dd)(F:fs.length<900)(j:fs.lookup fld=none)(r:RelV v u)
  (h:∀p,Inv X [(e,aS C (some dd) t)] σ (upd H dd (.xd (fs++[(fld,v)]))) p->Q () p):wpAny (model X.prog X.w) A (setAttr (.ref e) fld u) Q E s:=by
 obtain⟨cd,c1,c2,G⟩:=T.cd;obtain⟨J,p2,p3,p4,p5⟩:=I.pin (e,aS C (some dd) t) (by simp)
 obtain⟨x,L,M⟩:=I.uy i (λ_ _ z=>nomatch z)
 obtain⟨mA,n,y⟩:=I.hok dd _ i;refine oY I.dB J rfl rfl rfl c1 c2 G T.sa D.taker n (m8 y) (by simp;omega) λO t' P R=>h _ ?_
 have keep:∀b o,b≠dd->s.heap.get? b=some o->O.get? b=some o:=λb o hb q=>(R.2 b hb).trans q
 have g:∀{b:Addr}{o:HO},H b=some o->(∀f,o≠.xd f)->b≠dd:=λ{b o} q S z=>by rw[z,i]at q;cases q;exact S _ rfl
 refine I.step (ch:=[dd]) (λb hb=>?_) (λb o _ _ hb q _=>keep b o (by simpa using hb) q) (λb o _ _ hb q _=>⟨o.slots,keep b o (by simpa using hb) q⟩) (λb o hb q k=>?_) (λb o hb q=>⟨o,keep b o (by simpa using hb) q⟩) (λb U q=>?_) (λb o B q=>?_) (λb ps q=>?_) (λm k=>?_) ?_ I.bare
 .rw[List.mem_singleton.mp hb]
  exact⟨.inr d,x,L,M⟩
 .rw[ao (by simpa using hb)];exact k
 .rw[ao (g q λ_ z=>nomatch z)];exact q
 .rw[ao (g q λ_ z=>nomatch z)];exact q
 .exact⟨#[],by rw[ao (g q λ_ z=>nomatch z),q];simp⟩
 .obtain⟨o,Y,Z,e1,e2⟩:=k
  exact⟨o,Y,Z,keep _ o (Ne.symm x) e1,e2⟩
 .intro a o q
  by_cases l:a=dd
  .subst l
   rw[aI]at q;cases q;exact⟨_,P,rN y j r⟩
  .rw[ao l]at q
   refine(I.hok a o q).stay (λb B hb c=>keep b B (λz=>?_) c) (λb c=>?_) λb U c=>?_
   .rcases hb with hb|hb
    .exact l (hb.symm.trans z)
    .rw[z,i]at hb;cases hb
   .rw[ao (g c λ_ z=>nomatch z)];exact c
   .rw[ao (g c λ_ z=>nomatch z)];exact c
end
end L2
namespace L2
open PySem PySem.Spec PyProof.Rows
structure eW where
 fld:Str
 ve:Expr
 a1:Pos
 a2:Pos
 a3:Pos
noncomputable def eW.st(a:Str)(r:eW):Stmt:=.Assign [.Attribute (.Name a r.a1) r.fld r.a2] r.ve r.a3
def iz(e c:Addr):List (Str×TE)->Option Addr->List (Str×V)->St->Hp->(Option Addr->List (Str×V)->Hp->Prop)->Prop
 |[],od,fs,_,H,Q=>Q od fs H
 | (f,te)::r,none,_,σ,H,Q=>te σ H λv b=>∀a,b a=none->a≠e->c<=a->iz e c r (some a) [(f,v)] σ (upd b a (.xd [(f,v)])) Q
 | (f,te)::r,some a,fs,σ,H,Q=>te σ H λv b=>b a=some (.xd fs)/\iz e c r (some a) (fs++[(f,v)]) σ (upd b a (.xd (fs++[(f,v)]))) Q
def wN(X:Cx)(H:Hp):Option Addr->List (Str×V)->Prop
 |none,fs=>fs=[]
 |some dd,fs=>H dd=some (.xd fs)/\X.s₀.heap.objs.size<=dd
section
variable{X:Cx}{σ:St}{H:Hp}{s:Shared}{e C N fI t:Addr}{sf:Str}{i:Nat}
theorem i_(T:ez X.K C N fI)(F:rM X e)(k:X.N[i]?=some sf)(l:qC X.env.scope sf)(a:σ[i]?=some (some (.ref e)))(b:(sf==("__debug__":Str))=false)(c:(sf==("__classdict__":Str))=false){Q:Option Addr->List (Str×V)->Hp->Prop}{R:Flow->Shared->Prop}{rest:List Stmt}
  (K:∀od fs f M,Inv X [(e,aS C od t)] σ f M->wN X f od fs->Q od fs f->wpAny (model X.prog X.w) X.A (execs rest X.env) R X.xe M) :
  ∀(rs:List (eW×TE)) (od:Option Addr) (fs:List (Str×V)) (H:Hp) (s:Shared),(∀r∈rs,PE X r.1.ve r.2/\bN X.K C r.1.fld/\∀env,swapsWith r.1.ve (some (.Attribute (.Name sf r.1.a1) r.1.fld r.1.a2)) r.1.a3.line env=pure false) ->
   ((fs.map (·.1))++rs.map (·.1.fld)).Nodup->fs.length+rs.length<900->Inv X [(e,aS C od t)] σ H s->wN X H od fs->iz e X.s₀.heap.objs.size (rs.map λr=>(r.1.fld,r.2)) od fs σ H Q ->
   wpAny (model X.prog X.w) X.A (execs (rs.map (λr=>r.1.st sf)++rest) X.env) R X.xe s
 |[],od,fs,H,s,_,_,_,I,st,q=>K od fs H s I st q
 | (r,te)::rs,od,fs,H,s,O,P,m,I,st,q=>by
  obtain⟨h1,S,o⟩:=O (r,te) (by simp)
  have g:=λu (U:u∈rs)=>O u (List.mem_cons_of_mem _ U)
  rw[List.map_cons,List.cons_append];have d:((fs.map (·.1)++[r.fld])++rs.map (·.1.fld)).Nodup:=by simpa using P
  have x:fs.lookup r.fld=none:=by
   have y:r.fld∉fs.map (·.1):=λz=>by
    have:=(List.nodup_append.mp (List.nodup_append.mp d).1).2.2 _ z _ (List.mem_singleton.mpr rfl);exact this rfl
   clear P d m st q I
   induction fs with
   |nil=>rfl
   |cons p u Y=>
    rw[List.lookup];have:(r.fld==p.1)=false:=by simp at y ⊢;exact y.1
    rw[this];exact Y (λz=>y (List.mem_cons_of_mem _ z))
  refine wpAny_execs_cons (plainObj_wpAny_Assign_Attribute (?_:wpAny _ _ (eval r.ve X.env) _ _ s) (o _));cases od with
  |none=>
   cases (show fs=[]from st)
   refine bz (h1 _ s σ H _ I q) λZ s2 ⟨v,H2,J2,r2,q2⟩=>?_
   refine bz (gg (pos:=r.a1) k l b c _ _ _ H2 (λz f=>z=.ref e/\f=H2) J2 ⟨.ref e,a,rfl,rfl⟩) λB s3 ⟨z,H3,J3,D,hz,hH⟩=>?_
   subst hz hH;cases (show B=Value.ref e from D)
   have h:=J3.sz;refine oZ J3 T S F.new F.cell F.pn r2 λn E G J j L=>?_
   exact i_ T F k l a b c K rs (some n) [(r.fld,v)] _ E g (by simpa using d) (by simp at m ⊢;omega) L ⟨aI,Nat.le_trans h j⟩ (q2 n G J (Nat.le_trans h j))
  |some n=>
   refine bz (h1 _ s σ H _ I q) λZ s2 ⟨v,H2,J2,r2,q1,q2⟩=>?_
   refine bz (gg (pos:=r.a1) k l b c _ _ _ H2 (λz f=>z=.ref e/\f=H2) J2 ⟨.ref e,a,rfl,rfl⟩) λB s3 ⟨z,H3,J3,D,hz,hH⟩=>?_
   subst hz hH;cases (show B=Value.ref e from D)
   refine o5 J3 T S q1 st.2 (by simp at m;omega) x r2 λE L=>?_
   exact i_ T F k l a b c K rs (some n) (fs++[(r.fld,v)]) _ E g (by simpa using d) (by simp at m ⊢;omega) L ⟨aI,st.2⟩ q2
end
noncomputable def eX(a:Str)(q:Str×Pos×Pos):Expr:=.Attribute (.Name a q.2.1) q.1 q.2.2
section
variable{X:Cx}{σ:St}{H:Hp}{s:Shared}{e C N fI t:Addr}{sf:Str}{i:Nat}{od:Option Addr}{fs:List (Str×V)}
theorem o6(T:ez X.K C N fI)(j:X.N[i]?=some sf)(k:qC X.env.scope sf)(a:σ[i]?=some (some (.ref e)))(b:(sf==("__debug__":Str))=false)(c:(sf==("__classdict__":Str))=false){pos:Pos}{d:Addr}(l:H d=some (.xd fs)) :
  ∀(L:List (Str×Pos×Pos)) (s:Shared) {Q:List Value->Shared->Prop},(∀q∈L,bN X.K C q.1/\∃v,fs.lookup q.1=some v)->Inv X [(e,aS C (some d) t)] σ H s->(∀us f,us.length=L.length->Inv X [(e,aS C (some d) t)] σ H f->Q us f) ->
   wpAny (model X.prog X.w) X.A (spliced (backTo pos (starEach (L.map (eX sf)) X.env))) Q X.xe s
 |[],s,Q,_,I,h=>Calls.spliced_nil (h [] s rfl I)
 |q::L,s,Q,m,I,h=>by
  obtain⟨n,v,o⟩:=m q (by simp)
  refine Calls.spliced_cons (iS rfl (bz (gg (pos:=q.2.1) j k b c _ _ σ H (λw p=>w=.ref e/\p=H) I ⟨.ref e,a,rfl,rfl⟩) λu D ⟨w,H2,J2,r,hw,hH⟩=>?_))
  subst hw;rw[hH]at J2;cases (show u=Value.ref e from r)
  obtain⟨x,_,_,_,_⟩:=J2.pin (e,aS C (some d) t) (by simp)
  refine rL J2 T n x rfl rfl rfl l o λu E y=>?_
  exact o6 T j k a b c l L _ (λz B=>m z (List.mem_cons_of_mem _ B)) y λus f g J=>h (u::us) f (by simp[g]) J
theorem iA{a:Str}{env:Env}:∀L:List (Str×Pos×Pos),starEach (L.map (eX a)) env=L.map λq=>(false,eval (eX a q) env)
 |[]=>rfl
 |q::L=>by
  rw[List.map_cons,List.map_cons,←iA L];rfl
theorem rO{b:Str}{J:Addr}{n c apos pos:Pos}{pl:Sem Bool}{L:List (Str×Pos×Pos)}{Q:Value->Shared->Prop}(I:Inv X [(e,aS C od t)] σ H s)(F:rM X e)(T:ez X.K C N fI)(B:XBase X.K X.mg b J)
  (st:wN X H od fs) (o:∀q∈L,bN X.K C q.1/\∃v,fs.lookup q.1=some v) (p:L.length<=900) (z:X.N[i]?=some sf) (D:qC X.env.scope sf) (g:σ[i]?=some (some (.ref e))) (M:Gl X b)
  (E:eval (.Call (.Attribute (.Name b n) "__init__" apos) (.Name sf c::L.map (eX sf)) [] pos) X.env=(do
   let G ←eval (.Name b n) X.env
   standAt apos.atName
   let (f,first) ←holding [G] (getMethod G "__init__" pl)
   callWith pos f first (backTo pos (starEach (.Name sf c::L.map (eX sf)) X.env)) (backToKw pos (keywordEach [] X.env))))
  (h:∀t' d,Inv X [(e,aS C od t')] σ H d->Q .none d) (r:(b==("__debug__":Str))=false) (j:(sf==("__debug__":Str))=false) (k:(sf==("__classdict__":Str))=false) :
  wpAny (model X.prog X.w) X.A (eval (.Call (.Attribute (.Name b n) "__init__" apos) (.Name sf c::L.map (eX sf)) [] pos) X.env) Q X.xe s:=by
 refine PySem.W.methodCall_KW (pl:=pl) (dq I M B.mg ?_ r) E;refine PySem.W.method_cls I.dB B.ga (PySem.W.cls_value I.dB B.rd B.ini (by decide +kernel) ?_)
 have O:=I.tok (s.toks+1);have a:starEach (.Name sf c::L.map (eX sf)) X.env=(false,eval (.Name sf c) X.env)::starEach (L.map (eX sf)) X.env:=rfl;refine PyProof.Rows.callWith_builtin1 ?_ a ?_
 .rw[a]
  refine Calls.spliced_cons (bz (gg (pos:=c) z D j k _ _ σ H (λw P=>w=.ref e/\P=H) O ⟨.ref e,g,rfl,rfl⟩) λu s1 ⟨w,H1,J1,R,hw,hH⟩=>?_)
  subst hw hH;cases (show u=Value.ref e from R)
  have l:∀x d,x.length=L.length->Inv X [(e,aS C od t)] σ H1 d->wpAny (model X.prog X.w) X.A (call (.builtin "ValueError.__init__") (.ref e::x)) Q X.xe d:=λx d y m=>by
   obtain⟨nm,q,bs,bm,sn,S,ab,U,V,k0,k1,k2,k3,k5,Y,Z⟩:=T.ex;obtain⟨z1,_,_,_,_⟩:=m.pin (e,aS C od t) (by simp)
   refine wpAny_call (hW PySem.F.excBase_ValueError (Z _ m.dB) (m.dB _ _ Y) z1 (by rw[y,sizeLine_eq];omega) λh' g1 g2 g3=>?_)
   exact h _ _ (m.DD F g1 g3 (λv=>by simp[aS]))
  cases od with
  |none=>
   cases (show fs=[]from st)
   cases L with
   |nil=>exact Calls.spliced_nil (l [] _ rfl J1)
   |cons q L=>obtain⟨_,v,hl⟩:=o q (by simp);cases hl
  |some dd=>exact o6 T z D g j k st.1 L _ o J1 l
 .rw[iA]
  clear a E o p
  induction L with
  |nil=>rfl
  |cons q L ih=>exact ih
end
structure o7(K:PySem.W.Frag)(mg:Str->Option Value)(C N0 f c:Addr)(fd:FuncData)(st:Stmt)(qual sf:Str)(ps:List Str)(rs:List eW):Prop where
 fn:∃x,rg K x qual st f fd
 cv:fd.code=.ref c
 sc:eQ (sf::ps) (sf::ps) (ai st)
 cls:ez K C N0 f
 bs:Binds K fd (sf::ps) []
 na:∀r∈rs,bN K C r.fld
 nd:(rs.map (·.fld)).Nodup
 sl:(ai st).names.lookup sf=some .local
 d1:(sf==("__debug__":Str))=false
 d2:(sf==("__classdict__":Str))=false
 ln:rs.length<900
 pl:ps.length<900
 body:∃(bn:Str) (B0:Addr) (L:List (Str×Pos×Pos)) (p1 p2 p5 apos pos:Pos) (pl:Env->Sem Bool),XBase K mg bn B0/\(bn==("__debug__":Str))=false/\(ai st).names.lookup bn=some .globalImplicit /\
  aY st=rs.map (eW.st sf)++[.Expr (.Call (.Attribute (.Name bn p1) "__init__" apos) (.Name sf p2::L.map (eX sf)) [] pos) p5]/\L.map (·.1)=rs.map (·.fld) /\
  (∀r∈rs,∀env,swapsWith r.ve (some (.Attribute (.Name sf r.a1) r.fld r.a2)) r.a3.line env=pure false) /\
  (∀env:Env,eval (.Call (.Attribute (.Name bn p1) "__init__" apos) (.Name sf p2::L.map (eX sf)) [] pos) env=(do
   let ov ←eval (.Name bn p1) env
   standAt apos.atName
   let (f,first) ←holding [ov] (getMethod ov "__init__" (pl env))
   callWith pos f first (backTo pos (starEach (.Name sf p2::L.map (eX sf)) env)) (backToKw pos (keywordEach [] env))))
section
variable{P:Program}{w:World}{K:PySem.W.Frag}{mg:Str->Option Value}{base:Heap}
theorem vz{qual a:Str}{ps:List Str}{rs:List eW}{st:Stmt}{f c C N0:Addr}{fd:FuncData}{k:Nat}{eA:Option Addr->List (Str×V)->Hp->Prop}(D:o7 K mg C N0 f c fd st qual a ps rs)
  {A:Around}{outer:List Env}{s:Shared}{H:Hp}{us:List Value}{vs:List V}{e t0:Addr}{R:Result->Shared->Prop}
  (h0:∀E,∃i:List TE,i.length=rs.length/\(∀p∈rs.zip i,PE ((c5 dt P w K mg base (a::ps) qual (ai st) f (.ref c) A outer s H E).h8.mk1 e) p.1.ve p.2) /\
   iz e s.heap.objs.size ((rs.zip i).map λr=>(r.1.fld,r.2)) none [] (start (a::ps) (.ref e::vs)) H λod fs U=>fs.map (·.1)=rs.map (·.fld)/\eA od fs U)
  (j:bF (k+1) A) (Y:jJ P w K mg base A outer s H) (hb:BindsTo s fd ⟨.ref e::us,[]⟩ ((a::ps).zip (.ref e::us))) (Z:vs.length=ps.length) (rv:Vals vs us)
  (he:s.heap.get? e=some (aS C none t0)) (i0:base.objs.size<=e) (j0:H e=none) (a0:e∉frs outer)
  (h:∀od fs d t' g,eA od fs d->(od=none/\fs=[]\/∃O,od=some O/\d O=some (.xd fs)/\s.heap.objs.size<=O)->g.os=s.os->AllBare g.gens->Un (frs outer) [e] H d s.heap g.heap->fO P w d g.heap ->
   g.heap.get? e=some (aS C od t')->d e=none->R (.ok (.ret (.ref e))) g) :
  codeAny (model P w) A (.call (.ref f) ⟨.ref e::us,[]⟩) (PySem.W.InitBack e R) s:=by
 obtain⟨x,F⟩:=D.fn;have l0:=D.cv;have S:=D.sc;have T:=D.cls;obtain⟨bn,B0,L,p1,p2,p5,apos,G0,pl,B,m0,hg,n0,b0,o0,ht⟩:=D.body;obtain⟨oc,od,kV,I0,pm,an,p0,ct,J0,rfl,lk,q0⟩:=F.ex;obtain rfl:p0=.ref c:=l0;have KX:K.In s.heap:=Y.mod.wZ.keeps λb o e=>(Y.bs b o e).1
 have r0:s.heap.NoLimit:=Y.mod.nolimit.keeps λb o e=>(Y.bs b o e).1
 have u:∀y∈(a::ps).zip (.ref e::us),(ai st).names.lookup y.1=some .local\/((ai st).names.lookup y.1=some .cell/\((cellsFrom (s.heap.objs.size+1) (ai st).names []).lookup y.1).isSome=true):=λ⟨n,v⟩ hy=>by
  rcases S.par n (List.of_mem_zip hy).1 with q|q
  .exact .inl q
  .exact .inr ⟨q,PySem.W.cellsFrom_some _ _ _ (.inl q)⟩
 refine codeAny_call_function j.depth (KX _ _ lk) rfl S.co S.gen rfl (PySem.W.codeRec_of KX q0) (hb _ _ _ _ ?_);refine wpAny_newFunctionEnv_cells S.kind u λK0 s0 s1 x=>?_
 subst s0;refine⟨r0.keeps x.toInCall.keep,codeAny_func ?_⟩;have E:XK:=λ_ _ _=>False
 have I:Inv (c5 dt P w K mg base (a::ps) qual (ai st) f (.ref c) A outer s H E) [] (start (a::ps) (.ref e::vs)) H s1:=ie (us:=.ref e::us) S j.hd Y (by simp[Z]) (.cons rfl rv) x
 have d0:=Heap.lt_size he;have m:e≠s.heap.objs.size:=Nat.ne_of_lt d0
 have f0:∀(y:Str) (cc:Addr),(envOfC qual (ai st) s.heap.objs.size f (.ref c)).cells.lookup y=some cc->cc≠e:=λy cc hy z=>by
  have:=I.ok.cab y cc rfl hy;rw[z]at this;exact absurd (Nat.lt_of_lt_of_le d0 this) (Nat.lt_irrefl _)
 have I1:=(I.wish (λ_ _=>False)).mk1 (e:=e) rfl m f0 (λo q=>absurd (Nat.lt_of_lt_of_le (Heap.lt_size q) i0) (Nat.lt_irrefl _)) a0
 have I2:=I1.vy (x.toInCall.keep _ _ he) j0 m a0 (λv=>by simp[aS])
 obtain⟨i,u0,v0,w0⟩:=h0 E
 have y0:wpAny (model P w) (A.deeper (envOfC qual (ai st) s.heap.objs.size f (.ref c))) (execs (aY st) (envOfC qual (ai st) s.heap.objs.size f (.ref c)))
   (λfl g=>fl=.next/\∃od fs d t',eA od fs d/\wN (c5 dt P w K mg base (a::ps) qual (ai st) f (.ref c) A outer s H E) d od fs/\Inv ((c5 dt P w K mg base (a::ps) qual (ai st) f (.ref c) A outer s H E).h8.mk1 e) [(e,aS C od t')] (start (a::ps) (.ref e::vs)) d g) (λ_ _=>False) s1:=by
  have z0:((c5 dt P w K mg base (a::ps) qual (ai st) f (.ref c) A outer s H E).h8.mk1 e).s₀=s:=rfl
  have A0:∀d od fs,wN ((c5 dt P w K mg base (a::ps) qual (ai st) f (.ref c) A outer s H E).h8.mk1 e) d od fs->wN (c5 dt P w K mg base (a::ps) qual (ai st) f (.ref c) A outer s H E) d od fs:=λd od fs q=>by
   cases od with
   |none=>exact q
   |some O=>exact q
  generalize l:(c5 dt P w K mg base (a::ps) qual (ai st) f (.ref c) A outer s H E).h8.mk1 e=X at *;have xe:X.env=envOfC qual (ai st) s.heap.objs.size f (.ref c):=by rw[←l];rfl
  have xN:X.N=a::ps:=by rw[←l];rfl
  have xA:X.A=A.deeper (envOfC qual (ai st) s.heap.objs.size f (.ref c)):=by rw[←l];rfl
  have xK:X.K=K:=by rw[←l];rfl
  have xm:X.mg=mg:=by rw[←l];rfl
  have xp:X.prog=P:=by rw[←l];rfl
  have xw:X.w=w:=by rw[←l];rfl
  have xx:X.xe=λ_ _=>False:=by rw[←l];rfl
  have fr:rM X e:=⟨.inl (by rw[←l];simp[Cx.mk1]),by rw[xe];exact f0,by rw[←l];intro p hp;cases hp⟩
  rw[←xA,←xe,←xp,←xw,←xx,n0];have na:=D.na;rw[←xK]at T B na;rw[←xm]at B;have hN:X.N[0]?=some a:=by rw[xN];rfl
  have hv:qC X.env.scope a:=.inl (by rw[xe];exact D.sl)
  have C0:Gl X bn:=by show X.env.scope.names.lookup bn=_;rw[xe];exact hg
  have g0:rs.map (eW.st a)=(rs.zip i).map λr=>r.1.st a:=by
   have e1:=List.map_fst_zip (l₁:=rs) (l₂:=i) (by omega)
   conv=>lhs;rw[←e1]
   rw[List.map_map];rfl
  rw[g0];have t:∀r∈rs.zip i,r.1∈rs:=λr j=>(List.of_mem_zip j).1
  refine i_ (Q:=λod fs U=>fs.map (·.1)=rs.map (·.fld)/\eA od fs U) T fr hN hv rfl D.d1 D.d2 (λod fs U g J G q=>?_) (rs.zip i) none [] H s1 (λr j=>⟨v0 r j,na _ (t r j),o0 _ (t r j)⟩) ?_ ?_ I2 rfl (by rw[z0];exact w0)
  .obtain⟨q1,q2⟩:=q
   refine wpAny_execs_cons (wpAny_Expr_any (rO J fr T B G (λq' D0=>?_) ?_ hN hv rfl C0 (ht X.env) (λt' s5 J5=>?_) m0 D.d1 D.d2) J.quiet (by rfl))
   .have h1:q'.1∈rs.map (·.fld):=by rw[←b0];exact List.mem_map_of_mem D0
    obtain⟨r,j,e1⟩:=List.mem_map.mp h1;refine⟨by rw[←e1];exact na r j,?_⟩
    rw[←q1]at h1;clear J G q1 q2
    induction fs with
    |nil=>cases h1
    |cons p r ih=>
     rw[List.lookup];split
     .exact⟨_,rfl⟩
     .rename_i hb
      refine ih ?_;simp only[List.map_cons,List.mem_cons]at h1;rcases h1 with h1|h1
      .rw[h1]at hb;simp at hb
      .exact h1
   .have:=congrArg List.length b0
    simp at this;have:=D.ln;omega
   .exact wpAny_execs_nil ⟨rfl,od,fs,U,t',q2,A0 _ _ _ G,J5⟩
  .have e2:(rs.zip i).map (·.1.fld)=rs.map (·.fld):=by
    have e1:=List.map_fst_zip (l₁:=rs) (l₂:=i) (by omega)
    conv=>rhs;rw[←e1]
    rw[List.map_map];rfl
   simp only[List.map_nil,List.nil_append];rw[e2];exact D.nd
  .have:=D.ln
   simp[u0];omega
 refine wpAny_mono y0 (λfl g hs=>?_) λ_ _ z=>z.elim
 obtain⟨rfl,od,fs,d,t',q2,M,J⟩:=hs;obtain⟨g1,g2,_,_,_⟩:=J.pin (e,aS C od t') (by simp)
 refine⟨rfl,h od fs d t' g q2 ?_ J.os J.bare J.base J.hok g1 g2⟩;cases od with
 |none=>exact .inl ⟨rfl,M⟩
 |some O=>exact .inr ⟨O,rfl,M.1,M.2⟩
end
def rP(H:Hp)(e C:Addr)(fs:List (Str×V)):Prop:=∃a t u,H e=some (.eK (aS C a t) u)/\((a=none/\fs=[])\/∃b c,a=some b/\H b=some (.eK c (.xd fs)))
section
variable{X:Cx}{pins:List (Addr×Obj)}{σ:St}{H:Hp}{s:Shared}
theorem Inv.fix{a:Addr}{o:Obj}{u:HO}(I:Inv X pins σ H s)(r:s.heap.get? a=some o)(t:bA X.prog X.w (upd H a (.eK o u)) s.heap a u)(g:H a=none\/∃fs,H a=some (.xd fs))(h:X.s₀.heap.objs.size<=a)(y:a≠X.env.locals)(k:∀x c,X.env.cells.lookup x=some c->c≠a)(i:∀p∈X.pn++pins,p.1≠a) :
  Inv X pins σ (upd H a (.eK o u)) s:=by
 have j:∀{b:Addr}{l:HO},H b=some l->(∀f,l≠.xd f)->b≠a:=λ{b l} q A z=>by
  rw[z]at q;rcases g with g|⟨fs,g⟩
  .rw[g]at q;cases q
  .rw[g]at q;cases q;exact A _ rfl
 refine I.step (h':=s.heap) (g':=s.gens) (t':=s.toks) (d':=s.drawn) (ch:=[a]) (λb e=>?_) (λb o _ _ _ q _=>q) (λb o _ _ _ q _=>⟨o.slots,q⟩) (λb o e q n=>?_) (λb o _ q=>⟨o,q⟩) (λb B q=>?_) (λb o C q=>?_) (λb E q=>?_) (λm n=>n) ?_ I.bare
 .rw[List.mem_singleton.mp e]
  exact⟨.inr h,y,k,i⟩
 .rw[ao (by simpa using e)];exact n
 .rw[ao (j q λ_ z=>nomatch z)];exact q
 .rw[ao (j q λ_ z=>nomatch z)];exact q
 .exact⟨#[],by rw[ao (j q λ_ z=>nomatch z),q];simp⟩
 .intro b D q
  by_cases e:b=a
  .subst e
   rw[aI]at q;cases q;exact⟨r,t⟩
  .rw[ao e]at q
   refine(I.hok b D q).stay (λc C _ d=>d) (λc d=>?_) λc B d=>?_
   .rw[ao (j d λ_ z=>nomatch z)];exact d
   .rw[ao (j d λ_ z=>nomatch z)];exact d
variable{C N0 f c:Addr}{fd:FuncData}{st:Stmt}{qual sf:Str}{ps:List Str}{rs:List eW}{k:Nat}{vs:List V}{us:List Value}{eA:Option Addr->List (Str×V)->Hp->Prop}
theorem vA(D:o7 X.K X.mg C N0 f c fd st qual sf ps rs)(I:Inv X pins σ H s)(hr:bF (k+2) X.A)(rv:Vals vs us)(y:vs.length=ps.length)
  (a0:∀(A:Around) (j:Shared) (e:Addr) (E:XK),bF k (A.deeper (envOfC qual (ai st) j.heap.objs.size f (.ref c)))->H e=none->∃ts:List TE,ts.length=rs.length/\(∀p∈rs.zip ts,PE ((c5 dt X.prog X.w X.K X.mg X.base (sf::ps) qual (ai st) f (.ref c) A X.stack j H E).h8.mk1 e) p.1.ve p.2) /\
   iz e j.heap.objs.size ((rs.zip ts).map λr=>(r.1.fld,r.2)) none [] (start (sf::ps) (.ref e::vs)) H λod fs H'=>fs.map (·.1)=rs.map (·.fld)/\eA od fs H')
  {Q:Value->Shared->Prop} (h:∀e od fs B V j,eA od fs B->Inv X pins σ V j->rP V e C fs->B e=none->(∀b,b≠e->od≠some b->V b=B b)->(∀i,od=some i->B i=some (.xd fs)/\i≠e/\V i≠none)->H e=none->Q (.ref e) j) :
  wpAny (model X.prog X.w) X.A (call (.ref C) us) Q X.xe s:=by
 obtain⟨nm,q,bs,bm,sn,i0,ab,j0,l0,k0,k1,k2,k3,k5,hC,ot⟩:=D.cls.ex;obtain⟨mN,hn,b0⟩:=D.cls.ns _ I.dB;have O:∀b o,s.heap.get? b=some o->(cq s.heap C us).get? b=some o:=λb o e=>Heap.get?_push_of_some _ (Heap.get?_push_of_some _ e)
 have I2:Inv X pins σ H {s with heap:=cq s.heap C us}:=I.kept (t':=s.toks) O
 have G:(cq s.heap C us).get? (s.heap.objs.size+1)=some (aS C none s.heap.objs.size):=by
  show(cq s.heap C us).get? (s.heap.objs.size+1)=some ({cls:=.ref C,data:=.fields #[.ref s.heap.objs.size,.none,.none,.none,.bool false,.none]}:Obj)
  heap_get
 have l:H (s.heap.objs.size+1)=none:=I.hok.fresh (Nat.le_succ _);have a:∀b o,s.heap.get? b=some o->b≠s.heap.objs.size+1:=λb o q=>Nat.ne_of_lt (Nat.lt_succ_of_lt (Heap.lt_size q))
 have d0:s.heap.objs.size+1∉frs X.stack:=λz=>by
  obtain⟨_,o,ho,_⟩:=I.stack.mem z;exact a _ _ ho rfl
 have R:us.length=ps.length:=rv.length.symm.trans y;refine wpAny_call ?_;have hz:us.length<=sizeLine:=by have:=D.pl;rw[R,sizeLine_eq];omega
 refine oV PySem.F.excBase_ValueError (ot _ I.dB) (I.dB _ _ hC) hn b0 (λself=>PySem.W.bind_fn I.dB self D.cls.fn) hz ?_
 refine vz (k:=k) (eA:=eA) (vs:=vs) D (λE=>a0 _ _ _ E ?_ l) (hr.make C us []) (I2.env0.make C us []) (by have:=D.bs _ (.ref (s.heap.objs.size+1)::us) I2.dB (by simp[R]);rwa[List.append_nil]at this) y rv G ?_ l d0 (λod fs B t' j q2 e0 ho f0 L S Y T=>?_)
 .exact(hr.make C us []).deeper _
 .exact Nat.le_trans (Nat.le_trans I.ok.qD I.sz) (Nat.le_succ _)
 .have J:Inv X pins σ B j:=I.call' (ch:=[]) ho ⟨λb o e n M _=>L.keep b o (O b o e) n M (by simpa using a b o e),λb o e n M _=>L.slot b o (O b o e) n M (by simpa using a b o e),λb o e n _=>L.free b o (O b o e) n (by simpa using a b o e),λb o e _=>L.there b o (O b o e) (by simpa using a b o e),L.tups,L.fk,L.hG⟩ S f0 (by simp)
  have N:X.s₀.heap.objs.size<=s.heap.objs.size:=I.sz
  have l1:s.heap.objs.size+1≠X.env.locals:=λz=>by
   obtain⟨m,hn,_⟩:=I.loc;obtain⟨o,es,ep,e1,_⟩:=hn;exact a _ _ e1 z.symm
  have l2:∀x Z,X.env.cells.lookup x=some Z->Z≠s.heap.objs.size+1:=λx Z e1=>by
   obtain⟨v,o,e2,_⟩:=I.cell x Z e1;exact a _ _ e2
  have l3:∀p∈X.pn++pins,p.1≠s.heap.objs.size+1:=λp hp=>by
   obtain⟨e2,_⟩:=I.pin p hp;exact a _ _ e2
  rcases e0 with ⟨rfl,rfl⟩|⟨i,rfl,g,g0⟩
  .have J2:=J.fix (u:=.ext λh=>h.get? (s.heap.objs.size+1)=some (aS C none t')) Y (lY (P:=X.prog) (w:=X.w) Y).2 (.inl T) (Nat.le_succ_of_le N) l1 l2 l3
   exact h _ none [] B _ j q2 J2 ⟨none,t',_,aI,.inl ⟨rfl,rfl⟩⟩ T (λb M _=>ao M) (λ_ z=>nomatch z) l
  .obtain⟨mA,U,rl⟩:=S i _ g
   obtain⟨oD,es,ep,h0,m0⟩:=id U;have t:i≠s.heap.objs.size+1:=λz=>by rw[z,T]at g;cases g
   obtain⟨n1,n2,n3⟩:=J.uy g (λ_ _ z=>nomatch z)
   have J1:=J.fix (u:=.xd fs) h0 ⟨mA,U,rl⟩ (.inr ⟨fs,g⟩) (Nat.le_trans N (Nat.le_trans (by show s.heap.objs.size<=(cq s.heap C us).objs.size;exact Nat.le_of_lt (Nat.lt_of_succ_lt (Heap.lt_size G))) g0)) n1 n2 n3
   have J2:=J1.fix (u:=.ext λh=>h.get? (s.heap.objs.size+1)=some (aS C (some i) t')) Y (lY (P:=X.prog) (w:=X.w) Y).2 (.inl (by rw[ao (Ne.symm t)];exact T)) (Nat.le_succ_of_le N) l1 l2 l3
   refine h _ (some i) fs B _ j q2 J2 ⟨some i,t',_,aI,.inr ⟨i,oD,rfl,?_⟩⟩ T (λb M hx=>?_) (λd z=>?_) l
   .rw[ao t,aI]
   .rw[ao M,ao (λz=>hx (by rw[z]))]
   .cases z
    exact⟨g,t,by rw[ao t,aI];simp⟩
end
section
variable{M:Model}{A:Around}{E:Value->Shared->Prop}{s:Shared}{env:Env}
variable{nm q:Str}{C N:Addr}{bs bm:List Value}{hdct:Bool}{sn:List Str}{sub:List Value}{ab:Bool}{col:Option Bool}{dd:Option Addr}{k0 k1 k2 k3 k5:Option Value}{newId:String}
end
section
variable{X:Cx}{pins:List (Addr×Obj)}{σ:St}{H:Hp}{s:Shared}{e C d t:Addr}
end
section
variable{P:Program}{w:World}{K:PySem.W.Frag}{mg:Str->Option Value}{base:Heap}{N:List Str}{qual:Str}{scope:Scope}{f:Addr}{cd:Value}{A:Around}{outer:List Env}{s0:Shared}{H0:Hp}{E:XK}
variable{C N0 fI c:Addr}{fd:FuncData}{st:Stmt}{Ct fld sf pn cn:Str}{ve arg:Expr}{k:Nat}{te:TE}{Arg:V->Hp->Prop}{eA:V->Hp->VK}{np cpos pos:Pos}
end
section
variable{X:Cx}{pins:List (Addr×Obj)}{σ:St}{H H':Hp}{s s':Shared}{e C d:Addr}{h':Heap}
end
section
variable{X:Cx}{σ:St}{H H':Hp}{s s':Shared}{e C d:Addr}
end
section
variable{X:Cx}{σ:St}{H:Hp}{s:Shared}{C:Addr}{k:Nat}{f:Addr}{fd:FuncData}{ps:List Str}{sp:Sp}{ta:TA}{fs:List (Str×V)}{Rest:Hp->Prop}
end
section
variable{X:Cx}{pins:List (Addr×Obj)}{σ:St}{H:Hp}{s:Shared}{e C N fI:Addr}{oe:Obj}
structure zL(K:PySem.W.Frag)(C:Addr):Prop where
 ha:PySem.W.findIn K (.ref C) "__class__"=some (some (.builtin "object.__class__"))
 hn:PySem.W.specialIn K (.builtin "object.__class__") "__get__"=some (some (.builtin "getset_descriptor.__get__"))
 ht:PySem.W.takesIn K (.builtin "object.__class__")=some true
 hm:PySem.W.mroIn K C (.type "object")=some true
variable{d:Addr}
def ja(X:Cx)(z:Str×Pos)(a:Value):Prop:=∀(E:Value->Shared->Prop) (pins:List (Addr×Obj)) (s:Shared) (b:St) (H:Hp) (Q:Value->Shared->Prop),Inv X pins b H s->Q a s->wpAny (model X.prog X.w) X.A (eval (.Name z.1 z.2) X.env) Q E s
end
end L2
namespace L2
open PySem PySem.Spec PyProof.Rows
open PySem.W (clsIn findIn takerIn InstAt mroIn)
section
variable{prog:Program}{w:World}{A:Around}{E:Value->Shared->Prop}{h:Heap}{g:Array GenState}{d:Drawn}{t:Nat}{os:OsState}{K:PySem.W.Frag}{x C:Addr}{ox:Obj}{od:Option Obj}{vx:Value}
theorem k6{od:Option Obj}{Q:Option Value->Shared->Prop}(X:K.In h)(I:InstAt h x ox C od)(G:k4 K C)(a:PySem.W.hasDictIn K C=true)(c:findIn K (.ref C) "__class__"=some (some (.builtin "object.__class__")))
  (e:PySem.W.specialIn K (.builtin "object.__class__") "__get__"=some (some (.builtin "getset_descriptor.__get__"))) (b:PySem.W.takesIn K (.builtin "object.__class__")=some true) (f:mroIn K C (.type "object")=some true)
  (i:Q (some (.ref C)) ⟨h,g,d,t+1,os⟩):wpAny (model prog w) A (getAttr? (.ref x) "__class__") Q E ⟨h,g,d,t,os⟩:=by
 have j:PySem.W.findObj K C od "__class__"=some (.bind (.builtin "getset_descriptor.__get__") (.builtin "object.__class__")):=by
  obtain⟨m,k,_⟩:=PySem.W.any_some a;unfold PySem.W.findObj;rw[k,Option.bind_some,c,Option.bind_some];simp[e,b]
 unfold getAttr? getAttrBy?;refine wpAny_bind (wpAny_mkText (wpAny_bind (wpAny_attempt (uw (t':=t+1) X I G (λn o p q=>?_) rfl (wpAny_pure i)))))
 have l:=I.type (M:=model prog w);have L1:=PySem.W.looks_find (M:=model prog w) X I j;unfold Builtin.«object.__getattribute__»;refine wpAny_bind (wpAny_pure (wpAny_bind (wpAny_pure (wpAny_bind (l.at (wpAny_bind (L1.at ?_)))))))
 show wpAny _ _ (holding [.builtin "object.__class__"] (call (.builtin "getset_descriptor.__get__") [.builtin "object.__class__",.ref x,.ref C]) >>= ret) _ _ _
 exact wpAny_bind (wpAny_holding (wpAny_call (PySem.W.class_get (s:=⟨h,g,d,t+1,os⟩) (ox:=ox) (od:=od) X I f (wpAny_pure q))))
theorem m9{ox:Obj}{od:Option Obj}(G:k4 K C)(b:PySem.W.hasDictIn K C=true)(o:findIn K (.ref C) "__class__"=some (some (.builtin "object.__class__")))
  (p:PySem.W.specialIn K (.builtin "object.__class__") "__get__"=some (some (.builtin "getset_descriptor.__get__"))) (c:PySem.W.takesIn K (.builtin "object.__class__")=some true) (r:mroIn K C (.type "object")=some true) :
  PySem.W.KitX K (.ref x) (.ref C) (λh=>InstAt h x ox C od) where
 ty:=λ_ _ _ I=>I.type
 it:=λ_ _ X _=>by
  obtain⟨f,a,_⟩:=PySem.W.any_some b;unfold PySem.W.clsIn at a;split at a
  .rename_i u w i j l
   intro B D E F k q;unfold isType loadHead;exact wpAny_bind (wpAny_loadPart (k _ _ (X _ _ l)) (wpAny_pure q))
  .cases a
 ne:=λh y H A n J X m=>by
  obtain⟨f,a,_⟩:=PySem.W.any_some b;refine Bool.eq_false_iff.mpr λq=>?_
  have e:C=y:=Value.ref.inj (beq_iff_eq.mp q);subst e;unfold PySem.W.clsIn at a;split at a
  .rename_i u w i j l
   have z:=(X _ _ l).symm.trans m;cases z
  .cases a
 ca:=λ{_ _ _ _ _ s} X I k=>by
  obtain⟨h,g,d,t,L⟩:=s;exact k6 X I G b o p c r k
end
section
variable{X:Cx}{pins:List (Addr×Obj)}{σ:St}{H:Hp}{s:Shared}{e C N fI:Addr}{fs:List (Str×V)}
theorem rP.inst(a:rP H e C fs)(I:Inv X pins σ H s):∃ox od,PySem.W.InstAt s.heap e ox C od:=by
 obtain⟨od,t,u,c,b⟩:=a;have g:=(I.hok e _ c).1;rcases b with ⟨rfl,_⟩|⟨d,i,rfl,b⟩
 .exact⟨_,none,g,rfl,rfl,trivial⟩
 .obtain⟨_,j,f,_⟩:=I.hok d _ b
  obtain⟨od,h,_⟩:=c9 f;exact⟨_,some od,g,rfl,rfl,h⟩
theorem rQ{Q:Value->Shared->Prop}{E:Value->Shared->Prop}{A:Around}{v:V}{b:Bool}{c:Str}(I:Inv X pins σ H s)(a:rP H e C fs)(T:ez X.K C N fI)(k:bN X.K C c)(f:fs.lookup c=some v)
  (h:∀u,RelV v u->Inv X pins σ H {s with toks:=s.toks+1}->Q u {s with toks:=s.toks+1}):wpAny (model X.prog X.w) A (getAttr (.ref e) c b) Q E s:=by
 obtain⟨i,t,u,m,d⟩:=a;have g:=(I.hok e _ m).1;rcases d with ⟨rfl,rfl⟩|⟨p,D,rfl,d⟩
 .cases f
 .obtain⟨_,q,n,r⟩:=I.hok p _ d
  obtain⟨u,x,j⟩:=eM.some_of (v:=v) (o:=q c) (by rw[←f];exact r c)
  obtain⟨i,y,l⟩:=c9 n;have J:InstAt s.heap e _ C (some i):=⟨g,rfl,rfl,y⟩;have z:=h u j (I.tok _);have B:=I.dB;obtain⟨F,G,L,M,O⟩:=s;exact l4 B J T.xg (PySem.W.findObj_own T.hd k (by rfl) (by rw[l,x])) (fq j) z
noncomputable def Bj(c:TE)(κ:Addr->Bool->Prop):TE:=λd H Q=>c d H λv a=>∃e C f b,v=.ref e/\rP a e C f/\κ C b/\Q (.bl b) a
theorem vB{x:Expr}{a:Str}{p r pos:Pos}{j:Value}{k:TE}{κ:Addr->Bool->Prop}(o:PE X x k)(q:Gl X "isinstance")(t:X.mg "isinstance"=none)(d:ja X (a,r) j)
  (f:∀C b,κ C b->(∃N l,ez X.K C N l)/\zL X.K C/\PySem.W.kitOne X.K (.ref C) j=some b) (m:starEach [x,.Name a r] X.env=(false,eval x X.env)::starEach [.Name a r] X.env) :
  PE X (.Call (.Name "isinstance" p) [x,.Name a r] [] pos) (Bj k κ):=by
 intro pins s n H Q I h;refine wpAny_Call_Name_kw (eu I q t boot_isinstance ?_ (by decide) (by decide))
 refine PyProof.Rows.callWith_builtin1 ?_ m rfl;rw[m];refine Calls.spliced_cons (bz (o pins s n H _ I h) λu y ⟨w,H1,J1,A,e,C,fs,b,hw,ha,hk,hq⟩=>?_)
 subst hw;cases (show u=Value.ref e from A)
 obtain⟨⟨N,l,T⟩,c,g⟩:=f C b hk;refine Calls.spliced_cons (d _ pins y n H1 _ J1 (Calls.spliced_nil ?_));obtain⟨ox,od,i⟩:=ha.inst J1;exact PySem.W.kia_one (m9 (ox:=ox) (od:=od) T.xg T.hd c.ha c.hn c.ht c.hm) J1.dB i g (λz=>nomatch z) λB=>⟨.bl b,H1,J1.tok B,rfl,hq⟩
end
end L2
namespace Mir
open PySem L2
structure Bk where
 name:Str
 qual:Str
 params:Arguments
 body:List Stmt
 scope:Scope
 ps:List Str
 cn:List Str
class aA where
 tab:Nat->Bk
 ta:Nat->Addr
inductive Cell where
 |lst (ds:List D)
 |dK (kvs:List (Key×D))
 |dT (kvs:List (List Key×D))
 |ins (C:Str) (fs:List (Str×D))
 |fn (j:Nat) (jb:List D)
 |tb (j:Nat) (p:Pos) (b:Bool)
 |xc (C:Str) (fs:List (Str×D))
abbrev av:=List Cell
inductive ak (α:Type) where
 |ok (a:α) (Ω:av)
 |exc (x:D) (Ω:av)
 |bad
noncomputable def ak.bind{b c:Type}:ak b->(b->av->ak c)->ak c
 |.ok a Ω,f=>f a Ω
 |.exc x Ω,_=>.exc x Ω
 |.bad,_=>.bad
abbrev aF:=List (Option D)
inductive aE {α β:Type} (R:α->β->Prop):List α->List β->Prop where
 |nil:aE R [] []
 |cons {a b as bs}:R a b->aE R as bs->aE R (a::as) (b::bs)
namespace aE
variable{α β:Type}{R S:α->β->Prop}
theorem length:∀{a:List α}{bs:List β},aE R a bs->bs.length=a.length
 |_,_,.nil=>rfl
 |_,_,.cons _ t=>by rw[List.length_cons,List.length_cons,length t]
theorem imp(h:∀a b,R a b->S a b):∀{c:List α}{bs:List β},aE R c bs->aE S c bs
 |_,_,.nil=>.nil
 |_,_,.cons r t=>.cons (h _ _ r) (imp h t)
theorem get:∀{c:List α}{bs:List β}{i:Nat}{a:α},aE R c bs->c[i]?=some a->∃b,bs[i]?=some b/\R a b
 |_,_,_,_,.nil,e=>by simp at e
 |_,_,0,_,.cons r _,e=>by simp at e;subst e;exact⟨_,rfl,r⟩
 |_,_,i+1,a,.cons _ t,e=>by
  obtain⟨u,h1,h2⟩:=get (i:=i) (a:=a) t (by simpa using e)
  exact⟨u,by simpa using h1,h2⟩
theorem x9:∀{c:List α}{bs:List β}{i:Nat}{b:β},aE R c bs->bs[i]?=some b->∃a,c[i]?=some a/\R a b
 |_,_,_,_,.nil,e=>by simp at e
 |_,_,0,_,.cons r _,e=>by simp at e;subst e;exact⟨_,rfl,r⟩
 |_,_,i+1,a,.cons _ t,e=>by
  obtain⟨u,h1,h2⟩:=x9 (i:=i) (b:=a) t (by simpa using e)
  exact⟨u,by simpa using h1,h2⟩
theorem append:∀{a b:List α}{bs ds:List β},aE R a bs->aE R b ds->aE R (a++b) (bs++ds)
 |_,_,_,_,.nil,h=>h
 |_,_,_,_,.cons r t,h=>.cons r (append t h)
theorem one{a:α}{b:β}(h:R a b):aE R [a] [b]:=.cons h .nil
theorem take:∀{a:List α}{bs:List β} (n:Nat),aE R a bs->aE R (a.take n) (bs.take n)
 |_,_,0,_=>by simp;exact .nil
 |_,_,n+1,.nil=>by simp;exact .nil
 |_,_,n+1,.cons r t=>.cons r (take n t)
theorem drop:∀{a:List α}{bs:List β} (n:Nat),aE R a bs->aE R (a.drop n) (bs.drop n)
 |_,_,0,h=>h
 |_,_,n+1,.nil=>by simp;exact .nil
 |_,_,n+1,.cons r t=>drop n t
theorem eraseIdx:∀{a:List α}{bs:List β} (n:Nat),aE R a bs->aE R (a.eraseIdx n) (bs.eraseIdx n)
 |_,_,n,.nil=>by simp;exact .nil
 |_,_,0,.cons _ t=>t
 |_,_,n+1,.cons r t=>.cons r (eraseIdx n t)
theorem set{a:α}{b:β}(r:R a b):∀{c:List α}{bs:List β} (n:Nat),aE R c bs->aE R (c.set n a) (bs.set n b)
 |_,_,_,.nil=>.nil
 |_,_,0,.cons _ t=>.cons r t
 |_,_,n+1,.cons q t=>.cons q (set r n t)
theorem nil_inv{bs:List β}(h:aE R [] bs):bs=[]:=by cases h;rfl
theorem cons_inv{a:α}{c:List α}{bs:List β}(h:aE R (a::c) bs):∃b r,bs=b::r/\R a b/\aE R c r:=by
 cases h with
 |cons r t=>exact⟨_,_,rfl,r,t⟩
end aE
mutual
noncomputable def aj(c:List Addr)(Z:Addr->Prop)(H:Hp):D->V->Prop
 |.non,v=>v=.non
 |.bl b,v=>v=.bl b
 |.int i,v=>v=.int i
 |.str x,v=>v=.str x
 |.lst ds,v=>∃a vs,v=.ref a/\Z a/\Rd H a (.lst vs)/\cz c Z H ds vs
 |.tup ds,v=>∃a vs,v=.ref a/\Z a/\H a=some (.tup vs)/\cz c Z H ds vs
 |.dct _ _,_=>False
 |.ref n,v=>∃a,c[n]?=some a/\v=.ref a
noncomputable def cz(a:List Addr)(Z:Addr->Prop)(H:Hp):List D->List V->Prop
 |[],vs=>vs=[]
 |d::ds,vs=>∃v r,vs=v::r/\aj a Z H d v/\cz a Z H ds r
end
theorem aJ{a:List Addr}{Z:Addr->Prop}{H:Hp}:∀{ds:List D}{vs:List V},cz a Z H ds vs↔aE (aj a Z H) ds vs
 |[],vs=>by
  simp only[cz];exact⟨λh=>by subst h;exact .nil,λh=>h.nil_inv⟩
 |d::ds,vs=>by
  simp only[cz];constructor
  .rintro⟨v,r,rfl,h1,h2⟩
   exact .cons h1 (aJ.mp h2)
  .intro h
   obtain⟨v,r,rfl,h1,h2⟩:=h.cons_inv;exact⟨v,r,rfl,h1,aJ.mpr h2⟩
section
variable{α α':List Addr}{Z Z':Addr->Prop}{H H':Hp}
mutual
theorem aj.mono(p:∀(n:Nat) (a:Addr),α[n]?=some a->α'[n]?=some a)(k:∀a o,Z a->H a=some o->H' a=some o)(z:∀a,Z a->Z' a):∀{d:D}{v:V},aj α Z H d v->aj α' Z' H' d v
 |.non,_,h=>by simpa only [aj]using h
 |.bl _,_,h=>by simpa only [aj]using h
 |.int _,_,h=>by simpa only [aj]using h
 |.str _,_,h=>by simpa only [aj]using h
 |.lst ds,v,h=>by
  simp only[aj]at h ⊢;obtain⟨a,vs,e,b,c,f⟩:=h;exact⟨a,vs,e,z a b,i4 (λo=>k a o b) c,cz.mono p k z f⟩
 |.tup ds,v,h=>by
  simp only[aj]at h ⊢;obtain⟨a,vs,e,b,c,f⟩:=h;exact⟨a,vs,e,z a b,k a _ b c,cz.mono p k z f⟩
 |.dct g ds,v,h=>by simp only[aj]at h
 |.ref n,v,h=>by
  simp only[aj]at h ⊢;obtain⟨a,e,h⟩:=h;exact⟨a,p n a e,h⟩
theorem cz.mono(p:∀(n:Nat) (a:Addr),α[n]?=some a->α'[n]?=some a)(k:∀a o,Z a->H a=some o->H' a=some o)(z:∀a,Z a->Z' a):∀{ds:List D}{vs:List V},cz α Z H ds vs->cz α' Z' H' ds vs
 |[],_,h=>by simpa only [cz]using h
 |d::ds,vs,h=>by
  simp only[cz]at h ⊢;obtain⟨v,r,e,h1,h2⟩:=h;exact⟨v,r,e,aj.mono p k z h1,cz.mono p k z h2⟩
end
end
def jc{K:Type}(R:D->V->Prop)(b:List (K×D))(a:List (K×V)):Prop:=aE (λp q=>p.1=q.1/\R p.2 q.2) b a
variable [aA]
def di(κ:Str->Addr->Prop)(R:D->V->Prop)(H:Hp)(a:Addr):Cell->Prop
 |.lst ds=>∃vs,H a=some (.lst vs)/\aE R ds vs
 |.dK kvs=>∃b,H a=some (.dK b)/\jc R kvs b
 |.dT kvs=>∃b,H a=some (.dT b)/\jc R kvs b
 |.ins C fs=>∃d e c,κ C d/\H a=some (.ins d e c)/\jc R fs c
 |.xc C fs=>∃d c,κ C d/\rP H a d c/\jc R fs c
 |_=>False
theorem jc.imp{K:Type}{R S:D->V->Prop}(h:∀d v,R d v->S d v){e:List (K×D)}{c:List (K×V)}(k:jc R e c):jc S e c:=aE.imp (λa b q=>⟨q.1,h _ _ q.2⟩) k
theorem di.imp{κ:Str->Addr->Prop}{R S:D->V->Prop}{H l:Hp}{a:Addr}{c:Cell}(h:∀d v,R d v->S d v)(e:∀o,H a=some o->l a=some o)(z:∀b o u,H b=some (.eK o u)->l b=some (.eK o u))(k:di κ R H a c):di κ S l a c:=by
 cases c with
 |lst F=>obtain⟨i,g,f⟩:=k;exact⟨i,e _ g,f.imp h⟩
 |dK m=>obtain⟨i,g,f⟩:=k;exact⟨i,e _ g,f.imp h⟩
 |dT m=>obtain⟨i,g,f⟩:=k;exact⟨i,e _ g,f.imp h⟩
 |ins C s=>obtain⟨n,w,i,q,g,f⟩:=k;exact⟨n,w,i,q,e _ g,f.imp h⟩
 |fn j jb=>exact k.elim
 |tb j p b=>exact k.elim
 |xc C s=>
  obtain⟨n,r,q,⟨x,t,u,g,f⟩,y⟩:=k;refine⟨n,r,q,⟨x,t,u,z _ _ _ g,?_⟩,y.imp h⟩;rcases f with f|⟨A,B,f,E⟩
  .exact .inl f
  .exact .inr ⟨A,B,f,z _ _ _ E⟩
theorem di.some{κ:Str->Addr->Prop}{R:D->V->Prop}{H:Hp}{a:Addr}{c:Cell}(k:di κ R H a c):H a≠none:=by
 cases c with
 |lst n=>obtain⟨e,d,f⟩:=k;rw[d];simp
 |dK g=>obtain⟨e,d,f⟩:=k;rw[d];simp
 |dT g=>obtain⟨e,d,f⟩:=k;rw[d];simp
 |ins C h=>obtain⟨i,o,e,l,d,f⟩:=k;rw[d];simp
 |fn j jb=>exact k.elim
 |tb j p b=>exact k.elim
 |xc C h=>obtain⟨i,m,l,⟨q,t,u,d,_⟩,_⟩:=k;rw[d];simp
structure aX(κ:Str->Addr->Prop)(α:List Addr)(Z:Addr->Prop)(Ω:av)(H:Hp):Prop where
 ku:α.Nodup
 nQ:aE (λc a=>di κ (aj α Z H) H a c) Ω α
 sep:∀a∈α,¬ Z a
 dom:∀a,Z a->H a≠none
structure bq(α:List Addr)(Z:Addr->Prop)(H:Hp)(α':List Addr)(Z':Addr->Prop)(H':Hp):Prop where
 pre:∀(n:Nat) (a:Addr),α[n]?=some a->α'[n]?=some a
 sub:∀a,Z a->Z' a
 new:∀a,Z' a->Z a\/H a=none
 qE:∀a∈α',a∈α\/H a=none
 frm:∀a o,H a=some o->a∉α->H' a=some o
 has:∀a∈α,H' a≠none
section
variable{κ:Str->Addr->Prop}{α α' x_:List Addr}{Z Z' Cu:Addr->Prop}{Ω az:av}{H H' Cv:Hp}
theorem bq.refl(h:∀a∈α,H a≠none):bq α Z H α Z H:=⟨λ_ _ e=>e,λ_ h=>h,λ_ h=>.inl h,λ_ h=>.inl h,λ_ _ e _=>e,h⟩
theorem aX.has(S:aX κ α Z Ω H):∀a∈α,H a≠none:=λa b=>by
 obtain⟨n,d⟩:=List.mem_iff_getElem?.mp b;obtain⟨c,_,h⟩:=S.nQ.x9 d;exact h.some
theorem bq.none(g:bq α Z H α' Z' H'){a:Addr}(h:H' a=none):H a=none:=by
 cases q:H a with
 |none=>rfl
 |some o=>
  by_cases b:a∈α
  .exact absurd h (g.has a b)
  .rw[g.frm a o q b]at h;cases h
theorem bq.trans(g:bq α Z H α' Z' H')(g':bq α' Z' H' x_ Cu Cv):bq α Z H x_ Cu Cv where
 pre:=λn a e=>g'.pre n a (g.pre n a e)
 sub:=λa h=>g'.sub a (g.sub a h)
 new:=λa h=>by
  rcases g'.new a h with h|h
  .exact g.new a h
  .exact .inr (g.none h)
 qE:=λa h=>by
  rcases g'.qE a h with h|h
  .exact g.qE a h
  .exact .inr (g.none h)
 frm:=λa o e b=>g'.frm a o (g.frm a o e b) λh=>by
  rcases g.qE a h with h|h
  .exact b h
  .rw[e]at h;cases h
 has:=λa b=>by
  obtain⟨n,c⟩:=List.mem_iff_getElem?.mp b;exact g'.has a (List.mem_of_getElem? (g.pre n a c))
theorem aX.bW(S:aX κ α Z Ω H)(g:bq α Z H α' Z' H'){d:D}{v:V}(h:aj α Z H d v):aj α' Z' H' d v:=
 h.mono g.pre (λa o z e=>g.frm a o e λb=>S.sep a b z) g.sub
theorem aX.gI(S:aX κ α Z Ω H)(g:bq α Z H α' Z' H'){ds:List D}{vs:List V}(h:aE (aj α Z H) ds vs):aE (aj α' Z' H') ds vs:=h.imp λ_ _ q=>S.bW g q
theorem aX.cell(S:aX κ α Z Ω H){n:Nat}{c:Cell}(e:Ω[n]?=some c):∃a,α[n]?=some a/\di κ (aj α Z H) H a c:=S.nQ.get e
theorem aX.len(S:aX κ α Z Ω H):α.length=Ω.length:=S.nQ.length
theorem aX.o8(S:aX κ α Z Ω H){p:Addr}{o:HO}(h:H p=none)(z:Prop)[Decidable z]:aX κ α (if z then Zp Z p else Z) Ω (upd H p o)/\bq α Z H α (if z then Zp Z p else Z) (upd H p o):=by
 have j:∀a∈α,a≠p:=λa f e=>S.has a f (e▸h)
 have k:∀a,Z a->a≠p:=λa i e=>S.dom a i (e▸h)
 have l:∀a,Z a->(if z then Zp Z p else Z) a:=λa f=>by
  split
  .exact .inl f
  .exact f
 have g:bq α Z H α (if z then Zp Z p else Z) (upd H p o):=⟨λ_ _ e=>e,l,λa f=>by
   split at f
   .rcases f with f|rfl
    .exact .inl f
    .exact .inr h
   .exact .inl f,λ_ f=>.inl f,λa u e _=>by rw[ao (aL e h)];exact e,λa f=>by rw[ao (j a f)];exact S.has a f⟩
 refine⟨⟨S.ku,?_,λa f i=>?_,λa f=>?_⟩,g⟩
 .refine S.nQ.imp λc a m=>?_
  refine m.imp (λd v r=>S.bW g r) (λu e=>?_) λb n q e=>?_
  .rw[ao (aL e h)];exact e
  .rw[ao (aL e h)];exact e
 .split at i
  .rcases i with i|rfl
   .exact S.sep a f i
   .exact j _ f rfl
  .exact S.sep a f i
 .split at f
  .rcases f with f|rfl
   .rw[ao (k a f)];exact S.dom a f
   .rw[aI];simp
  .rw[ao (k a f)];exact S.dom a f
theorem aX.laid(S:aX κ α Z Ω H){p:Addr}{o:HO}{c:Cell}(h:H p=none)(k:∀R:D->V->Prop,(∀d v,aj α Z H d v->R d v)->di κ R (upd H p o) p c):aX κ (α++[p]) Z (Ω++[c]) (upd H p o)/\bq α Z H (α++[p]) Z (upd H p o):=by
 have f:∀a∈α,a≠p:=λa ha e=>S.has a ha (e▸h)
 have i:∀a,Z a->a≠p:=λa j e=>S.dom a j (e▸h)
 have g:bq α Z H (α++[p]) Z (upd H p o):=⟨λn a e=>by rw[List.getElem?_append_left (List.getElem?_eq_some_iff.mp e).1];exact e,λ_ h=>h,λ_ h=>.inl h,λa ha=>by
   rcases List.mem_append.mp ha with ha|ha
   .exact .inl ha
   .rw[List.mem_singleton.mp ha];exact .inr h,λa u e _=>by rw[ao (aL e h)];exact e,λa ha=>by rw[ao (f a ha)];exact S.has a ha⟩
 refine⟨⟨?_,?_,λa ha j=>?_,λa ha=>by rw[ao (i a ha)];exact S.dom a ha⟩,g⟩
 .refine List.nodup_append.mpr ⟨S.ku,by simp,λa ha b l=>?_⟩
  rw[List.mem_singleton.mp l];exact f a ha
 .refine aE.append (S.nQ.imp λc a k=>?_) (.one (k _ λd v r=>S.bW g r))
  refine k.imp (λd v r=>S.bW g r) (λu e=>?_) λb m q e=>?_
  .rw[ao (aL e h)];exact e
  .rw[ao (aL e h)];exact e
 .rcases List.mem_append.mp ha with ha|ha
  .exact S.sep a ha j
  .rw[List.mem_singleton.mp ha]at j;exact i _ j rfl
theorem aX.put(S:aX κ α Z Ω H){n:Nat}{p:Addr}{o:HO}{c:Cell}(C:α[n]?=some p)(E:∀o u,H p≠some (.eK o u))(I:∀R:D->V->Prop,(∀d v,aj α Z H d v->R d v)->di κ R (upd H p o) p c):aX κ α Z (Ω.set n c) (upd H p o)/\bq α Z H α Z (upd H p o):=by
 have m:p∈α:=List.mem_of_getElem? C
 have g:bq α Z H α Z (upd H p o):=⟨λn a e=>e,λ_ h=>h,λ_ h=>.inl h,λa k=>.inl k,λa u e k=>by rw[ao (λ(q:a=p)=>k (by rw[q];exact m))];exact e,λa k=>by
   by_cases q:a=p
   .subst q;rw[aI];simp
   .rw[ao q];exact S.has a k⟩
 refine⟨⟨S.ku,?_,S.sep,λa k=>?_⟩,g⟩
 .have s:∀{j:List Cell}{f:List Addr}{n:Nat},f.Nodup->aE (λc a=>di κ (aj α Z H) H a c) j f->f[n]?=some p->aE (λc a=>di κ (aj α Z (upd H p o)) (upd H p o) a c) (j.set n c) f:=by
   intro j f n w x
   induction x generalizing n with
   |nil=>intro e;simp at e
   |@cons K y j f r t z=>
    intro e;have i:=List.nodup_cons.mp w;cases n with
    |zero=>
     simp at e;subst e;refine .cons (I _ λd v r=>S.bW g r) (aE.imp (λ_ _ q=>q) ?_)
     have:∀{j:List Cell}{f:List Addr},y∉f->aE (λc a=>di κ (aj α Z H) H a c) j f->aE (λc a=>di κ (aj α Z (upd H y o)) (upd H y o) a c) j f:=by
      intro j f l x
      induction x with
      |nil=>exact .nil
      |@cons c1 L j f r t z=>
       refine .cons (r.imp (λd v q=>S.bW g q) (λu e=>?_) λb A B e=>?_) (z λq=>l (List.mem_cons_of_mem _ q))
       .rw[ao (λq=>l (by rw[q];simp))];exact e
       .rw[ao (λq=>E A B (by rw[←q];exact e))];exact e
     exact this i.1 t
    |succ n=>
     have F:f[n]?=some p:=by simpa using e
     refine .cons (r.imp (λd v q=>S.bW g q) (λu J=>?_) λb A B G=>?_) (z i.2 F)
     .rw[ao (λq=>i.1 (by rw[q];exact List.mem_of_getElem? F))];exact J
     .rw[ao (λq=>E A B (by rw[←q];exact G))];exact G
  exact s S.ku S.nQ C
 .by_cases q:a=p
  .subst q;rw[aI];simp
  .rw[ao q];exact S.dom a k
end
end Mir
namespace Mir
open PySem PySem.Spec PyProof.Rows L2
variable [aA]
abbrev dA:=D->av->List Addr->(Addr->Prop)->Hp->Prop
def ba(κ:Str->Addr->Prop)(Φ:dA)(f:List Addr)(Z:Addr->Prop)(H:Hp)(r:ak D)(Q:VK):Prop:=match r with
 |.ok d b=>∀v c a e,bq f Z H a e c->aX κ a e b c->aj a e c d v->Q v c
 |.exc x b=>∀c a e,bq f Z H a e c->aX κ a e b c->Φ x b a e c
 |.bad=>False
structure bG(κ:Str->Addr->Prop)(eB:List Addr)(Z0:Addr->Prop)(H0:Hp)(α:List Addr)(Z:Addr->Prop)(Ω:av)(ρ:aF)(σ:L2.St)(H:Hp):Prop where
 st:aX κ α Z Ω H
 gr:bq eB Z0 H0 α Z H
 len:σ.length=ρ.length
 val:∀(i:Nat) (d:D),ρ[i]?=some (some d)->∃v,σ[i]?=some (some v)/\aj α Z H d v
abbrev EM:=aF->av->ak D
noncomputable def tO(κ:Str->Addr->Prop)(Φ:dA)(a:List Addr)(c:Addr->Prop)(d:Hp)(m:EM)(ρ:aF)(Ω:av):TE:=λe H Q=>
 ∃b Z,bG κ a c d b Z Ω ρ e H/\ba κ Φ b Z H (m ρ Ω) Q
def aQ(X:Cx)(κ:Str->Addr->Prop)(Φ:dA)(e:Expr)(m:EM):Prop:=∀a b c d f,PE X e (tO κ Φ a b c m d f)
section
variable{κ:Str->Addr->Prop}{Φ:dA}{α α' eB α1:List Addr}{Z Z' Z0 Z1:Addr->Prop}{Ω az:av}{H H' H0 H1:Hp}{ρ:aF}{σ:L2.St}{Q Q':VK}{r:ak D}
theorem ba.from(g:bq α Z H α1 Z1 H1)(h:ba κ Φ α Z H r Q):ba κ Φ α1 Z1 H1 r Q:=by
 cases r with
 |ok d b=>exact λv c a e f=>h v c a e (g.trans f)
 |exc x b=>exact λc a e f=>h c a e (g.trans f)
 |bad=>exact h
theorem ba.use{f:D->av->ak D}(h:ba κ Φ α Z H (r.bind f) Q)(k:∀d a,r=.ok d a->∀v c b e,bq α Z H b e c->aX κ b e a c->aj b e c d v->ba κ Φ b e c (f d a) Q->Q' v c):ba κ Φ α Z H r Q':=by
 cases r with
 |ok d a=>exact λv c b e g s q=>k d a rfl v c b e g s q (ba.from g h)
 |exc x a=>exact h
 |bad=>exact h
theorem ba.ret{d:D}{v:V}(S:aX κ α Z Ω H)(q:aj α Z H d v)(h:ba κ Φ α Z H (.ok d Ω) Q):Q v H:=h v H α Z (bq.refl S.has) S q
theorem bG.grow(S:bG κ eB Z0 H0 α Z Ω ρ σ H)(g:bq α Z H α' Z' H')(s:aX κ α' Z' az H'):bG κ eB Z0 H0 α' Z' az ρ σ H':=
 ⟨s,S.gr.trans g,S.len,λi d e=>let ⟨v,a,b⟩:=S.val i d e;⟨v,a,S.st.bW g b⟩⟩
theorem aM{d:D}{v:V}(h:df d=some v):aj α Z H d v:=by
 cases d<;>simp only[df]at h<;>first|cases h;simp only[aj]|cases h
theorem l5{d:D}(h:de d=true):∃v,df d=some v:=by
 cases d<;>first|exact⟨_,rfl⟩|cases h
theorem bY{d:D}{v w:V}(h:df d=some w)(r:Rep Z H d v):v=w:=by
 cases d<;>simp only[df]at h<;>first | (cases h;simpa only [Rep]using r)|cases h
noncomputable def aT{a b:Type}(f:a->Option b):List a->Option (List b)
 |[]=>some []
 |x::xs=>match f x,aT f xs with
  |some y,some ys=>some (y::ys)
  |_,_=>none
def cT(Ω:av):Nat->D->Option D
 |_,.non=>some .non
 |_,.bl b=>some (.bl b)
 |_,.int i=>some (.int i)
 |_,.str x=>some (.str x)
 |0,_=>none
 |n+1,.lst ds=>(aT (cT Ω n) ds).map .lst
 |n+1,.tup ds=>(aT (cT Ω n) ds).map .tup
 |n+1,.ref k=>match Ω[k]? with
  |some (.lst ds)=>(aT (cT Ω n) ds).map .lst
  |_=>none
 |_+1,.dct _ _=>none
def l6(b:List Addr)(Z:Addr->Prop):Addr->Prop:=λa=>Z a\/a∈b
theorem cO{f:D->Option D}{R:D->V->Prop}{S:D->V->Prop}(a:∀d d' v,f d=some d'->R d v->S d' v):∀{ds es:List D}{vs:List V},aT f ds=some es->aE R ds vs->aE S es vs
 |[],es,vs,h,r=>by cases h;rw[r.nil_inv];exact .nil
 |d::ds,es,vs,h,r=>by
  simp only[aT]at h;split at h
  .rename_i y ys h1 h2
   cases h;obtain⟨v,b,rfl,c,e⟩:=r.cons_inv;exact .cons (a d y v h1 c) (cO a h2 e)
  .cases h
theorem dO:∀{ds:List D}{vs:List V},aE (Rep Z H) ds vs->aG Z H ds vs
 |_,_,.nil=>.nil
 |_,_,.cons r t=>.cons r (dO t)
theorem fX(S:aX κ α Z Ω H):∀(n:Nat) {d d':D}{v:V},cT Ω n d=some d'->aj α Z H d v->Rep (l6 α Z) H d' v:=by
 intro n
 induction n with
 |zero=>
  intro d d' v h r;cases d<;>simp only[cT]at h<;>first | (cases h;simpa only [Rep,aj]using r)|cases h
 |succ n g=>
  intro d d' v h r;cases d with
  |lst l=>
   simp only[cT]at h;obtain⟨m,b,rfl⟩:=Option.map_eq_some_iff.mp h;simp only[aj]at r;obtain⟨a,c,rfl,i,j,e⟩:=r;simp only[Rep];exact⟨a,c,rfl,.inl i,j,dO (cO (S:=Rep (l6 α Z) H) (λd d' v q r=>g q r) b (aJ.mp e))⟩
  |tup l=>
   simp only[cT]at h;obtain⟨m,b,rfl⟩:=Option.map_eq_some_iff.mp h;simp only[aj]at r;obtain⟨a,c,rfl,i,j,e⟩:=r;simp only[Rep];exact⟨a,c,rfl,.inl i,.inl j,dO (cO (S:=Rep (l6 α Z) H) (λd d' v q r=>g q r) b (aJ.mp e))⟩
  |ref k=>
   simp only[cT]at h;split at h
   .rename_i l p
    obtain⟨m,b,rfl⟩:=Option.map_eq_some_iff.mp h;obtain⟨a,o,c,s,e⟩:=S.cell p;simp only[aj]at r;obtain⟨t,f,rfl⟩:=r;rw[o]at f;cases f;simp only[Rep];exact⟨a,c,rfl,.inr (List.mem_of_getElem? o),.inl s,dO (cO (S:=Rep (l6 α Z) H) (λd d' v q r=>g q r) b e)⟩
   .cases h
  |dct _ _=>cases h
  |_=>simp only[cT]at h;cases h;simpa only [Rep,aj]using r
theorem cH(S:aX κ α Z Ω H):∀a,l6 α Z a->H a≠none:=λa h=>h.elim (S.dom a) (S.has a)
theorem aX.same(S:aX κ α Z Ω H)(h:hQ H H'):aX κ α Z Ω H'/\bq α Z H α Z H':=by
 have g:bq α Z H α Z H':=⟨λ_ _ e=>e,λ_ z=>z,λ_ z=>.inl z,λ_ z=>.inl z,λa o e _=>h a o e,λa f=>by
  cases q:H a with
  |none=>exact absurd q (S.has a f)
  |some o=>rw[h a o q];simp⟩
 refine⟨⟨S.ku,S.nQ.imp λc a i=>i.imp (λd v r=>S.bW g r) (λo e=>h a o e) λb o u e=>h b _ e,S.sep,λa z=>?_⟩,g⟩
 cases q:H a with
 |none=>exact absurd q (S.dom a z)
 |some o=>rw[h a o q];simp
theorem aX.adopt(S:aX κ α Z Ω H)(h:hQ H H'){p:Addr}(i:H p=none){c:Cell}(j:∀R:D->V->Prop,(∀d v,aj α Z H' d v->R d v)->di κ R H' p c):aX κ (α++[p]) Z (Ω++[c]) H'/\bq α Z H (α++[p]) Z H':=by
 obtain⟨m,o⟩:=S.same h;have k:∀a∈α,a≠p:=λa ha e=>S.has a ha (e▸i)
 have l:∀a,Z a->a≠p:=λa f e=>S.dom a f (e▸i)
 have g:∀(n:Nat) (a:Addr),α[n]?=some a->(α++[p])[n]?=some a:=λn a e=>by rw[List.getElem?_append_left (List.getElem?_eq_some_iff.mp e).1];exact e
 have mono:∀d v,aj α Z H' d v->aj (α++[p]) Z H' d v:=λd v r=>r.mono g (λ_ _ _ e=>e) λ_ z=>z
 refine⟨⟨?_,?_,λa ha f=>?_,m.dom⟩,⟨g,λ_ z=>z,λ_ z=>.inl z,λa ha=>?_,o.frm,o.has⟩⟩
 .refine List.nodup_append.mpr ⟨S.ku,by simp,λa ha b q=>?_⟩
  rw[List.mem_singleton.mp q];exact k a ha
 .exact aE.append (m.nQ.imp λc a j=>j.imp mono (λ_ e=>e) λ_ _ _ e=>e) (.one (j _ mono))
 .rcases List.mem_append.mp ha with ha|ha
  .exact S.sep a ha f
  .rw[List.mem_singleton.mp ha]at f;exact l _ f rfl
 .rcases List.mem_append.mp ha with ha|ha
  .exact .inl ha
  .rw[List.mem_singleton.mp ha];exact .inr i
noncomputable def jZ(Ω:av)(c:Cell):ak D:=.ok (.ref Ω.length) (Ω++[c])
def du(Ω:av):Out Rs->ak D
 |.ok (own,d)=>if de d then .ok d Ω else match own,d with
  |true,.lst ds=>if ds.all de then jZ Ω (.lst ds)else .bad
  |_,_=>.bad
 |_=>.bad
theorem eY(S:aX κ α Z Ω H)(p:Addr):aj (α++[p]) Z H' (.ref Ω.length) (.ref p):=by
 simp only[aj];exact⟨p,by rw[←S.len];simp,rfl⟩
theorem iC:∀{ds:List D}{vs:List V},ds.all de=true->aG Z1 H1 ds vs->aE (aj α Z H) ds vs
 |[],vs,_,r=>by rw[r.nil_inv];exact .nil
 |d::ds,vs,h,r=>by
  obtain⟨v,b,rfl,c,e⟩:=r.cons_inv;simp only[List.all_cons,Bool.and_eq_true]at h;obtain⟨w,a⟩:=l5 h.1;obtain rfl:=bY a c;exact .cons (aM a) (iC h.2 e)
theorem eZ{bw:Bool}{r:Out Rs}(S:aX κ α Z Ω H)(h:ba κ Φ α Z H (du Ω r) Q):∃e d,r=.ok (e,d)/\∀v b m f,cK m H f b->cx bw e f H b d v->Q v b:=by
 cases r with
 |ok q=>
  obtain⟨e,d⟩:=q;refine⟨e,d,rfl,λv b m f g q=>?_⟩
  simp only[du]at h;split at h
  .rename_i o
   obtain⟨w,i⟩:=l5 o
   have p:v=w:=by
    have n:=q.nw;cases d with
    |non=>exact bY (Z:=f) (H:=b) i n
    |bl _=>exact bY (Z:=f) (H:=b) i n
    |int _=>exact bY (Z:=f) (H:=b) i n
    |str _=>exact bY (Z:=f) (H:=b) i n
    |_=>cases o
   subst p;obtain⟨j,k⟩:=S.same g.same;exact h v b α Z k j (aM i)
  .split at h
   .rename_i s t
    split at h
    .rename_i l
     unfold cx at q;rw[if_pos rfl]at q;obtain⟨a,u,x,y,rfl,z,C,A,B⟩:=q;cases y;obtain⟨j,k⟩:=S.adopt (c:=.lst s) g.same z (λR hR=>⟨u,A,(iC l B).imp hR⟩)
     exact h _ b _ Z k j (eY S a)
    .exact h.elim
   .exact h.elim
 |exc c D=>exact h.elim
 |bad=>exact h.elim
end
def m1(f:D->av->ak D)(a:EM):EM:=λb c=>(a b c).bind f
def m2(f:D->D->av->ak D)(d e:EM):EM:=λc g=>(d c g).bind λx a=>(e c a).bind λy b=>f x y b
noncomputable def hF(a b:ak D):ak D:=match a with
 |.bad=>b
 |r=>r
def vC(f g:D->av->ak D):D->av->ak D:=λx a=>hF (f x a) (g x a)
def dj(f g:D->D->av->ak D):D->D->av->ak D:=λx y a=>hF (f x y a) (g x y a)
def jd(f g:EM):EM:=λa b=>hF (f a b) (g a b)
def m_(f:D->Out Rs):D->av->ak D:=λx a=>match cT a 8 x with
 |some b=>du a (f b)
 |none=>.bad
def dE(f:D->D->Out Rs):D->D->av->ak D:=λx y a=>match cT a 8 x,cT a 8 y with
 |some b,some c=>du a (f b c)
 |_,_=>.bad
def e6(Ω:av):D->Option Bool
 |.ref k=>match Ω[k]? with
  |some (.lst ds)=>some (!ds.isEmpty)
  |some (.dK kvs)=>some (!kvs.isEmpty)
  |_=>none
 |d=>jO d
def cP:ak D->ak Bool
 |.ok d Ω=>match e6 Ω d with
  |some b=>.ok b Ω
  |none=>.bad
 |.exc x Ω=>.exc x Ω
 |.bad=>.bad
def jD(κ:Str->Addr->Prop)(Φ:dA)(f:List Addr)(Z:Addr->Prop)(H:Hp)(r:ak Bool)(Q:Bool->Hp->Prop):Prop:=match r with
 |.ok b c=>∀d a e,bq f Z H a e d->aX κ a e c d->Q b d
 |.exc x c=>∀d a e,bq f Z H a e d->aX κ a e c d->Φ x c a e d
 |.bad=>False
def Bl(κ:Str->Addr->Prop)(Φ:dA)(a:List Addr)(c:Addr->Prop)(d:Hp)(m:EM)(ρ:aF)(Ω:av):TT:=λe H Q=>∃b Z,bG κ a c d b Z Ω ρ e H/\jD κ Φ b Z H (cP (m ρ Ω)) Q
def ee(X:Cx)(κ:Str->Addr->Prop)(Φ:dA)(e:Expr)(m:EM):Prop:=∀a b c d f,PT X e (Bl κ Φ a b c m d f)
abbrev AM:=aF->av->ak (List D)
def j3(κ:Str->Addr->Prop)(Φ:dA)(e:List Addr)(Z:Addr->Prop)(H:Hp)(r:ak (List D))(Q:List V->Hp->Prop):Prop:=match r with
 |.ok g b=>∀f c a d,bq e Z H a d c->aX κ a d b c->aE (aj a d c) g f->Q f c
 |.exc x b=>∀c a d,bq e Z H a d c->aX κ a d b c->Φ x b a d c
 |.bad=>False
noncomputable def DE(κ:Str->Addr->Prop)(Φ:dA)(a:List Addr)(c:Addr->Prop)(d:Hp)(m:AM)(ρ:aF)(Ω:av):TA:=λe H Q=>∃b Z,bG κ a c d b Z Ω ρ e H/\j3 κ Φ b Z H (m ρ Ω) Q
def k7(X:Cx)(κ:Str->Addr->Prop)(Φ:dA)(es:List Expr)(m:AM):Prop:=∀a b c d e,PA X es (DE κ Φ a b c m d e)
noncomputable def ag:AM:=λ_ a=>.ok [] a
def aa(a:EM)(e:AM):AM:=λd f=>(a d f).bind λx b=>(e d b).bind λg c=>.ok (x::g) c
def mN(f:List D->av->ak D)(a:AM):EM:=λb c=>(a b c).bind f
section
variable{X:Cx}{κ:Str->Addr->Prop}{Φ:dA}{α α' eB α1:List Addr}{Z Z' Z0 Z1:Addr->Prop}{Ω az:av}{H H' H0 H1:Hp}{ρ:aF}{σ:L2.St}{Q Q':VK}{r:ak D}{a b e:Expr}{es:List Expr}{ma mb mc m:EM}{as:AM}{pos:Pos}
theorem j3.from{r:ak (List D)}{Q:List V->Hp->Prop}(g:bq α Z H α1 Z1 H1)(h:j3 κ Φ α Z H r Q):j3 κ Φ α1 Z1 H1 r Q:=by
 cases r with
 |ok d b=>exact λv c a e f=>h v c a e (g.trans f)
 |exc x b=>exact λc a e f=>h c a e (g.trans f)
 |bad=>exact h
theorem jD.from{r:ak Bool}{Q:Bool->Hp->Prop}(g:bq α Z H α1 Z1 H1)(h:jD κ Φ α Z H r Q):jD κ Φ α1 Z1 H1 r Q:=by
 cases r with
 |ok d b=>exact λc a e f=>h c a e (g.trans f)
 |exc x b=>exact λc a e f=>h c a e (g.trans f)
 |bad=>exact h
theorem j3.use{r:ak (List D)}{f:List D->av->ak D}{Q':List V->Hp->Prop}(h:ba κ Φ α Z H (r.bind f) Q)(k:∀ds a,r=.ok ds a->∀vs c b e,bq α Z H b e c->aX κ b e a c->aE (aj b e c) ds vs->ba κ Φ b e c (f ds a) Q->Q' vs c):j3 κ Φ α Z H r Q':=by
 cases r with
 |ok d a=>exact λv c b e g s q=>k d a rfl v c b e g s q (ba.from g h)
 |exc x a=>exact h
 |bad=>exact h
theorem PE.or{t u:TE}(h:PE X e t)(h':PE X e u):PE X e (λa H Q=>t a H Q\/u a H Q):=λpins s a H Q I q=>q.elim (h pins s a H Q I) (h' pins s a H Q I)
theorem PT.or{t u:TT}(h:PT X e t)(h':PT X e u):PT X e (λa H Q=>t a H Q\/u a H Q):=λpins s a H Q I q=>q.elim (h pins s a H Q I) (h' pins s a H Q I)
theorem iD{a b:ak D}:hF a b=a\/(a=.bad/\hF a b=b):=by cases a<;>simp[hF]
theorem aQ.alt(h:aQ X κ Φ e ma)(h':aQ X κ Φ e mb):aQ X κ Φ e (jd ma mb):=by
 intro c i j d f;refine PE.imp (PE.or (h c i j d f) (h' c i j d f)) ?_;rintro l H Q ⟨k,Z,S,g⟩;rcases iD (a:=ma d f) (b:=mb d f)with q|⟨_,q⟩
 .exact .inl ⟨k,Z,S,by rw[←q];exact g⟩
 .exact .inr ⟨k,Z,S,by rw[←q];exact g⟩
theorem ee.alt(h:ee X κ Φ e ma)(h':ee X κ Φ e mb):ee X κ Φ e (jd ma mb):=by
 intro c i j d f;refine PT.imp (PT.or (h c i j d f) (h' c i j d f)) ?_;rintro l H Q ⟨k,Z,S,g⟩;rcases iD (a:=ma d f) (b:=mb d f)with q|⟨_,q⟩
 .exact .inl ⟨k,Z,S,by rw[←q];exact g⟩
 .exact .inr ⟨k,Z,S,by rw[←q];exact g⟩
theorem dP{f g:D->D->av->ak D}:m2 (dj f g) ma mb=jd (m2 f ma mb) (m2 g ma mb):=by
 funext c a
 simp only[m2,jd];cases ma c a with
 |ok x b=>
  simp only[ak.bind];cases mb c b with
  |ok y d=>rfl
  |exc x a=>rfl
  |bad=>rfl
 |exc x a=>rfl
 |bad=>rfl
theorem vD{f g:D->av->ak D}:m1 (vC f g) ma=jd (m1 f ma) (m1 g ma):=by
 funext b a
 simp only[m1,jd];cases ma b a with
 |ok x c=>rfl
 |exc x a=>rfl
 |bad=>rfl
theorem ef{f:D->av->ak D}{r:V->Hp->VK->Prop}(h:∀l,PE X a l->PE X e λm H Q=>l m H λx c=>r x c Q)(o:aQ X κ Φ a ma)
  (p:∀n x b Z Ω H Q,aX κ b Z Ω H->aj b Z H n x->ba κ Φ b Z H (f n Ω) Q->r x H Q):aQ X κ Φ e (m1 f ma):=by
 intro i q s t Ω;refine PE.imp (h _ (o i q s t Ω)) ?_;rintro m H Q ⟨b,Z,S,g⟩;refine⟨b,Z,S,g.use λd j _ v c k u A w y z=>?_⟩
 exact p d v k u j c Q w y z
theorem bZ{f:D->D->av->ak D}{r:R2}(h:∀u tb,PE X a u->PE X b tb->PE X e (wM r u tb))(n:aQ X κ Φ a ma)(o:aQ X κ Φ b mb)
  (G:∀z A x y i Z Ω H Q,aX κ i Z Ω H->aj i Z H z x->aj i Z H A y->ba κ Φ i Z H (f z A Ω) Q->r x y H Q):aQ X κ Φ e (m2 f ma mb):=by
 intro c k l j Ω;rcases q:ma j Ω with ⟨d,m⟩|⟨x,m⟩|_
 .refine PE.imp (h _ _ (n c k l j Ω) (o c k l j m)) ?_
  rintro B H Q ⟨i,Z,S,g⟩;refine⟨i,Z,S,ba.use g λU C E v V p I J F K L=>?_⟩
  rw[q]at E;cases E;refine⟨p,I,S.grow J F,L.use λd2 s _ w M t N O P R T=>?_⟩
  exact G d d2 v w t N s M Q P (F.bW O K) R T
 .refine PE.imp (h _ _ (n c k l j Ω) (o c k l j Ω)) ?_
  rintro B H Q ⟨i,Z,S,g⟩;refine⟨i,Z,S,?_⟩;simp only[m2,q,ak.bind]at g ⊢;exact g
 .refine PE.imp (h _ _ (n c k l j Ω) (o c k l j Ω)) ?_
  rintro B H Q ⟨i,Z,S,g⟩;simp only[m2,q,ak.bind]at g;exact g.elim
theorem j4{bw:Bool}{f:D->Out Rs}{i:D}{x:V}(S:aX κ α Z Ω H)(j:aj α Z H i x)(h:ba κ Φ α Z H (m_ f i Ω) Q) :
  ∃d a d',Now (l6 α Z) H d x/\f d=.ok (a,d')/\∀v b c,cK (l6 α Z) H c b->cx bw a c H b d' v->Q v b:=by
 unfold m_ at h;split at h
 .rename_i d l
  obtain⟨a,d',e,k⟩:=eZ (bw:=bw) S h;exact⟨d,a,d',(fX S 8 l j).now,e,λv b c g q=>k v b _ c g q⟩
 .exact h.elim
theorem e7{bw:Bool}{f:D->D->Out Rs}{i j:D}{x y:V}(S:aX κ α Z Ω H)(l:aj α Z H i x)(m:aj α Z H j y)(h:ba κ Φ α Z H (dE f i j Ω) Q) :
  ∃d e a d',Now (l6 α Z) H d x/\Now (l6 α Z) H e y/\f d e=.ok (a,d')/\∀v b c,cK (l6 α Z) H c b->cx bw a c H b d' v->Q v b:=by
 unfold dE at h;split at h
 .rename_i d e n o
  obtain⟨a,d',p,k⟩:=eZ (bw:=bw) S h;exact⟨d,e,a,d',(fX S 8 n l).now,(fX S 8 o m).now,p,λv b c g q=>k v b _ c g q⟩
 .exact h.elim
theorem rR{i:Nat}{x:Str}(c:X.N[i]?=some x)(e:qC X.env.scope x)(a:(x==("__debug__":Str))=false)(b:(x==("__classdict__":Str))=false):aQ X κ Φ (.Name x pos) (λρ Ω=>match ρ[i]? with|some (some d)=>.ok d Ω|_=>.bad):=by
 intro f k l ρ Ω;refine PE.imp (gg c e a b) ?_;rintro m H Q ⟨n,Z,S,g⟩;dsimp only at g;split at g
 .rename_i d a
  obtain⟨v,h,j⟩:=S.val i d a;exact⟨v,h,ba.ret S.st j g⟩
 .exact g.elim
theorem e8{d:D}{v:V}(h:PE X e (tC v))(a:df d=some v):aQ X κ Φ e (λ_ Ω=>.ok d Ω):=by
 intro b c f i Ω;refine PE.imp h ?_;rintro j H Q ⟨k,Z,S,g⟩;exact ba.ret S.st (aM a) g
noncomputable def ck(Ω:av):D->Option (List D)
 |.ref k=>match Ω[k]? with
  |some (.lst ds)=>some ds
  |_=>none
 |.lst ds=>some ds
 |_=>none
theorem bb{x:D}{v:V}{ds:List D}(S:aX κ α Z Ω H)(r:aj α Z H x v)(h:ck Ω x=some ds):∃a vs,v=.ref a/\Rd H a (.lst vs)/\aE (aj α Z H) ds vs:=by
 cases x with
 |ref k=>
  simp only[ck]at h;split at h
  .rename_i e f
   cases h;simp only[aj]at r;obtain⟨a,g,rfl⟩:=r;obtain⟨i,b,vs,c,d⟩:=S.cell f;rw[g]at b;cases b;exact⟨a,vs,rfl,.inl c,d⟩
  .cases h
 |lst j=>
  cases h;simp only[aj]at r;obtain⟨a,vs,rfl,_,c,d⟩:=r;exact⟨a,vs,rfl,c,aJ.mp d⟩
 |_=>cases h
theorem dv{x:V}{ds:List D}(r:aj α Z H (.tup ds) x):∃a vs,x=.ref a/\Z a/\H a=some (.tup vs)/\aE (aj α Z H) ds vs:=by
 simp only[aj]at r;obtain⟨a,vs,e,b,c,d⟩:=r;exact⟨a,vs,e,b,c,aJ.mp d⟩
theorem e9{ds:List D}{vs:List V}(S:aX κ α Z Ω H)(r:aE (aj α Z H) ds vs)(k:ba κ Φ α Z H (jZ Ω (.lst ds)) Q):∀p,H p=none->Q (.ref p) (upd H p (.lst vs)):=λp a=>by
 obtain⟨b,d⟩:=S.laid (p:=p) (o:=.lst vs) (c:=.lst ds) a λR hR=>⟨vs,aI,r.imp hR⟩
 exact k _ _ _ Z d b (eY S p)
theorem e_{ds:List D}{vs:List V}(S:aX κ α Z Ω H)(r:aE (aj α Z H) ds vs)(k:ba κ Φ α Z H (.ok (.tup ds) Ω) Q):∀p,H p=none->Q (.ref p) (upd H p (.tup vs)):=λp c=>by
 obtain⟨b,a⟩:=S.o8 (p:=p) (o:=.tup vs) c True;simp only[if_true]at b a;refine k _ _ _ _ a b ?_;simp only[aj];exact⟨p,vs,rfl,.inr rfl,aI,aJ.mpr (S.gI a r)⟩
theorem l7:k7 X κ Φ [] ag:=by
 intro a c d e f;refine PA.imp iT ?_;rintro h H Q ⟨b,Z,S,g⟩;exact g [] H b Z (bq.refl S.st.has) S.st .nil
theorem j5(k:aQ X κ Φ e ma)(l:k7 X κ Φ es as)(m:starEach (e::es) X.env=(false,eval e X.env)::starEach es X.env):k7 X κ Φ (e::es) (aa ma as):=by
 intro a f h b i;rcases q:ma b i with ⟨d,c⟩|⟨x,c⟩|_
 .refine PA.imp (cX (k a f h b i) (l a f h b c) m) ?_
  rintro r H Q ⟨j,Z,S,g⟩;refine⟨j,Z,S,?_⟩;simp only[aa,q,ak.bind]at g ⊢;intro v C n w s t y;refine⟨n,w,S.grow s t,?_⟩;have g:=j3.from s g
  rcases o:as b c with ⟨D,p⟩|⟨x,p⟩|_
  .rw[o]at g
   intro E F z G u A B;exact g _ _ _ _ u A (.cons (t.bW u y) B)
  .rw[o]at g;exact g
  .rw[o]at g;exact g
 .refine PA.imp (cX (k a f h b i) (l a f h b i) m) ?_
  rintro r H Q ⟨j,Z,S,g⟩;refine⟨j,Z,S,?_⟩;simp only[aa,q,ak.bind]at g ⊢;exact g
 .refine PA.imp (cX (k a f h b i) (l a f h b i) m) ?_
  rintro r H Q ⟨j,Z,S,g⟩;simp only[aa,q,ak.bind]at g;exact g.elim
def aU(ds:List D)(Ω:av):ak D:=if small ds.length then jZ Ω (.lst ds)else .bad
def bt(ds:List D)(Ω:av):ak D:=if small ds.length then .ok (.tup ds) Ω else .bad
theorem rS(h:k7 X κ Φ es as):aQ X κ Φ (.List es pos) (mN aU as):=by
 intro b d e f i;refine PE.imp (vi (h b d e f i)) ?_;rintro o H Q ⟨j,Z,S,g⟩;refine⟨j,Z,S,j3.use g λp k _ q r l s t m c a=>?_⟩
 unfold aU at a;split at a
 .rename_i n
  exact⟨by rw[c.length];exact bg n,e9 m c a⟩
 .exact a.elim
theorem rT{x1}(h:k7 X κ Φ es as):aQ X κ Φ (.Tuple es x1 pos) (mN bt as):=by
 intro b d e f i;refine PE.imp (vh (h b d e f i)) ?_;rintro o H Q ⟨j,Z,S,g⟩;refine⟨j,Z,S,j3.use g λp k _ q r l s t m c a=>?_⟩
 unfold bt at a;split at a
 .rename_i n
  exact⟨by rw[c.length];exact bg n,e_ m c a⟩
 .exact a.elim
def k9(x y:D)(Ω:av):ak D:=match ck Ω x,ck Ω y with
 |some a,some b=>if small (a.length+b.length)then jZ Ω (.lst (a++b))else .bad
 |_,_=>.bad
def je(x y:D)(Ω:av):ak D:=match x,y with
 |.tup a,.tup b=>if small (a.length+b.length)then .ok (.tup (a++b)) Ω else .bad
 |_,_=>.bad
def aw(op:Operator):D->D->av->ak D:=match op with
 |.Add=>dj k9 (dj je (dE (da .Add)))
 |op=>dE (da op)
theorem rV{op:Operator}(u:aQ X κ Φ a ma)(w:aQ X κ Φ b mb):aQ X κ Φ (.BinOp a op b pos) (m2 (aw op) ma mb):=by
 have E:aQ X κ Φ (.BinOp a op b pos) (m2 (dE (da op)) ma mb):=bZ (r:=rk op) (λD tb m o=>nY (ou op) m o) u w λF G x y I Z J H Q S c f g=>by
  obtain⟨d,e,P,d',R,T,p,k⟩:=e7 (bw:=false) S c f g;exact vo (bw:=false) R T (cH S) p k
 have C:op=.Add->aQ X κ Φ (.BinOp a op b pos) (m2 k9 ma mb):=λe=>by
  subst e;refine bZ (r:=rk .Add) (λD tb m o=>nY (ou .Add) m o) u w λF G x y I Z J H Q S c f g=>?_
  unfold k9 at g;split at g
  .rename_i L M U V
   obtain⟨l,q,rfl,s,h⟩:=bb S c U;obtain⟨n,t,rfl,Y,N⟩:=bb S f V;split at g
   .rename_i z
    exact .inr (.inr ⟨l,n,q,t,rfl,rfl,s,Y,by rw[h.length,N.length];exact bg z,e9 S (h.append N) g⟩)
   .exact g.elim
  .exact g.elim
 have C2:op=.Add->aQ X κ Φ (.BinOp a op b pos) (m2 je ma mb):=λe=>by
  subst e;refine bZ (r:=λx y H Q=>um X.K x y H Q\/uv X.K x y H Q) (λD tb m o=>nY (q7.or rH) m o) u w λF G x y I Z J H Q S c f g=>?_
  unfold je at g;split at g
  .rename_i L M
   simp only[aj]at c f;obtain⟨A,q,rfl,z1,s,i⟩:=c;obtain⟨B,t,rfl,z2,h,j⟩:=f;have i:=aJ.mp i;have j:=aJ.mp j;split at g
   .rename_i z
    by_cases O:q=[]
    .subst O
     have p:L=[]:=by have:=i.length;simp at this;exact List.length_eq_zero_iff.mp this.symm
     subst p;refine .inr ⟨A,B,t,rfl,rfl,dC.of s,dC.of h,ba.ret S ?_ g⟩;simp only[aj,List.nil_append];exact⟨B,t,rfl,z2,h,aJ.mpr j⟩
    .refine .inl ⟨A,B,q,t,rfl,rfl,dC.of s,dC.of h,O,by rw[i.length,j.length];exact bg z,λhy=>?_,λ_=>e_ S (i.append j) g⟩
     subst hy;have p:M=[]:=by have:=j.length;simp at this;exact List.length_eq_zero_iff.mp this.symm
     subst p;refine ba.ret S ?_ g;simp only[aj,List.append_nil];exact⟨A,q,rfl,z1,s,aJ.mpr i⟩
   .exact g.elim
  .exact g.elim
 cases op with
 |Add=>show aQ X κ Φ _ (m2 (dj k9 (dj je (dE (da .Add)))) ma mb);rw[dP,dP];exact(C rfl).alt ((C2 rfl).alt E)
 |_=>exact E
def o9:D->av->ak D:=m_ λx=>match x with|.int i=>.ok (false,.int (-i))|_=>.bad
theorem rW(c:aQ X κ Φ a ma):aQ X κ Φ (.UnaryOp .USub a pos) (m1 o9 ma):=
 ef (r:=rU λi=>.int (-i)) (λl e=>xk vd e) c λm x n Z o H Q S f g=>by
  obtain⟨d,h,p,j,b,k⟩:=j4 (bw:=false) S f g;split at b
  .cases aN j
   cases b;exact⟨_,rfl,k _ H _ (cK.refl (cH S)) (.rep (dg rfl))⟩
  .cases b
end
section
variable{κ:Type}[DecidableEq κ]{R:D->V->Prop}
theorem jc.length{b:List (κ×D)}{a:List (κ×V)}(h:jc R b a):a.length=b.length:=aE.length h
end
section
variable{X:Cx}{κ:Str->Addr->Prop}{Φ:dA}{α α' eB α1:List Addr}{Z Z' Z0 Z1:Addr->Prop}{Ω az:av}{H H' H0 H1:Hp}{ρ:aF}{σ:L2.St}{Q Q':VK}{r:ak D}{a b e:Expr}{es:List Expr}{ma mb mc m:EM}{as:AM}{pos:Pos}
noncomputable def vE(Ω:av)(x y:D):Option (Option D):=none
def bH(op:CmpOp):D->D->av->ak D:=dE λx y=>do let r ←dc op x y;Out.ok (false,D.bl r)
def eD(neg:Bool)(y x:D)(Ω:av):ak D:=match vE Ω x y with
 |some o=>.ok (.bl (if neg then !o.isSome else o.isSome)) Ω
 |none=>.bad
noncomputable def c8(neg:Bool)(x y:D)(Ω:av):ak D:=match x,y with
 |.ref _,.non=>.ok (.bl neg) Ω
 |_,_=>.bad
def ax(op:CmpOp):D->D->av->ak D:=match op with
 |.In=>dj (bH .In) (eD false)
 |.NotIn=>dj (bH .NotIn) (eD true)
 |.Is=>dj (c8 false) (bH .Is)
 |.IsNot=>dj (c8 true) (bH .IsNot)
 |op=>bH op
theorem fc{f:D->D->av->ak D}{r:R2}(h:∀G tb,PE X a G->PE X b tb->PT X e (n5 (wM r G tb)))(p:aQ X κ Φ a ma)(s:aQ X κ Φ b mb)(z:∀x y Ω d az,f x y Ω=.ok d az->∃t,d=.bl t)
  (P:∀I J x y i Z Ω H Q,aX κ i Z Ω H->aj i Z H I x->aj i Z H J y->ba κ Φ i Z H (f I J Ω) Q->r x y H Q):ee X κ Φ e (m2 f ma mb):=by
 intro c m n j Ω;rcases q:ma j Ω with ⟨d,k⟩|⟨x,k⟩|_
 .refine PT.imp (h _ _ (p c m n j Ω) (s c m n j k)) ?_
  rintro K H Q ⟨i,Z,S,g⟩;refine⟨i,Z,S,?_⟩;simp only[m2,q,ak.bind]at g ⊢;intro v H1 A R L M T;refine⟨A,R,S.grow L M,?_⟩;have g:=jD.from L g
  rcases B:mb j k with ⟨d2,l⟩|⟨x,l⟩|_
  .rw[B]at g
   intro w U C V N Y r2;refine P d d2 v w C V l U _ Y (M.bW N T) r2 ?_;have g:=jD.from N g
   dsimp only[ak.bind]at g;rcases o:f d d2 l with ⟨d3,E⟩|⟨x,E⟩|_
   .rw[o]at g
    obtain⟨t,rfl⟩:=z _ _ _ _ _ o;intro u H3 F Z3 g3 s3 O;simp only[aj]at O;exact⟨t,O,g H3 F Z3 g3 s3⟩
   .rw[o]at g;exact g
   .rw[o]at g;exact g
  .rw[B]at g;exact g
  .rw[B]at g;exact g
 .refine PT.imp (h _ _ (p c m n j Ω) (s c m n j Ω)) ?_
  rintro K H Q ⟨i,Z,S,g⟩;refine⟨i,Z,S,?_⟩;simp only[m2,q,ak.bind,cP]at g ⊢;exact g
 .refine PT.imp (h _ _ (p c m n j Ω) (s c m n j Ω)) ?_
  rintro K H Q ⟨i,Z,S,g⟩;simp only[m2,q,ak.bind,cP]at g;exact g.elim
noncomputable def vF(neg:Bool):R2:=λ_ _ _ _=>False
theorem o_(a:X.A.units+1<cLine):dD X (compareOp .In) (vF false):=by
 intro pins s b H x y u v Q I c d h;exact(show False from h).elim
theorem iE(a:X.A.units+1<cLine):dD X (compareOp .NotIn) (vF true):=by
 intro pins s b H x y u v Q I c d h;exact(show False from h).elim
theorem jf{op:CmpOp}{a b:D}{x y:V}(S:aX κ α Z Ω H)(c:aj α Z H a x)(f:aj α Z H b y)(g:ba κ Φ α Z H (bH op a b Ω) Q):oz op x y H Q:=by
 obtain⟨d,e,h,m,i,j,l,k⟩:=e7 (bw:=false) S c f g;exact vp (bw:=false) i j (cH S) l k
theorem jg{neg:Bool}{a b:D}{x y:V}(S:aX κ α Z Ω H)(c:aj α Z H a x)(d:aj α Z H b y)(g:ba κ Φ α Z H (eD neg a b Ω) Q):vF neg x y H Q:=(show False from g).elim
theorem jh{neg:Bool}{op:CmpOp}(h:op=if neg then .IsNot else .Is){c e:D}{x y:V}(S:aX κ α Z Ω H)(f:aj α Z H c x)(b:aj α Z H e y)(g:ba κ Φ α Z H (c8 neg c e Ω) Q) :
  (if neg then (y=.non/\Q (.bl (!decide (x=.non))) H)else (y=.non/\Q (.bl (decide (x=.non))) H)):=by
 unfold c8 at g;split at g
 .simp only[aj]at f b
  obtain⟨a,_,rfl⟩:=f;have:=ba.ret S (aM (d:=.bl neg) rfl) g;cases neg
  .exact⟨b,this⟩
  .exact⟨b,this⟩
 .exact g.elim
theorem ji{op:CmpOp}:∀x y Ω d az,bH op x y Ω=.ok d az->∃t,d=.bl t:=λx y Ω d az h=>by
 unfold bH dE at h;split at h
 .rename_i a b _ _
  dsimp only at h;cases q:dc op a b with
  |ok t=>
   have e:(do let r ←dc op a b;Out.ok (false,D.bl r))=Out.ok (false,D.bl t):=by rw[q];rfl
   rw[e]at h;simp only[du,de,if_true]at h;cases h;exact⟨_,rfl⟩
  |exc c f=>
   have e:(do let r ←dc op a b;Out.ok (false,D.bl r))=Out.exc c f:=by rw[q];rfl
   rw[e]at h;cases h
  |bad=>
   have e:(do let r ←dc op a b;Out.ok (false,D.bl r))=Out.bad:=by rw[q];rfl
   rw[e]at h;cases h
 .cases h
theorem l9{neg:Bool}:∀x y Ω d az,eD neg x y Ω=.ok d az->∃t,d=.bl t:=λx y Ω d az h=>by
 unfold eD at h;split at h
 .cases h;exact⟨_,rfl⟩
 .cases h
theorem l_{neg:Bool}:∀x y Ω d az,c8 neg x y Ω=.ok d az->∃t,d=.bl t:=λx y Ω d az h=>by
 unfold c8 at h;split at h
 .cases h;exact⟨_,rfl⟩
 .cases h
theorem mf{op:CmpOp}(s:X.A.units+64<cLine)(h:behindInMarks op b=false)(i:aQ X κ Φ a ma)(j:aQ X κ Φ b mb):aQ X κ Φ (.Compare a [op] [b] pos) (m2 (ax op) ma mb)/\ee X κ Φ (.Compare a [op] [b] pos) (m2 (ax op) ma mb):=by
 have E:aQ X κ Φ (.Compare a [op] [b] pos) (m2 (bH op) ma mb):=bZ (λk tb c d=>eO (fu s op) c d h) i j λl m x y n Z o H Q S e f g=>jf S e f g
 have T:ee X κ Φ (.Compare a [op] [b] pos) (m2 (bH op) ma mb):=fc (λk tb c d=>eP (fu s op) c d h) i j ji λl m x y n Z o H Q S e f g=>jf S e f g
 have p:X.A.units+1<cLine:=by omega
 cases op with
 |In=>
  have q:aQ X κ Φ (.Compare a [.In] [b] pos) (m2 (eD false) ma mb):=bZ (λk tb c d=>eO (o_ p) c d h) i j λl m x y n Z o H Q S e f g=>jg S e f g
  have r:ee X κ Φ (.Compare a [.In] [b] pos) (m2 (eD false) ma mb):=fc (λk tb c d=>eP (o_ p) c d h) i j l9 λl m x y n Z o H Q S e f g=>jg S e f g
  show aQ X κ Φ _ (m2 (dj (bH .In) (eD false)) ma mb)/\ee X κ Φ _ (m2 (dj (bH .In) (eD false)) ma mb)
  rw[dP];exact⟨E.alt q,T.alt r⟩
 |NotIn=>
  have q:aQ X κ Φ (.Compare a [.NotIn] [b] pos) (m2 (eD true) ma mb):=bZ (λk tb c d=>eO (iE p) c d h) i j λl m x y n Z o H Q S e f g=>jg S e f g
  have r:ee X κ Φ (.Compare a [.NotIn] [b] pos) (m2 (eD true) ma mb):=fc (λk tb c d=>eP (iE p) c d h) i j l9 λl m x y n Z o H Q S e f g=>jg S e f g
  show aQ X κ Φ _ (m2 (dj (bH .NotIn) (eD true)) ma mb)/\ee X κ Φ _ (m2 (dj (bH .NotIn) (eD true)) ma mb)
  rw[dP];exact⟨E.alt q,T.alt r⟩
 |Is=>
  have q:aQ X κ Φ (.Compare a [.Is] [b] pos) (m2 (c8 false) ma mb):=bZ (λk tb c d=>eO n4 c d h) i j λl m x y n Z o H Q S e f g=>jh (neg:=false) (op:=.Is) rfl S e f g
  have r:ee X κ Φ (.Compare a [.Is] [b] pos) (m2 (c8 false) ma mb):=fc (λk tb c d=>eP n4 c d h) i j l_ λl m x y n Z o H Q S e f g=>jh (neg:=false) (op:=.Is) rfl S e f g
  show aQ X κ Φ _ (m2 (dj (c8 false) (bH .Is)) ma mb)/\ee X κ Φ _ (m2 (dj (c8 false) (bH .Is)) ma mb)
  rw[dP];exact⟨q.alt E,r.alt T⟩
 |IsNot=>
  have q:aQ X κ Φ (.Compare a [.IsNot] [b] pos) (m2 (c8 true) ma mb):=bZ (λk tb c d=>eO lE c d h) i j λl m x y n Z o H Q S e f g=>jh (neg:=true) (op:=.IsNot) rfl S e f g
  have r:ee X κ Φ (.Compare a [.IsNot] [b] pos) (m2 (c8 true) ma mb):=fc (λk tb c d=>eP lE c d h) i j l_ λl m x y n Z o H Q S e f g=>jh (neg:=true) (op:=.IsNot) rfl S e f g
  show aQ X κ Φ _ (m2 (dj (c8 true) (bH .IsNot)) ma mb)/\ee X κ Φ _ (m2 (dj (c8 true) (bH .IsNot)) ma mb)
  rw[dP];exact⟨q.alt E,r.alt T⟩
 |Eq=>exact⟨E,T⟩
 |NotEq=>exact⟨E,T⟩
 |Lt=>exact⟨E,T⟩
 |LtE=>exact⟨E,T⟩
 |Gt=>exact⟨E,T⟩
 |GtE=>exact⟨E,T⟩
def cU(Ω:av)(x:D):Option (List D):=match x with
 |.tup a=>some a
 |x=>ck Ω x
def rY(x y:D)(Ω:av):ak D:=match cU Ω x,y with
 |some a,.int i=>match L2.ft a i with
  |some d=>.ok d Ω
  |none=>.bad
 |_,_=>.bad
def ya(x y:D)(Ω:av):ak D:=match vE Ω x y with
 |some (some d)=>.ok d Ω
 |_=>.bad
def aV:D->D->av->ak D:=dj rY (dj ya (dE kN))
theorem gJ{x:D}{v:V}{ds:List D}{K:PySem.W.Frag}(S:aX κ α Z Ω H)(r:aj α Z H x v)(h:cU Ω x=some ds):∃a vs,v=.ref a/\(fU K H a vs\/dC K H a vs)/\aE (aj α Z H) ds vs:=by
 unfold cU at h;split at h
 .cases h
  obtain⟨a,vs,rfl,_,b,c⟩:=dv r;exact⟨a,vs,rfl,.inr (nP (.inl b)),c⟩
 .obtain⟨a,vs,rfl,b,c⟩:=bb S r h
  exact⟨a,vs,rfl,.inl (i5 b),c⟩
theorem rZ{ds:List D}{vs:List V}{R:D->V->Prop}{i:Int}{d:D}(r:aE R ds vs)(h:L2.ft ds i=some d):∃v,L2.ft vs i=some v/\R d v:=by
 unfold L2.ft at h ⊢;rw[r.length];cases q:L2.mV ds.length i with
 |none=>rw[q]at h;cases h
 |some n=>rw[q]at h;exact r.get h
theorem r9(L:X.A.units+1<cLine)(l:lM b)(m:aQ X κ Φ a ma)(n:aQ X κ Φ b mb):aQ X κ Φ (.Subscript a b pos) (m2 aV ma mb):=by
 unfold aV;rw[dP,dP];refine aQ.alt ?_ (aQ.alt ?_ ?_)
 .refine bZ (r:=xH X.K) (λo tb c f=>og kJ c f l) m n λq s x y t Z u H Q S j h g=>?_
  unfold rY at g;split at g
  .rename_i M i C
   obtain⟨p,w,rfl,h2,D⟩:=gJ (K:=X.K) S j C;simp only[aj]at h;subst h;split at g
   .rename_i d E
    obtain⟨v,z,B⟩:=rZ D E;rcases h2 with h2|h2
    .exact .inl ⟨p,w,i,v,rfl,rfl,h2,z,ba.ret S B g⟩
    .exact .inr (.inl ⟨p,w,i,v,rfl,rfl,h2,z,ba.ret S B g⟩)
   .exact g.elim
  .exact g.elim
 .exact bZ (r:=xH X.K) (λo tb c f=>og kJ c f l) m n λq s x y t Z u H Q S j h g=>(show False from g).elim
 .refine bZ (r:=xH X.K) (λo tb c f=>og kJ c f l) m n λq s x y t Z u H Q S j h g=>?_
  obtain⟨d,e,F,N,G,I,J,k⟩:=e7 (bw:=false) S j h g;exact vt (bw:=false) G I (cH S) J k
def dQ(n:Bool)(m:EM):aF->av->ak (Option Int):=λc b=>if n=true then .ok none b else (m c b).bind λd a=>match d with
 |.int i=>.ok (some i) a
 |_=>.bad
def hX(x:D)(a b:Option Int)(Ω:av):ak D:=match x,ck Ω x with
 |_,some c=>jZ Ω (.lst (cf c a b))
 |.str z,none=>du Ω (om (.str z) a b)
 |.tup c,none=>.ok (.tup (cf c a b)) Ω
 |_,_=>.bad
def dw(e:EM)(f:Bool)(g:EM)(i:Bool)(j:EM):EM:=λa k=>(e a k).bind λx b=>(dQ f g a b).bind λl c=>(dQ i j a c).bind λh d=>hX x l h d
def zM(X:Cx)(κ:Str->Addr->Prop)(Φ:dA)(o:Option Expr)(n:Bool)(m:EM):Prop:=(o=none/\n=true)\/∃e,o=some e/\n=false/\aQ X κ Φ e m
theorem cA{o:Option Expr}{n:Bool}(h:zM X κ Φ o n m)(g:List Addr)(r:Addr->Prop)(s:Hp)(ρ:aF)(Ω:av):∃t,PO X o t/\∀j H b Z Q,bG κ g r s b Z Ω ρ j H ->
  (match dQ n m ρ Ω with
   |.ok l ng=>∀c a f,bq b Z H a f c->aX κ a f ng c->Q l c
   |.exc x ng=>∀c a f,bq b Z H a f c->aX κ a f ng c->Φ x ng a f c
   |.bad=>False)->t j H Q:=by
 rcases h with ⟨rfl,rfl⟩|⟨e,rfl,rfl,w⟩
 .refine⟨lK,qX,λj H b Z Q S k=>?_⟩
  exact k H b Z (bq.refl S.st.has) S.st
 .refine⟨_,qY (w g r s ρ Ω),λj H b Z Q S k=>⟨b,Z,S,?_⟩⟩
  simp only[dQ,Bool.false_eq_true,if_false]at k;rcases q:m ρ Ω with ⟨d,ng⟩|⟨x,ng⟩|_
  .rw[q]at k
   intro v y p z A B u;cases d with
   |int i=>simp only[aj]at u;exact⟨i,u,k y p z A B⟩
   |_=>exact k.elim
  .rw[q]at k;exact k
  .rw[q]at k;exact k
theorem mj{ds:List D}{vs:List V}{R:D->V->Prop}(h:aE R ds vs)(a b:Option Int):aE R (cf ds a b) (jM vs a b):=by
 unfold cf jM;rw[h.length];exact(h.drop _).take _
theorem ni{ds:List D}{n:Nat}{l h:Option Int}(a:n=ds.length)(b:HT.bB n 0 l=0)(c:HT.bB n n h=n):cf ds l h=ds:=by
 subst a;unfold cf;rw[b,c,List.drop_zero,Nat.sub_zero,List.take_length]
def pb(K:PySem.W.Frag):V->Option Int->Option Int->Hp->VK->Prop:=λx a b H Q=>Dz K x a b H Q\/(xD K x a b H Q\/x8 K x a b H Q)
theorem r_{lo hi:Option Expr}{T U:Bool}{V Y:EM}{p2:Pos}(B:aQ X κ Φ a ma)(hl:zM X κ Φ lo T V)(C:zM X κ Φ hi U Y):aQ X κ Φ (.Subscript a (.Slice lo hi none p2) pos) (dw ma T V U Y):=by
 intro b e f c j;rcases q:ma c j with ⟨d,i⟩|⟨x,i⟩|_
 .obtain⟨tl,o,M⟩:=cA hl b e f c i
  rcases D:dQ T V c i with ⟨l,s⟩|⟨x,s⟩|_
  .obtain⟨N,m,E⟩:=cA C b e f c s
   refine PE.imp (dJ (r:=pb X.K) ((eT.or gz).or (gm.or eV)) (B b e f c j) o m) ?_;rintro t H Q ⟨u,Z,S,g⟩;refine⟨u,Z,S,?_⟩;simp only[dw,q,D,ak.bind]at g ⊢;intro v H1 w Z1 F O r1;have g:=ba.from F g
   have S1:=S.grow F O;refine M t H1 w Z1 _ S1 ?_;rw[D];intro H2 y Z2 G P;have g:=ba.from G g
   have S2:=S1.grow G P;refine E t H2 y Z2 _ S2 ?_;rcases q3:dQ U Y c s with ⟨h,a0⟩|⟨x,a0⟩|_
   .rw[q3]at g
    intro H3 b0 Z3 g3 A;have g:=ba.from g3 g
    have I:=P.bW g3 (O.bW G r1);dsimp only[ak.bind]at g;unfold hX at g;split at g
    .rename_i ds hd
     obtain⟨p,n,rfl,J,z⟩:=bb A I hd;exact .inl (.inl ⟨p,n,rfl,i5 J,e9 A (mj z l h) g⟩)
    ·
     simp only[aj]at I;subst I;obtain⟨d0,d,R,k⟩:=eZ (bw:=false) A g;simp only[om]at R;split at R
     .rename_i hs
      cases R;exact .inl (.inr ⟨_,rfl,bg hs,k _ H3 _ _ (cK.refl A.dom) (.rep (dg rfl))⟩)
     .cases R
    .simp only[aj]at I
     obtain⟨p,n,rfl,z1,J,z⟩:=I;have z:=aJ.mp z
     by_cases L:HT.bB n.length 0 l=0/\HT.bB n.length n.length h=n.length
     .refine .inr (.inr ⟨p,n,rfl,dC.of J,L.1,L.2,ba.ret A ?_ g⟩)
      rw[ni z.length L.1 L.2];simp only[aj];exact⟨p,n,rfl,z1,J,aJ.mpr z⟩
     .exact .inr (.inl ⟨p,n,rfl,dC.of J,L,e_ A (mj z l h) g⟩)
    .exact g.elim
   .rw[q3]at g;exact g
   .rw[q3]at g;exact g
  .obtain⟨N,m,E⟩:=cA C b e f c i
   refine PE.imp (dJ (r:=pb X.K) ((eT.or gz).or (gm.or eV)) (B b e f c j) o m) ?_;rintro t H Q ⟨u,Z,S,g⟩;refine⟨u,Z,S,?_⟩;simp only[dw,q,D,ak.bind]at g ⊢;intro v H1 w Z1 F O r1;refine M t H1 w Z1 _ (S.grow F O) ?_;rw[D];intro H2 y Z2 G P;exact g H2 y Z2 (F.trans G) P
  .obtain⟨N,m,E⟩:=cA C b e f c i
   refine PE.imp (dJ (r:=pb X.K) ((eT.or gz).or (gm.or eV)) (B b e f c j) o m) ?_;rintro t H Q ⟨u,Z,S,g⟩;simp only[dw,q,D,ak.bind]at g;exact g.elim
 .obtain⟨tl,o,M⟩:=cA hl b e f c j
  obtain⟨N,m,E⟩:=cA C b e f c j;refine PE.imp (dJ (r:=pb X.K) ((eT.or gz).or (gm.or eV)) (B b e f c j) o m) ?_;rintro t H Q ⟨u,Z,S,g⟩;refine⟨u,Z,S,?_⟩;simp only[dw,q,ak.bind]at g ⊢;exact g
 .obtain⟨tl,o,M⟩:=cA hl b e f c j
  obtain⟨N,m,E⟩:=cA C b e f c j;refine PE.imp (dJ (r:=pb X.K) ((eT.or gz).or (gm.or eV)) (B b e f c j) o m) ?_;rintro t H Q ⟨u,Z,S,g⟩;simp only[dw,q,ak.bind]at g;exact g.elim
end
theorem PE.ex{X:Cx}{e:Expr}{b:Type}{t:b->TE}(h:∀i,PE X e (t i)):PE X e (λa H Q=>∃i,t i a H Q):=λpins s a H Q I ⟨i,q⟩=>h i pins s a H Q I q
theorem PW.ex{X:Cx}{e:Expr}{b:Type}{t:b->TT}(h:∀i,PW X e (t i)):PW X e (λa H Q=>∃i,t i a H Q):=λc pins s a H Q I ⟨i,q⟩=>h i c pins s a H Q I q
theorem PA.ex{X:Cx}{es:List Expr}{c:Type}{t:c->TA}(h:∀i,PA X es (t i)):PA X es (λa H Q=>∃i,t i a H Q):=λb pins s a H Q I ⟨i,q⟩=>h i b pins s a H Q I q
def gK(c d:EM):EM:=λb e=>(c b e).bind λx a=>match e6 a x with
 |some true=>d b a
 |some false=>.ok x a
 |none=>.bad
def nj(c d:EM):EM:=λb e=>(c b e).bind λx a=>match e6 a x with
 |some false=>d b a
 |some true=>.ok x a
 |none=>.bad
def jj(b:EM):EM:=λc d=>(cP (b c d)).bind λt a=>.ok (.bl (!t)) a
def yb(mc c d:EM):EM:=λb e=>(cP (mc b e)).bind λt a=>if t=true then c b a else d b a
section
variable{X:Cx}{κ:Str->Addr->Prop}{Φ:dA}{α α' eB α1:List Addr}{Z Z' Z0 Z1:Addr->Prop}{Ω az:av}{H H' H0 H1:Hp}{ρ:aF}{σ:L2.St}{Q Q':VK}{r:ak D}{a b e ce:Expr}{rest:List Expr}{es:List Expr}{ma mb mc m:EM}{as:AM}{pos p:Pos}
theorem dR{d:D}{v:V}{t:Bool}{K:PySem.W.Frag}(S:aX κ α Z Ω H)(r:aj α Z H d v)(h:e6 Ω d=some t):jH K v H t:=by
 cases d with
 |non=>simp only[aj]at r;subst r;cases h;rfl
 |bl b=>simp only[aj]at r;subst r;cases h;rfl
 |int b=>simp only[aj]at r;subst r;cases h;rfl
 |str b=>
  simp only[aj]at r;subst r
  have n:Now Z H (.str b) (.str b):=by simp only[Now,Rep]
  exact vq n h
 |lst ds=>
  cases h;obtain⟨a,c,rfl,f,g⟩:=bb (ds:=ds) S r rfl;refine .inl ⟨c,i5 f,?_⟩;have:=g.length;cases ds<;>cases c<;>simp at this ⊢
 |tup ds=>
  cases h;obtain⟨a,c,rfl,_,f,g⟩:=dv r;refine .inr (.inl ⟨c,nP (.inl f),?_⟩);have:=g.length;cases ds<;>cases c<;>simp at this ⊢
 |dct _ _=>cases h
 |ref k=>
  simp only[e6]at h;split at h
  .rename_i ds j
   cases h;obtain⟨a,c,rfl,f,g⟩:=bb (ds:=ds) S r (by simp only[ck,j])
   refine .inl ⟨c,i5 f,?_⟩;have:=g.length;cases ds<;>cases c<;>simp at this ⊢
  .rename_i l j
   cases h;simp only[aj]at r;obtain⟨a,m,rfl⟩:=r;obtain⟨o,i,e,f,g⟩:=S.cell j;rw[m]at i;cases i
   refine .inr (.inr ⟨e,f,?_⟩);have:=g.length;cases l<;>cases e<;>simp at this ⊢
  .cases h
theorem jD.use{r:ak Bool}{f:Bool->av->ak D}{Q':Bool->Hp->Prop}(h:ba κ Φ α Z H (r.bind f) Q)(k:∀t a,r=.ok t a->∀c b e,bq α Z H b e c->aX κ b e a c->ba κ Φ b e c (f t a) Q->Q' t c):jD κ Φ α Z H r Q':=by
 cases r with
 |ok d a=>exact λc b e g s=>k d a rfl c b e g s (ba.from g h)
 |exc x a=>exact h
 |bad=>exact h
theorem jD.Cw{Q:Bool->Hp->Prop}{K:PySem.W.Frag}(h:jD κ Φ α Z H (cP r) Q):ba κ Φ α Z H r (λv a=>∃t,jH K v a t/\Q t a):=by
 cases r with
 |ok d b=>
  intro v a c e g s q;simp only[cP]at h;split at h
  .rename_i t f
   exact⟨t,dR s q f,h a c e g s⟩
  .exact h.elim
 |exc x b=>exact h
 |bad=>exact h.elim
theorem sd(h:aQ X κ Φ e m)(c:∀a,isTrue e X.env a=(do let v ←a;standAt e.pos;holding [v] (truthy v))):ee X κ Φ e m:=by
 intro b d f i j;refine PT.imp (n8 (h b d f i j) c) ?_;rintro l H Q ⟨k,Z,S,g⟩;exact⟨k,Z,S,g.Cw⟩
theorem sg(n:aQ X κ Φ a ma)(o:aQ X κ Φ (.BoolOp .And (b::rest) pos) mb):aQ X κ Φ (.BoolOp .And (a::b::rest) pos) (gK ma mb):=by
 intro d k l m p;refine PE.imp (rD (n d k l m p) (PE.ex λc=>o d k l m c)) ?_
 rintro t H Q ⟨q,Z,S,g⟩;refine⟨q,Z,S,ba.use g λx c _ v u h r s e i f=>?_⟩
 split at f
 .rename_i j
  exact⟨true,dR e i j,kM ⟨c,h,r,S.grow s e,f⟩⟩
 .rename_i j
  exact⟨false,dR e i j,kL (ba.ret e i f)⟩
 .exact f.elim
theorem vG(n:aQ X κ Φ a ma)(o:aQ X κ Φ (.BoolOp .Or (b::rest) pos) mb):aQ X κ Φ (.BoolOp .Or (a::b::rest) pos) (nj ma mb):=by
 intro d k l m p;refine PE.imp (vv (n d k l m p) (PE.ex λc=>o d k l m c)) ?_
 rintro t H Q ⟨q,Z,S,g⟩;refine⟨q,Z,S,ba.use g λx c _ v u h r s e i f=>?_⟩
 split at f
 .rename_i j
  exact⟨false,dR e i j,kL ⟨c,h,r,S.grow s e,f⟩⟩
 .rename_i j
  exact⟨true,dR e i j,kM (ba.ret e i f)⟩
 .exact f.elim
theorem nk{op:BoolOp}(c:aQ X κ Φ a ma):aQ X κ Φ (.BoolOp op [a] pos) ma:=λb d e f g=>uX (c b d e f g)
theorem sh(d:aQ X κ Φ a ma):aQ X κ Φ (.UnaryOp .Not a pos) (jj ma):=by
 intro b e f h i;refine PE.imp (rE (d b e f h i)) ?_;rintro o H Q ⟨j,Z,S,g⟩;refine⟨j,Z,S,?_⟩;have:=jD.use (Q':=λt c=>Q (.bl (!t)) c) g λt k _ c l p q m n=>ba.ret m (aM rfl) n
 exact this.Cw
theorem sj(h:ee X κ Φ a ma):ee X κ Φ (.UnaryOp .Not a pos) (jj ma):=by
 intro b i j e f;refine PT.imp (uW (h b i j e f)) ?_;rintro p H Q ⟨k,Z,S,g⟩;refine⟨k,Z,S,?_⟩;simp only[jj]at g;cases q:cP (ma e f)with
 |ok t c=>rw[q]at g;exact λl d m n o=>g l d m n o
 |exc x c=>rw[q]at g;exact g
 |bad=>rw[q]at g;exact g
def uz(X:Cx)(κ:Str->Addr->Prop)(Φ:dA)(e:Expr)(m:EM):Prop:=∀a b c d f,PW X e (Bl κ Φ a b c m d f)
theorem uz.pt(h:uz X κ Φ e m):ee X κ Φ e m:=λa b c d f=>(h a b c d f).pt
theorem sk{op:BoolOp}(c:ee X κ Φ a ma):uz X κ Φ (.BoolOp op [a] pos) ma:=λb d e f g=>by
 cases op with
 |And=>exact pw_and1 (c b d e f g)
 |Or=>exact pw_or1 (c b d e f g)
theorem sm(p:ee X κ Φ a ma)(r:uz X κ Φ (.BoolOp .And (b::rest) pos) mb):uz X κ Φ (.BoolOp .And (a::b::rest) pos) (gK ma mb):=by
 intro e l m i n;refine PW.imp (pw_and (p e l m i n) (PW.ex λc=>r e l m i c)) ?_
 rintro t H Q ⟨s,Z,S,g⟩;refine⟨s,Z,S,?_⟩;simp only[gK]at g;cases q:ma i n with
 |ok x c=>
  rw[q]at g;dsimp only[ak.bind]at g;simp only[cP];split at g
  .rename_i f
   rw[f];exact λo d j h k=>kM ⟨c,d,j,S.grow h k,jD.from h g⟩
  .rename_i f
   rw[f];simp only[cP,f]at g;exact λo d j h k=>kL (g o d j h k)
  .exact g.elim
 |exc x c=>rw[q]at g;exact g
 |bad=>rw[q]at g;exact g.elim
theorem vH(p:ee X κ Φ a ma)(r:uz X κ Φ (.BoolOp .Or (b::rest) pos) mb):uz X κ Φ (.BoolOp .Or (a::b::rest) pos) (nj ma mb):=by
 intro e l m i n;refine PW.imp (pw_or (p e l m i n) (PW.ex λc=>r e l m i c)) ?_
 rintro t H Q ⟨s,Z,S,g⟩;refine⟨s,Z,S,?_⟩;simp only[nj]at g;cases q:ma i n with
 |ok x c=>
  rw[q]at g;dsimp only[ak.bind]at g;simp only[cP];split at g
  .rename_i f
   rw[f];exact λo d j h k=>kL ⟨c,d,j,S.grow h k,jD.from h g⟩
  .rename_i f
   rw[f];simp only[cP,f]at g;exact λo d j h k=>kM (g o d j h k)
  .exact g.elim
 |exc x c=>rw[q]at g;exact g
 |bad=>rw[q]at g;exact g.elim
theorem sr(n:ee X κ Φ ce mc)(o:aQ X κ Φ a ma)(p:aQ X κ Φ b mb):aQ X κ Φ (.IfExp ce a b pos) (yb mc ma mb):=by
 intro d h i j q;refine PE.imp (nU (n d h i j q) (PE.ex λc=>o d h i j c) (PE.ex λc=>p d h i j c)) ?_
 rintro s H Q ⟨r,Z,S,g⟩;refine⟨r,Z,S,jD.use g λt c _ u e k l m f=>?_⟩
 cases t with
 |true=>rw[if_pos rfl]at f;exact kM ⟨c,e,k,S.grow l m,f⟩
 |false=>rw[if_neg Bool.false_ne_true]at f;exact kL ⟨c,e,k,S.grow l m,f⟩
theorem su(r:ee X κ Φ ce mc)(u:ee X κ Φ a ma)(w:ee X κ Φ b mb):ee X κ Φ (.IfExp ce a b pos) (yb mc ma mb):=by
 intro e j k f n pins s l H Q I;rintro⟨y,Z,S,g⟩;simp only[yb]at g
 have o:Bl κ Φ e j k mc f n l H (λt i=>∃c d h,bG κ e j k d h c f l i/\jD κ Φ d h i (cP (if t=true then ma f c else mb f c)) Q):=by
  refine⟨y,Z,S,?_⟩;cases q:cP (mc f n)with
  |ok t c=>
   rw[q]at g;exact λi d h p m=>⟨c,d,h,S.grow p m,jD.from p g⟩
  |exc x c=>rw[q]at g;exact g
  |bad=>rw[q]at g;exact g.elim
 refine isTrue_IfExp (bz (r e j k f n pins s l H _ I o) λv m ⟨i,I1,c,d,h,S1,k1⟩=>?_)
 cases v with
 |true=>rw[if_pos rfl]at k1;exact u e j k f c pins m l i Q I1 ⟨d,h,S1,k1⟩
 |false=>rw[if_neg Bool.false_ne_true]at k1;exact w e j k f c pins m l i Q I1 ⟨d,h,S1,k1⟩
def j6(op b:CmpOp)(g h mc:EM):EM:=λc i=>(g c i).bind λx d=>(h c d).bind λy e=>(cP (bH op x y e)).bind λt a=>if t=true then (mc c a).bind λz f=>bH b y z f else .ok (.bl false) a
theorem pd{op c:CmpOp}(S:bG κ eB Z0 H0 α Z Ω ρ h H)(g:ba κ Φ α Z H (j6 op c ma mb mc ρ Ω) Q) :
  kB (oz op) (oz c) (tO κ Φ eB Z0 H0 ma ρ Ω) (λh H Q=>∃a,tO κ Φ eB Z0 H0 mb ρ a h H Q) (λh H Q=>∃a,tO κ Φ eB Z0 H0 mc ρ a h H Q) h H Q:=by
 refine⟨α,Z,S,ba.use g λx a _ v R j D s k E F=>?_⟩
 refine⟨a,j,D,S.grow s k,ba.use F λy l _ w G m I A n B e=>?_⟩
 have J:=(S.grow s k).grow A n;refine jf (op:=op) (κ:=κ) (Φ:=Φ) n (k.bW A E) B ?_;cases q:bH op x y l with
 |ok d b=>
  obtain⟨t,rfl⟩:=ji _ _ _ _ _ q;intro u T o K p r C;simp only[aj]at C;refine⟨t,C,?_⟩;rw[q]at e;have f:ba κ Φ m I G (if t=true then (mc ρ b).bind λz i=>bH c y z i else .ok (.bl false) b) Q:=e
  have f:=ba.from p f
  cases t with
  |true=>
   rw[if_pos rfl]at f ⊢;refine⟨b,o,K,J.grow p r,ba.use f λz i _ U V L X M N O P=>?_⟩
   exact jf N (r.bW M (n.bW p B)) O P
  |false=>
   rw[if_neg Bool.false_ne_true]at f ⊢;exact ba.ret r (aM rfl) f
 |exc x b=>rw[q]at e;exact e
 |bad=>rw[q]at e;exact e
theorem sv{op c:CmpOp}(j:X.A.units+64<cLine)(k:lastMarks [op,c] [b,ce]=false)(l:aQ X κ Φ a ma)(m:aQ X κ Φ b mb)(n:aQ X κ Φ ce mc):aQ X κ Φ (.Compare a [op,c] [b,ce] pos) (j6 op c ma mb mc):=by
 intro d f h i o;refine PE.imp (n6 (fu j op) (fu j c) (l d f h i o) (PE.ex λe=>m d f h i e) (PE.ex λe=>n d f h i e) k) ?_
 rintro p H Q ⟨q,Z,S,g⟩;exact pd S g
theorem vI{op a:CmpOp}{d:D}{az:av}(h:j6 op a ma mb mc ρ Ω=.ok d az):∃t,d=.bl t:=by
 simp only[j6]at h;cases b:ma ρ Ω with
 |ok x c=>
  rw[b]at h;dsimp only[ak.bind]at h
  cases e:mb ρ c with
  |ok y f=>
   rw[e]at h;dsimp only[ak.bind]at h
   cases g:cP (bH op x y f)with
   |ok t i=>
    rw[g]at h;dsimp only[ak.bind]at h
    split at h
    .cases j:mc ρ i with
     |ok z k=>rw[j]at h;exact ji _ _ _ _ _ h
     |exc _ _=>rw[j]at h;cases h
     |bad=>rw[j]at h;cases h
    .cases h;exact⟨_,rfl⟩
   |exc _ _=>rw[g]at h;cases h
   |bad=>rw[g]at h;cases h
  |exc _ _=>rw[e]at h;cases h
  |bad=>rw[e]at h;cases h
 |exc _ _=>rw[b]at h;cases h
 |bad=>rw[b]at h;cases h
theorem sx{op c:CmpOp}(l:X.A.units+64<cLine)(o:lastMarks [op,c] [b,ce]=false)(p:aQ X κ Φ a ma)(r:aQ X κ Φ b mb)(s:aQ X κ Φ ce mc):ee X κ Φ (.Compare a [op,c] [b,ce] pos) (j6 op c ma mb mc):=by
 intro f i j h m;refine PT.imp (n7 (fu l op) (fu l c) (p f i j h m) (PE.ex λe=>r f i j h e) (PE.ex λe=>s f i j h e) o) ?_
 rintro B H Q ⟨C,Z,S,g⟩;refine pd S ?_;cases q:j6 op c ma mb mc h m with
 |ok d e=>
  obtain⟨t,rfl⟩:=vI q;rw[q]at g;intro v u k w y z n;simp only[aj]at n;exact⟨t,n,g u k w y z⟩
 |exc x e=>rw[q]at g;exact g
 |bad=>rw[q]at g;exact g.elim
def bJ(f:List D->Out Rs):List D->av->ak D:=λb a=>match aT (cT a 8) b with
 |some c=>du a (f c)
 |none=>.bad
theorem gM{bw:Bool}{f:List D->Out Rs}{xs:List D}{vs:List V}(S:aX κ α Z Ω H)(i:aE (aj α Z H) xs vs)(h:ba κ Φ α Z H (bJ f xs Ω) Q) :
  ∃ds a d',aG (l6 α Z) H ds vs/\f ds=.ok (a,d')/\∀v b c,cK (l6 α Z) H c b->cx bw a c H b d' v->Q v b:=by
 unfold bJ at h;split at h
 .rename_i ds j
  obtain⟨a,d',e,k⟩:=eZ (bw:=bw) S h;exact⟨ds,a,d',dO (cO (S:=Rep (l6 α Z) H) (λd d' v q r=>fX S 8 q r) j i),e,λv b c g q=>k v b _ c g q⟩
 .exact h.elim
theorem nq{k:Nat}{x:Str}{F:List D->Out Rs}(F0:xV X k x F)(j:bF k X.A)(l:Gl X x)(a:(x==("__debug__":Str))=false)
  (m:starEach (e::es) X.env=(false,eval e X.env)::starEach es X.env) (b:(backTo pos (starEach es X.env)).any (·.1)=false) (n:k7 X κ Φ (e::es) as) :
  aQ X κ Φ (.Call (.Name x p) (e::es) [] pos) (mN (bJ F) as):=by
 obtain⟨f,P,R,o,q,r,s⟩:=F0.ex;intro c t u w y;refine PE.imp (iU s j l o q r .nil lO (n c t u w y) a m b) ?_;rintro T H Q ⟨z,Z,S,g⟩;refine⟨z,Z,S,j3.use g λU B _ C E d G V i I J=>?_⟩
 show gC F (C++[]) E Q E0
 rw[List.append_nil];obtain⟨K,h,L,M,N,O⟩:=gM (bw:=false) i I J;exact⟨l6 d G,K,h,L,cH i,M,N,O⟩
end
def nr(f g:List D->av->ak D):List D->av->ak D:=λa b=>hF (f a b) (g a b)
def pe(xs:List D)(Ω:av):ak D:=match xs with
 |[x]=>match cU Ω x with
  |some a=>.ok (.int a.length) Ω
  |none=>.bad
 |_=>.bad
noncomputable def yc(xs:List D)(Ω:av):ak D:=.bad
def j7(xs:List D)(Ω:av):ak D:=match xs with
 |[x]=>match cU Ω x with
  |some a=>jZ Ω (.lst a)
  |none=>.bad
 |_=>.bad
def gN(xs:List D)(Ω:av):ak D:=match xs with
 |[.tup a]=>.ok (.tup a) Ω
 |[x]=>match ck Ω x with
  |some a=>.ok (.tup a) Ω
  |none=>.bad
 |_=>.bad
def vJ:List D->Out Rs
 |[.str z]=>if small z.length then .ok (false,.int z.length)else .bad
 |_=>.bad
noncomputable def vK:List D->Out Rs
 |[.int i]=>.ok (false,.int i)
 |[.bl k]=>.ok (false,.int (if k then 1 else 0))
 |_=>.bad
def sy:il->List D->Out Rs
 |.len=>vJ
 |.int=>vK
 |_=>λ_=>.bad
def k_(f:il):List D->av->ak D:=bJ (sy f)
def b7(f:il):List D->av->ak D:=match f with
 |.len=>nr pe (nr yc (k_ .len))
 |.list=>j7
 |.tuple=>gN
 |f=>k_ f
section
variable{X:Cx}{κ:Str->Addr->Prop}{Φ:dA}{α α' eB α1:List Addr}{Z Z' Z0 Z1:Addr->Prop}{Ω az:av}{H H' H0 H1:Hp}{ρ:aF}{σ:L2.St}{Q Q':VK}{r:ak D}{a b e ce o:Expr}{rest:List Expr}{es:List Expr}{ma mb mc m mo:EM}{as:AM}{pos p apos cpos:Pos}
theorem pf{f g:List D->av->ak D}:mN (nr f g) as=jd (mN f as) (mN g as):=by
 funext b a
 simp only[mN,jd];cases as b a with
 |ok x c=>rfl
 |exc x a=>rfl
 |bad=>rfl
theorem gO{f:List D->av->ak D}{j:String}{x:Str}{r:List V->Hp->VK->Prop}(k:cW X (.builtin j) r)(l:Gl X x)(m:X.mg x=none)(n:bootBuiltins x=some (.builtin j))(o:x≠"__name__")(b:(x==("__debug__":Str))=false)
  (q:starEach (e::es) X.env=(false,eval e X.env)::starEach es X.env) (c:(backTo pos (starEach es X.env)).any (·.1)=false) (s:k7 X κ Φ (e::es) as)
  (t:∀xs vs a Z Ω H Q,aX κ a Z Ω H->aE (aj a Z H) xs vs->ba κ Φ a Z H (f xs Ω) Q->r vs H Q):aQ X κ Φ (.Call (.Name x p) (e::es) [] pos) (mN f as):=by
 intro d u w y Ω;refine PE.imp (gj k l m n (s d u w y Ω) o b q c) ?_;rintro F H Q ⟨a,Z,S,g⟩;exact⟨a,Z,S,j3.use g λxs h _ vs z i A G B C E=>t xs vs i A h z Q B C E⟩
theorem gP{f:List D->av->ak D}{j:String}{x:Str}{r:List V->Hp->VK->Prop}(k:cW X (.type j) r)(l:Gl X x)(m:X.mg x=none)(n:bootBuiltins x=some (.type j))(o:x≠"__name__")(b:(x==("__debug__":Str))=false)
  (q:starEach (e::es) X.env=(false,eval e X.env)::starEach es X.env) (c:(backTo pos (starEach es X.env)).any (·.1)=false) (s:k7 X κ Φ (e::es) as)
  (t:∀xs vs a Z Ω H Q,aX κ a Z Ω H->aE (aj a Z H) xs vs->ba κ Φ a Z H (f xs Ω) Q->r vs H Q):aQ X κ Φ (.Call (.Name x p) (e::es) [] pos) (mN f as):=by
 intro d u w y Ω;refine PE.imp (mU k l m n (s d u w y Ω) o b q c) ?_;rintro F H Q ⟨a,Z,S,g⟩;exact⟨a,Z,S,j3.use g λxs h _ vs z i A G B C E=>t xs vs i A h z Q B C E⟩
theorem fw:∀{ds:List D}{vs:List V},aG Z H ds vs->oA Z H ds vs
 |[],vs,h=>h.nil_inv
 |d::ds,vs,h=>by
  obtain⟨v,r,rfl,h1,h2⟩:=h.cons_inv;exact⟨v,r,rfl,h1.now,fw h2⟩
theorem sD{f:il}(F:X.calm=true)(u:f∈[il.len,il.list,il.tuple,il.int])(w:Gl X f.nm)(y:X.mg f.nm=none)
  (z:starEach (e::es) X.env=(false,eval e X.env)::starEach es X.env) (b:(backTo pos (starEach es X.env)).any (·.1)=false) (A:k7 X κ Φ (e::es) as) :
  aQ X κ Φ (.Call (.Name f.nm p) (e::es) [] pos) (mN (b7 f) as):=by
 cases f with
 |len=>
  show aQ X κ Φ _ (mN (nr pe (nr yc (k_ .len))) as)
  rw[pf,pf];refine aQ.alt ?_ (aQ.alt ?_ ?_)
  .refine gO eU w y boot_len (by decide) (by decide) z b A ?_
   intro D G m Z o H Q S c g;unfold pe at g;split at g
   .split at g
    .rename_i B E
     obtain⟨v,r,rfl,i,q⟩:=c.cons_inv;rw[q.nil_inv];obtain⟨l,s,rfl,t,C⟩:=gJ (K:=X.K) S i E;exact⟨l,s,rfl,t,by rw[C.length];exact ba.ret S (aM rfl) g⟩
    .exact g.elim
   .exact g.elim
  .exact gO eU w y boot_len (by decide) (by decide) z b A λD G m Z o H Q S c g=>(show False from g).elim
  .refine gO iZ w y boot_len (by decide) (by decide) z b A ?_
   intro I J m Z o H Q S c g;obtain⟨B,L,d,j,a,k⟩:=gM (bw:=false) S c g;have j:=fw j;have h:=cH S;replace a:vJ B=_:=a;unfold vJ at a;split at a
   .obtain⟨x,rfl,n⟩:=j.one
    cases bR n;split at a
    .rename_i N
     cases a;exact⟨_,rfl,bg N,gD h k rfl⟩
    .cases a
   .cases a
 |all=>simp at u
 |any=>simp at u
 |int=>
  refine gP mS w y boot_int (by decide) (by decide) z b A ?_
  intro I J m Z o H Q S c g;obtain⟨B,L,d,j,a,k⟩:=gM (bw:=false) S c g;have j:=fw j;have h:=cH S;replace a:vK B=_:=a;unfold vK at a;split at a
  .obtain⟨x,rfl,n⟩:=j.one
   cases aN n;cases a;exact .inl ⟨_,rfl,gD h k rfl⟩
  .obtain⟨x,rfl,n⟩:=j.one
   cases ew n;cases a;exact .inr ⟨_,rfl,gD h k rfl⟩
  .cases a
 |min=>simp at u
 |max=>simp at u
 |list=>
  refine gP i3 w y boot_list (by decide) (by decide) z b A ?_
  intro D G m Z o H Q S c g;have g:ba κ Φ m Z H (j7 D o) Q:=g;unfold j7 at g;split at g
  .split at g
   .rename_i B E
    obtain⟨v,r,rfl,i,q⟩:=c.cons_inv;rw[q.nil_inv];obtain⟨l,s,rfl,t,C⟩:=gJ (K:=X.K) S i E;exact⟨l,s,rfl,t,e9 S C g⟩
   .exact g.elim
  .exact g.elim
 |tuple=>
  refine gP hP w y boot_tuple (by decide) (by decide) z b A ?_
  intro D G m Z o H Q S c g;have g:ba κ Φ m Z H (gN D o) Q:=g;unfold gN at g;split at g
  .obtain⟨v,r,rfl,i,q⟩:=c.cons_inv
   rw[q.nil_inv];have M:=i;obtain⟨l,s,rfl,_,t,C⟩:=dv i;exact⟨l,s,rfl,.inr ⟨nP (.inl t),ba.ret S M g⟩⟩
  .split at g
   .rename_i B E
    obtain⟨v,r,rfl,i,q⟩:=c.cons_inv;rw[q.nil_inv];obtain⟨l,s,rfl,t,C⟩:=bb S i E;exact⟨l,s,rfl,.inl ⟨i5 t,e_ S C g⟩⟩
   .exact g.elim
  .exact g.elim
 |sorted=>simp at u
 |bool=>simp at u
def Bm(t:Ty):D->av->ak D:=m_ λd=>match oq d t with|some b=>.ok (false,.bl b)|none=>.bad
noncomputable def vL(t:Ty)(x:D)(Ω:av):ak D:=match x with
 |.ref k=>match Ω[k]? with
  |some (.lst _)=>.ok (.bl (t==.list)) Ω
  |some (.dK _)=>.ok (.bl (t==.dict)) Ω
  |_=>.bad
 |.lst _=>.ok (.bl (t==.list)) Ω
 |.tup _=>.ok (.bl (t==.tuple)) Ω
 |_=>.bad
def dk(t:Ty):D->av->ak D:=vC (vL t) (Bm t)
def uA(K:PySem.W.Frag):List V->Hp->VK->Prop:=λd H Q=>∃a c t,d=[.ref a,.ty (Ty.id t)]/\((Rd H a (.lst c)/\Q (.bl (t==.list)) H)\/(Rd H a (.tup c)/\Q (.bl (t==.tuple)) H)\/(∃b,H a=some (.dK b)/\Q (.bl (t==.dict)) H))
theorem nt:cW X (.builtin "isinstance") (uA X.K):=by
 intro pins s f H n p Q I r h;obtain⟨a,w,t,rfl,h⟩:=h;obtain⟨u,i,rfl,e,j⟩:=vals2 r;cases (show i=Value.type (Ty.id t)from j)
 obtain⟨x,y,A,B,g,k,l⟩:=lT X.K t;rcases h with ⟨d,q⟩|⟨d,q⟩|⟨m,d,q⟩
 .have b:∀c,EP X pins f Q (.bool (t==.list)) {s with toks:=c}:=λc=>⟨.bl _,H,I.tok c,rfl,q⟩
  rcases d with d|⟨o,d⟩
  .exact bC I e (.lst d) g b
  .exact bC I e (.eK d) g b
 .have b:∀c,EP X pins f Q (.bool (t==.tuple)) {s with toks:=c}:=λc=>⟨.bl _,H,I.tok c,rfl,q⟩
  cases e;exact PySem.W.kia_one PySem.W.kitx_tuple I.dB (fD (K:=X.K) I d) k (λz=>nomatch z) b
 .have b:∀c,EP X pins f Q (.bool (t==.dict)) {s with toks:=c}:=λc=>⟨.bl _,H,I.tok c,rfl,q⟩
  exact bC I e (.dK d) l b
theorem sE{t:Ty}{f:Pos}(A:Gl X "isinstance")(B:X.mg "isinstance"=none)(u:Gl X t.nm)(w:X.mg t.nm=none)
  (n:starEach [a,Expr.Name t.nm f] X.env=(false,eval a X.env)::starEach [Expr.Name t.nm f] X.env) (h:(backTo pos (starEach [Expr.Name t.nm f] X.env)).any (·.1)=false) (o:aQ X κ Φ a ma) :
  aQ X κ Φ (.Call (.Name "isinstance" p) [a,.Name t.nm f] [] pos) (m1 (dk t) ma):=by
 have i:PE X (.Name t.nm f) (tC (.ty t.id)):=qK u w (rn t) rfl (by cases t<;>decide) (by cases t<;>decide)
 unfold dk;rw[vD];refine aQ.alt ?_ ?_
 .refine ef (r:=λx H Q=>uA X.K [x,.ty t.id] H Q) (λD y=>gj nt A B boot_isinstance (cX y (cX i iT rfl) n) (by decide) (by decide) n h) o ?_
  intro E x F Z G H Q S c g;unfold vL at g;split at g
  .split at g
   .rename_i k ds z
    obtain⟨a,j,rfl,e,C⟩:=bb (ds:=ds) S c (by simp only[ck,z])
    exact⟨a,j,t,rfl,.inl ⟨e,ba.ret S (aM rfl) g⟩⟩
   .rename_i k I z
    simp only[aj]at c;obtain⟨a,o,rfl⟩:=c;obtain⟨M,l,m,e,_⟩:=S.cell z;rw[o]at l;cases l
    exact⟨a,[],t,rfl,.inr (.inr ⟨m,e,ba.ret S (aM rfl) g⟩)⟩
   .exact g.elim
  .rename_i ds
   obtain⟨a,j,rfl,e,C⟩:=bb (ds:=ds) S c rfl;exact⟨a,j,t,rfl,.inl ⟨e,ba.ret S (aM rfl) g⟩⟩
  .obtain⟨a,j,rfl,_,e,C⟩:=dv c
   exact⟨a,j,t,rfl,.inr (.inl ⟨.inl e,ba.ret S (aM rfl) g⟩)⟩
  .exact g.elim
 .refine ef (r:=λx H Q=>xW X.K [x,.ty t.id] H Q) (λD y=>gj oG A B boot_isinstance (cX y (cX i iT rfl) n) (by decide) (by decide) n h) o ?_
  intro E x F Z G H Q S c g;obtain⟨d,J,N,L,s,k⟩:=j4 (bw:=false) S c g;cases q:oq d t with
  |none=>rw[q]at s;cases s
  |some b=>
   rw[q]at s;cases s;exact⟨_,d,x,t,b,rfl,L,q,gD (cH S) k rfl⟩
def dS(cg:av->D->Bool)(f:D->List D->av->ak D)(d:EM)(e:AM):EM:=λc g=>(d c g).bind λx a=>if cg a x=true then (e c a).bind λh b=>f x h b else .bad
def kx(Ω:av)(x:D):Bool:=(ck Ω x).isSome
noncomputable def ph(_:av)(x:D):Bool:=match x with
 |.str _=>true
 |_=>false
theorem pj{x:D}{v:V}{K:PySem.W.Frag}(S:aX κ α Z Ω H)(r:aj α Z H x v)(h:kx Ω x=true):xJ K "list" v H:=by
 unfold kx at h;cases q:ck Ω x with
 |none=>rw[q]at h;cases h
 |some d=>
  obtain⟨a,b,rfl,c,e⟩:=bb S r q;exact .inl ⟨rfl,b,i5 c⟩
theorem sF{x:D}{v:V}{K:PySem.W.Frag}(S:aX κ α Z Ω H)(r:aj α Z H x v)(h:ph Ω x=true):xJ K "str" v H:=by
 cases x with
 |str z=>simp only[aj]at r;subst r;rfl
 |_=>cases h
section
variable{T id:String}{name:Str}{r:V->List V->Hp->VK->Prop}{cg:av->D->Bool}{f:D->List D->av->ak D}
theorem pk{env:Env}:∀{es:List Expr},(∀e∈es,isStar e=false)->((backTo cpos (starEach es env)).all (λx=>!x.1))=true
 |[],_=>rfl
 |e::es,h=>by
  rw[bj (h e (by simp))]
  show(!false&&(backTo cpos (starEach es env)).all (λx=>!x.1))=true
  rw[pk λz a=>h z (by simp[a])];rfl
theorem la(B:PlainAttrs T)(slot:PySem.Slot T name id)(l:typeOf (.builtin id)=pure (.type "method_descriptor"))(C:Bf X id r)
  (D:∀x v a Z Ω H,aX κ a Z Ω H->aj a Z H x v->cg Ω x=true->xJ X.K T v H)
  (E:∀x v xs vs a Z Ω H Q,aX κ a Z Ω H->aj a Z H x v->aE (aj a Z H) xs vs->ba κ Φ a Z H (f x xs Ω) Q->r v vs H Q)
  (c:attributeBase o name X.env (eval o X.env)=eval o X.env) (d:(apos.endLine==cpos.line)=true) (F:aQ X κ Φ o mo) (G:k7 X κ Φ (e::es) as) (h:∀z∈e::es,isStar z=false) (s:(e::es).length<20):aQ X κ Φ (.Call (.Attribute o name apos) (e::es) [] cpos) (dS cg f mo as):=by
 intro i t u w Ω
 have j:((backTo cpos (starEach (e::es) X.env)).all (λx=>!x.1)&&(backToKw cpos (keywordEach [] X.env)).all (λx=>x.1.isSome)
   && decide ((e::es).length+([]:List Keyword).length+(if ([]:List Keyword).isEmpty then 0 else 1)<30))=true:=by
  rw[pk h,decide_eq_true (by show(e::es).length+0+0<30;omega)];rfl
 refine PE.imp (L2.xM B slot l C (F i t u w Ω) (PA.ex λb=>G i t u w b) c j d (bj (h e (by simp))) (bT λz I=>h z (by simp[I]))) ?_
 rintro Y H Q ⟨a,Z,S,g⟩;refine⟨a,Z,S,ba.use g λx b _ v J k y L m A n=>?_⟩
 split at n
 .rename_i M
  exact⟨D x v k y b J m A M,b,k,y,S.grow L m,j3.use n λxs p _ vs N q O P R U V=>E x v xs vs q O p N Q R (m.bW P A) U V⟩
 .exact n.elim
end
noncomputable def nu(Ω:av):D->Option (Nat×List D)
 |.ref k=>match Ω[k]? with
  |some (.lst ds)=>some (k,ds)
  |_=>none
 |_=>none
theorem j8{x:D}{v:V}{k:Nat}{ds:List D}(S:aX κ α Z Ω H)(r:aj α Z H x v)(h:nu Ω x=some (k,ds)):∃a vs,v=.ref a/\α[k]?=some a/\H a=some (.lst vs)/\aE (aj α Z H) ds vs:=by
 cases x with
 |ref n=>
  simp only[nu]at h;split at h
  .rename_i d e
   cases h;simp only[aj]at r;obtain⟨a,c,rfl⟩:=r;obtain⟨i,b,vs,f,g⟩:=S.cell e;rw[c]at b;cases b;exact⟨a,vs,rfl,c,f,g⟩
  .cases h
 |_=>cases h
theorem j9{k:Nat}{p:Addr}{ds:List D}{vs:List V}{d:D}{u:V}(S:aX κ α Z Ω H)(b:α[k]?=some p){e:List V}(f:H p=some (.lst e))(r:aE (aj α Z H) ds vs)(h:aj α Z H d u)(g:ba κ Φ α Z H (.ok d (Ω.set k (.lst ds))) Q):Q u (upd H p (.lst vs)):=by
 obtain⟨i,a⟩:=S.put (o:=.lst vs) (c:=.lst ds) b (λo u z=>by rw[f]at z;cases z) λR hR=>⟨vs,aI,r.imp hR⟩
 exact g _ _ _ _ a i (S.bW a h)
def cu(x:D)(xs:List D)(Ω:av):ak D:=match nu Ω x,xs with
 |some (k,a),[y]=>if small (a.length+1)then .ok .non (Ω.set k (.lst (a++[y])))else .bad
 |_,_=>.bad
def eE(x:D)(xs:List D)(Ω:av):ak D:=match nu Ω x,xs with
 |some (k,a),[.int i]=>if gp i=true then (match L2.mV a.length i with
  |some n=>match a[n]? with
   |some d=>.ok d (Ω.set k (.lst (a.eraseIdx n)))
   |none=>.bad
  |none=>.bad)else .bad
 |_,_=>.bad
def gQ(x:D)(xs:List D)(Ω:av):ak D:=match xs with
 |[y]=>dE (λa b=>oo .join a (.tup [b])) x y Ω
 |_=>.bad
theorem fY{R:D->V->Prop}{y:D}{vs:List V}(h:aE R [y] vs):∃v,vs=[v]/\R y v:=by
 obtain⟨v,r,rfl,a,b⟩:=h.cons_inv;rw[b.nil_inv];exact⟨v,rfl,a⟩
theorem nv{x:D}{v:V}{xs:List D}{vs:List V}(S:aX κ α Z Ω H)(r:aj α Z H x v)(rs:aE (aj α Z H) xs vs)(g:ba κ Φ α Z H (cu x xs Ω) Q):lN v vs H Q:=by
 unfold cu at g;split at g
 .rename_i k j y d
  obtain⟨a,e,rfl,f,b,c⟩:=j8 S r d;obtain⟨u,rfl,h⟩:=fY rs;split at g
  .rename_i i
   have:=bg i;exact⟨a,e,u,rfl,rfl,b,by rw[c.length];omega,j9 S f b (c.append (.one h)) (aM rfl) g⟩
  .exact g.elim
 .exact g.elim
theorem pq{x:D}{v:V}{xs:List D}{vs:List V}(S:aX κ α Z Ω H)(r:aj α Z H x v)(rs:aE (aj α Z H) xs vs)(g:ba κ Φ α Z H (eE x xs Ω) Q):oh v vs H Q:=by
 unfold eE at g;split at g
 .rename_i k t i h
  obtain⟨a,j,rfl,l,e,b⟩:=j8 S r h;obtain⟨u,rfl,f⟩:=fY rs;simp only[aj]at f;subst f;split at g
  .rename_i c
   have w:=jQ c;split at g
   .rename_i n m
    split at g
    .rename_i d o
     obtain⟨u,p,q⟩:=b.get o;obtain⟨s,y,z,A⟩:=lL m;exact⟨a,j,i,n,u,rfl,rfl,e,by omega,by omega,by rw[b.length];exact s,p,j9 S l e (b.eraseIdx n) q g⟩
    .exact g.elim
   .exact g.elim
  .exact g.elim
 .exact g.elim
theorem sG{x:D}{v:V}{xs:List D}{vs:List V}(S:aX κ α Z Ω H)(r:aj α Z H x v)(rs:aE (aj α Z H) xs vs)(g:ba κ Φ α Z H (gQ x xs Ω) Q):rJoin v vs H Q:=by
 unfold gQ at g;split at g
 .obtain⟨u,rfl,c⟩:=fY rs
  obtain⟨d,e,f,n,h,i,a,k⟩:=e7 (bw:=false) S r c g;cases d with
  |str z=>
   cases bR h;cases e with
   |lst j=>
    (unfold oo at a;dsimp only at a)
    split at a
    .rename_i l m
     split at a
     .rename_i b
      cases a;simp only[Bool.and_eq_true,decide_eq_true_eq]at b;exact⟨z,_,j,l,u,rfl,rfl,i,m,b.1,b.2,gD (cH S) k rfl⟩
     .cases a
    .cases a
   |_=>cases a
  |_=>cases e<;>cases a
 .exact g.elim
end
inductive Src where
 |seq (x:D)|ints (lo:Int) (n:Nat)|chars (z:Str)|Cy (x:D)
def fS:Src->av->Option (List D)
 |.seq x,Ω=>cU Ω x
 |.ints lo n,_=>some (intsFrom lo n)
 |.chars z,_=>some (z.cps.toList.map λc=>.str (dM c))
 |.Cy x,Ω=>(cU Ω x).map (cF 0)
abbrev IM:=aF->av->ak Src
def sH(κ:Str->Addr->Prop)(s:Src)(J:It)(j:List Addr)(Z:Addr->Prop)(H:Hp):Prop:=∀a f b c g,bq j Z H a f c->aX κ a f b c->fS s b=some g ->
 (∀(i:Nat) (d:D),g[i]?=some d->J.go i c/\∀x e,J.zG i c x e->∃h,bq a f c a h e/\aX κ a h b e/\aj a h e d x)/\∀i,g.length<=i->J.stop i c
def lb(κ:Str->Addr->Prop)(Φ:dA)(e:List Addr)(Z:Addr->Prop)(H:Hp)(r:ak Src)(R:It->Hp->Prop):Prop:=match r with
 |.ok s b=>∀J c a d,bq e Z H a d c->aX κ a d b c->sH κ s J a d c->R J c
 |.exc x b=>∀c a d,bq e Z H a d c->aX κ a d b c->Φ x b a d c
 |.bad=>False
noncomputable def DF(κ:Str->Addr->Prop)(Φ:dA)(a:List Addr)(c:Addr->Prop)(d:Hp)(m:IM)(ρ:aF)(Ω:av):TI:=λe H R=>∃b Z,bG κ a c d b Z Ω ρ e H/\lb κ Φ b Z H (m ρ Ω) R
def pv(X:Cx)(κ:Str->Addr->Prop)(Φ:dA)(b e:Expr)(m:IM):Prop:=∀a c d f g,PI X b e (DF κ Φ a c d m f g)
def srcOf(Ω:av)(x:D):ak Src:=match cU Ω x,x with
 |some _,x=>.ok (.seq x) Ω
 |none,.str z=>.ok (.chars z) Ω
 |none,_=>.bad
def ei(m:EM):IM:=λb c=>(m b c).bind λx a=>srcOf a x
def yd(m:EM):IM:=λb c=>(m b c).bind λx a=>match cU a x with
 |some _=>.ok (.Cy x) a
 |none=>.bad
def mn(xs:List D)(Ω:av):ak Src:=match xs with
 |[.int j]=>if gp j then .ok (.ints 0 j.toNat) Ω else .bad
 |_=>.bad
def bp(a:AM):IM:=λb c=>(a b c).bind mn
section
variable{X:Cx}{κ:Str->Addr->Prop}{Φ:dA}{α α' eB α1:List Addr}{Z Z' Z0 Z1:Addr->Prop}{Ω az:av}{H H' H0 H1:Hp}{ρ:aF}{σ:L2.St}{Q Q':VK}{r:ak D}{a b e ce o tg:Expr}{rest:List Expr}{es:List Expr}{ma mb mc m mo:EM}{as:AM}{pos p apos cpos tpos:Pos}
theorem lb.from{r:ak Src}{R:It->Hp->Prop}(g:bq α Z H α1 Z1 H1)(h:lb κ Φ α Z H r R):lb κ Φ α1 Z1 H1 r R:=by
 cases r with
 |ok d b=>exact λv c a e f=>h v c a e (g.trans f)
 |exc x b=>exact λc a e f=>h c a e (g.trans f)
 |bad=>exact h
theorem lb.use{r:ak D}{f:D->av->ak Src}{R:It->Hp->Prop}(h:lb κ Φ α Z H (r.bind f) R)(k:∀d a,r=.ok d a->∀v c b e,bq α Z H b e c->aX κ b e a c->aj b e c d v->lb κ Φ b e c (f d a) R->Q' v c):ba κ Φ α Z H r Q':=by
 cases r with
 |ok d a=>exact λv c b e g s q=>k d a rfl v c b e g s q (lb.from g h)
 |exc x a=>exact h
 |bad=>exact h
theorem j_{K:PySem.W.Frag}{x:D}{a:Addr}(p:aj α Z H x (.ref a))(S:aX κ α Z Ω H)(q:(ck Ω x).isSome=true):sH κ (.seq x) (A7 K a) α Z H:=by
 intro r t b C u g s w;have c:=S.bW g p;have f:∀h,x≠.tup h:=λh e=>by subst e;cases q
 have j:ck b x=some u:=by
  cases x with
  |tup h=>exact absurd rfl (f _)
  |_=>exact w
 obtain⟨E,k,e,l,n⟩:=bb s c j;cases e;refine⟨λi d z=>?_,λi A=>⟨k,i5 l,by rw[n.length];exact A⟩⟩
 obtain⟨v,o,B⟩:=n.get z;refine⟨⟨k,v,i5 l,o⟩,λy F m=>?_⟩
 obtain⟨rfl,m⟩:=m;have:=m k (i5 l);rw[o]at this;cases this;exact⟨t,bq.refl s.has,s,B⟩
theorem sI{K:PySem.W.Frag}{es:List D}{a:Addr}(l:aj α Z H (.tup es) (.ref a))(S:aX κ α Z Ω H):sH κ (.seq (.tup es)) (A8 K a) α Z H:=by
 intro m n o u w g s p;have b:=S.bW g l;cases p;obtain⟨x,c,e,_,f,j⟩:=dv b;cases e;refine⟨λi d q=>?_,λi r=>⟨c,nP (.inl f),by rw[j.length];exact r⟩⟩
 obtain⟨v,k,t⟩:=j.get q;refine⟨⟨c,v,nP (.inl f),k⟩,λy z h=>?_⟩
 obtain⟨rfl,h⟩:=h;have:=h c (nP (.inl f));rw[k]at this;cases this;exact⟨n,bq.refl s.has,s,t⟩
theorem sJ(h:aQ X κ Φ e m):pv X κ Φ tg e (ei m):=by
 intro u F G I J;refine PI.imp (vu (h u F G I J)) ?_;rintro T H R ⟨K,Z,S,g⟩;refine⟨K,Z,S,lb.use g λx w _ v r k s U b o f=>?_⟩
 cases x with
 |tup C=>
  have j:=o;obtain⟨a,p,rfl,_,q,D⟩:=dv o;exact .inr (.inl ⟨a,p,rfl,.inl q,f _ r k s (bq.refl b.has) b (sI j b)⟩)
 |lst C=>
  have j:=o;obtain⟨a,p,rfl,q,D⟩:=bb (ds:=C) b o rfl;exact .inl ⟨a,p,rfl,q,f _ r k s (bq.refl b.has) b (j_ j b rfl)⟩
 |ref n=>
  cases l:ck w (.ref n)with
  |none=>
   simp only[srcOf,cU,l]at f;exact f.elim
  |some ds=>
   simp only[srcOf,cU,l]at f;have j:=o;obtain⟨a,p,rfl,q,D⟩:=bb b o l;exact .inl ⟨a,p,rfl,q,f _ r k s (bq.refl b.has) b (j_ j b (by rw[l];rfl))⟩
 |str z=>
  simp only[aj]at o;subst o;refine .inr (.inr ⟨z,rfl,f _ r k s (bq.refl b.has) b ?_⟩);intro L M N V ds Y E O;cases O;refine⟨λi d t=>?_,λi A=>by show z.cps.size<=i;simpa using A⟩
  have A:i<z.cps.size:=by
   have:=(List.getElem?_eq_some_iff.mp t).1;simpa using this
  refine⟨A,λy H3 P=>?_⟩
  obtain⟨rfl,c,Q,rfl⟩:=P;rw[List.getElem?_map]at t;have B:z.cps.toList[i]?=some c:=by simpa using Q
  rw[B]at t;cases t;exact⟨M,bq.refl E.has,E,aM rfl⟩
 |non=>exact f.elim
 |bl _=>exact f.elim
 |int _=>exact f.elim
 |dct _ _=>exact f.elim
theorem pw{b:Int}{n:Nat}:sH κ (.ints b n) (xh b n) α Z H:=by
 intro e f h l m g s j;cases j;refine⟨λi d c=>?_,λi a=>by rw[gE]at a;exact a⟩
 have a:=(List.getElem?_eq_some_iff.mp c).1;rw[gE]at a;refine⟨a,λy o k=>?_⟩
 obtain⟨rfl,rfl⟩:=k;rw[ints_get _ _ _ _ c];exact⟨f,bq.refl s.has,s,aM rfl⟩
theorem lb.Bn{r:ak (List D)}{f:List D->av->ak Src}{R:It->Hp->Prop}{Q':List V->Hp->Prop}(h:lb κ Φ α Z H (r.bind f) R)(k:∀ds a,r=.ok ds a->∀vs c b e,bq α Z H b e c->aX κ b e a c->aE (aj b e c) ds vs->lb κ Φ b e c (f ds a) R->Q' vs c):j3 κ Φ α Z H r Q':=by
 cases r with
 |ok d a=>exact λv c b e g s q=>k d a rfl v c b e g s q (lb.from g h)
 |exc x a=>exact h
 |bad=>exact h
theorem pz(l:Gl X "range")(m:X.mg "range"=none)(n:k7 X κ Φ [a] as)(o:starEach [a] X.env=[(false,eval a X.env)]):pv X κ Φ tg (.Call (.Name "range" p) [a] [] pos) (bp as):=by
 intro d q r s t;refine PI.imp (mP l m (n d q r s t) o) ?_;rintro z H R ⟨u,Z,S,g⟩;refine⟨u,Z,S,lb.Bn (Q':=λh e=>∃j:Int,h=[.int j] /\ -(2 ^ 62)<=j/\j<2 ^ 62/\R (xh 0 j.toNat) e) g λA w _ h e f x B i y b=>?_⟩
 unfold mn at b;split at b
 .obtain⟨v,rfl,k⟩:=fY y
  simp only[aj]at k;subst k;split at b
  .rename_i c
   have c:=jQ c;exact⟨_,rfl,c.1,c.2,b _ e f x (bq.refl i.has) i pw⟩
  .exact b.elim
 .exact b.elim
noncomputable def lg(n:Nat)(d:D):Option aF:=match n,d with
 |0,d=>some [some d]
 |n,.tup a=>if a.length=n then some (a.map some)else none
 |_,_=>none
noncomputable def dU(cap:List Nat)(ρ:aF):aF:=cap.map λi=>(ρ[i]?).join
def ka(nc:Bool)(mc:EM)(ρ:aF)(Ω:av):ak Bool:=if nc=true then .ok true Ω else cP (mc ρ Ω)
def qF(nc:Bool)(mc me:EM)(n:Nat)(b:aF)(src:Src):Nat->Nat->List D->av->ak (List D)
 |0,_,_,_=>.bad
 |f+1,i,a,Ω=>match fS src Ω with
  |none=>.bad
  |some ds=>match ds[i]? with
   |none=>.ok a Ω
   |some d=>match lg n d with
    |none=>.bad
    |some c=>if small (a.length+1)then match ka nc mc (c++b) Ω with
     |.ok true ng=>match me (c++b) ng with
      |.ok y vM=>qF nc mc me n b src f (i+1) (a++[y]) vM
      |_=>.bad
     |.ok false ng=>qF nc mc me n b src f (i+1) a ng
     |_=>.bad else .bad
def cQ(me:EM)(nc:Bool)(mc:EM)(mi:IM)(n:Nat)(cap:List Nat):EM:=λc d=>match mi c d with
 |.ok s a=>match qF nc mc me n (dU cap c) s fuel 0 [] a with
  |.ok e b=>jZ b (.lst e)
  |_=>.bad
 |.exc x a=>.exc x a
 |.bad=>.bad
noncomputable def eF:dA:=λ_ _ _ _ _=>False
theorem kb{cap:List Nat}{ds:List D}{vs:List V}(S:bG κ eB Z0 H0 α Z Ω ρ σ H)(g:bq α Z H α1 Z1 H1)(s:aX κ α1 Z1 az H1)(r:aE (aj α1 Z1 H1) ds vs) :
  bG κ α1 Z1 H1 α1 Z1 az (ds.map some++dU cap ρ) (vs.map some++jS cap σ) H1:=by
 have a:=r.length;refine⟨s,bq.refl s.has,?_,λi d h=>?_⟩
 .rw[List.length_append,List.length_append,List.length_map,List.length_map,a]
  unfold jS dU;rw[List.length_map,List.length_map]
 .by_cases b:i<ds.length
  .rw[List.getElem?_append_left (by simpa using b),List.getElem?_map]at h
   rw[List.getElem?_append_left (by simpa[a]using b),List.getElem?_map]
   cases q:ds[i]? with
   |none=>rw[q]at h;cases h
   |some l=>
    rw[q]at h;cases h;obtain⟨v,c,e⟩:=r.get q;exact⟨v,by rw[c];rfl,e⟩
  .rw[List.getElem?_append_right (by simpa using b)]at h
   rw[List.getElem?_append_right (by simpa[a]using b)]
   unfold dU at h;unfold jS;rw[List.length_map,List.getElem?_map]at h;rw[List.length_map,a,List.getElem?_map];cases q:cap[i - ds.length]? with
   |none=>rw[q]at h;cases h
   |some j=>
    rw[q]at h;have h:(ρ[j]?).join=some d:=by simpa using h
    have k:ρ[j]?=some (some d):=by
     cases f:ρ[j]? with
     |none=>rw[f]at h;cases h
     |some o=>rw[f]at h;rw[show o=some d from h]
    obtain⟨v,c,e⟩:=S.val j d k;refine⟨v,?_,S.st.bW g e⟩
    show some ((σ[j]?).join)=_
    rw[c];rfl
theorem bq.uB(g:bq α Z H α' Z' H'){a:Addr}{o:HO}(b:a∉α)(h:H a=some o):a∉α':=λq=>by
 rcases g.qE a q with q|q
 .exact b q
 .rw[h]at q;cases q
theorem bq.vO(g:bq α Z H α' Z' H'){a:Addr}{o:HO}(b:¬ Z a)(h:H a=some o):¬ Z' a:=λq=>by
 rcases g.new a q with q|q
 .exact b q
 .rw[h]at q;cases q
theorem bq.side(g:bq α Z H α' Z' H'){a:Addr}{o:HO}(d:a∉α)(h:H a=Option.none):bq α Z H α' Z' (upd H' a o):=
 ⟨g.pre,g.sub,g.new,g.qE,λb u e c=>by rw[ao (aL e h)];exact g.frm b u e c,λb c=>by rw[ao (λ(q:b=a)=>d (by rw[←q];exact c))];exact g.has b c⟩
theorem sL{n:Nat}{d:D}{a:aF}(h:lg n d=some a):∃ds:List D,a=ds.map some:=by
 unfold lg at h;split at h
 .cases h;exact⟨[d],rfl⟩
 .split at h
  .cases h;exact⟨_,rfl⟩
  .cases h
 .cases h
theorem aX.part(S:aX κ α Z Ω H){g:Addr}{vs:List V}{ds:List D}(i:H g=some (.lst vs))(j:g∉α)(k:¬ Z g)(r:aE (aj α Z H) ds vs):aX κ (α++[g]) Z (Ω++[.lst ds]) H:=by
 have h:∀(n:Nat) (a:Addr),α[n]?=some a->(α++[g])[n]?=some a:=λn a e=>by rw[List.getElem?_append_left (List.getElem?_eq_some_iff.mp e).1];exact e
 have mono:∀d v,aj α Z H d v->aj (α++[g]) Z H d v:=λd v r=>r.mono h (λ_ _ _ e=>e) λ_ z=>z
 refine⟨?_,?_,λa ha f=>?_,S.dom⟩
 .refine List.nodup_append.mpr ⟨S.ku,by simp,λa ha b l e=>?_⟩
  rw[List.mem_singleton.mp l]at e;exact j (e▸ha)
 .exact aE.append (S.nQ.imp λc a m=>m.imp mono (λ_ e=>e) λ_ _ _ e=>e) (.one ⟨vs,i,r.imp mono⟩)
 .rcases List.mem_append.mp ha with ha|ha
  .exact S.sep a ha f
  .rw[List.mem_singleton.mp ha]at f;exact k f
theorem aX.side(S:aX κ α Z Ω H){f:Addr}{o:HO}(n:f∉α)(m:¬ Z f)(p:∀o u,H f≠some (.eK o u)):aX κ α Z Ω (upd H f o)/\∀d v,aj α Z H d v->aj α Z (upd H f o) d v:=by
 have mono:∀d v,aj α Z H d v->aj α Z (upd H f o) d v:=λd v r=>r.mono (λ_ _ e=>e) (λa u z e=>by rw[ao (λ(q:a=f)=>m (by rw[←q];exact z))];exact e) λ_ z=>z
 have k:∀{j:List Cell}{g:List Addr},(∀a∈g,a∈α)->aE (λc a=>di κ (aj α Z H) H a c) j g->aE (λc a=>di κ (aj α Z (upd H f o)) (upd H f o) a c) j g:=by
  intro j g i s
  induction s with
  |nil=>exact .nil
  |@cons c a j g r t w=>
   have l:a≠f:=λq=>n (q▸i a (by simp))
   exact .cons (r.imp mono (λu e=>by rw[ao l];exact e) λb x y e=>by rw[ao (λq=>p x y (by rw[←q];exact e))];exact e) (w λb A=>i b (by simp[A]))
 exact⟨⟨S.ku,k (λa h=>h) S.nQ,S.sep,λa z=>by rw[ao (λ(q:a=f)=>m (by rw[←q];exact z))];exact S.dom a z⟩,mono⟩
end
section
variable{X:Cx}{κ:Str->Addr->Prop}{Φ:dA}{tg iter elt:Expr}{ifs:List Expr}{scope:Scope}{tn cn:List Str}{cap:List Nat}{me mc:EM}{mi:IM}{nc:Bool}{pos:Pos}{n:Nat}
theorem ny{g:TG}(o0:pv X κ Φ tg iter mi)
  (p0:∀(d:D) (ds:List D) x p Z Ω H (m:L2.St) (k:L2.St->Hp->Prop),lg n d=some (ds.map some)->aX κ p Z Ω H->aj p Z H d x->(∀vs,aE (aj p Z H) ds vs->k (vs.map some++m) H)->g x (List.replicate tn.length none++m) H k)
  (hb:∀B C h j E,PG (blk X scope B C (tn++cn) h j E) tg g/\((ifs=[]/\nc=true)\/∃c,ifs=[c]/\nc=false/\ee (blk X scope B C (tn++cn) h j E) κ eF c mc)/\aQ (blk X scope B C (tn++cn) h j E) κ eF elt me) :
  ∀Y Z0 H0 ρ Ω,∃wi tc te,PI X tg iter wi/\(∀B C h j E,PG (blk X scope B C (tn++cn) h j E) tg g/\rp (blk X scope B C (tn++cn) h j E) ifs tc/\PE (blk X scope B C (tn++cn) h j E) elt te) /\
   ∀σ H Q,tO κ Φ Y Z0 H0 (cQ me nc mc mi n cap) ρ Ω σ H Q->ip wi tn.length cap g tc te σ H Q:=by
 intro Y Z0 H0 ρ Ω
 let tc:TT:=λm H Q=>∃p Z Ω r,bG κ p Z H p Z Ω r m H/\jD κ eF p Z H (ka nc mc r Ω) Q
 let te:TE:=λm H Q=>∃p Z Ω r,bG κ p Z H p Z Ω r m H/\ba κ eF p Z H (me r Ω) Q
 have q0:∀B C h j E,PG (blk X scope B C (tn++cn) h j E) tg g/\rp (blk X scope B C (tn++cn) h j E) ifs tc/\PE (blk X scope B C (tn++cn) h j E) elt te:=by
  intro B C h j E;obtain⟨h1,h2,h3⟩:=hb B C h j E;refine⟨h1,?_,?_⟩
  .rcases h2 with ⟨e,hn⟩|⟨c,e,hn,h2⟩
   .subst e
    intro pins s m H Q I q;obtain⟨p,Z,Ω,r,S,k⟩:=q;rw[ka,if_pos hn]at k;exact rq pins s m H Q I (k H p Z (bq.refl S.st.has) S.st)
   .subst e
    intro pins s m H Q I q;obtain⟨p,Z,Ω,r,S,k⟩:=q;rw[ka,if_neg (by rw[hn];exact Bool.false_ne_true)]at k
    exact ry (h2 p Z H r Ω) pins s m H Q I ⟨p,Z,S,k⟩
  .intro pins s m H Q I q
   obtain⟨p,Z,Ω,r,S,k⟩:=q;exact h3 p Z H r Ω pins s m H Q I ⟨p,Z,S,k⟩
 refine⟨_,tc,te,o0 Y Z0 H0 ρ Ω,q0,?_⟩;rintro σ H Q ⟨p,Z,S,k⟩;refine⟨p,Z,S,?_⟩;simp only[cQ]at k;cases qi:mi ρ Ω with
 |exc x a0=>rw[qi]at k;exact k
 |bad=>rw[qi]at k;exact k.elim
 |ok b0 a0=>
  rw[qi]at k;dsimp only at k;intro J H1 L Z1 g1 s1 w1 F hD;cases qg:qF nc mc me n (dU cap ρ) b0 fuel 0 [] a0 with
  |exc x f0=>rw[qg]at k;exact k.elim
  |bad=>rw[qg]at k;exact k.elim
  |ok ys f0=>
   rw[qg]at k;dsimp only at k;have T:¬ Z1 F:=λz=>s1.dom F z hD
   have A:F∉L:=λz=>s1.has F z hD
   refine⟨λi f vs U=>∃t V w G,bq L Z1 H1 t V U/\aX κ t V w U/\F∉t/\¬ V F/\U F=some (.lst vs)/\aE (aj t V U) G vs/\qF nc mc me n (dU cap ρ) b0 f i G w=.ok ys f0,
    ⟨fuel,L,Z1,a0,[],?_,?_,A,T,aI,.nil,qg⟩,?_⟩
   .exact⟨λ_ _ e=>e,λ_ z=>z,λ_ z=>.inl z,λ_ z=>.inl z,λa o e _=>by rw[ao (aL e hD)];exact e,λa ha=>by rw[ao (λ(q:a=F)=>A (by rw[←q];exact ha))];exact s1.has a ha⟩
   .exact(s1.side A T λo u z=>by rw[hD]at z;cases z).1
   rintro i f vs U ⟨t,V,w,G,K,s2,nD,nZ,M,r2,l⟩;refine⟨M,?_⟩;cases f with
   |zero=>cases l
   |succ f=>
    simp only[qF]at l;cases qs:fS b0 w with
    |none=>rw[qs]at l;cases l
    |some ds=>
     rw[qs]at l;dsimp only at l;obtain⟨r0,s0⟩:=w1 t V w U ds K s2 qs;cases qd:ds[i]? with
     |none=>
      rw[qd]at l;cases l;have hi:ds.length<=i:=List.getElem?_eq_none_iff.mp qd;refine .inl ⟨s0 i hi,?_⟩;have sf:=s2.part M nD nZ r2
      have gA:bq L Z1 H1 (t++[F]) V U:=⟨λn a e=>by rw[List.getElem?_append_left (List.getElem?_eq_some_iff.mp (K.pre n a e)).1];exact K.pre n a e,K.sub,K.new,λa ha=>by
       rcases List.mem_append.mp ha with ha|ha
       .exact K.qE a ha
       .rw[List.mem_singleton.mp ha];exact .inr hD,K.frm,K.has⟩
      exact k _ U _ V (g1.trans gA) sf (eY s2 F)
     |some d=>
      rw[qd]at l;dsimp only at l;obtain⟨t0,u0⟩:=r0 i d qd;cases qt:lg n d with
      |none=>rw[qt]at l;cases l
      |some ts=>
       rw[qt]at l;dsimp only at l;obtain⟨es,rfl⟩:=sL qt
       by_cases N:small (G.length+1)=true
       .rw[if_pos N]at l
        have N:=bg N;refine .inr ⟨t0,by rw[r2.length];omega,λx H3 yl=>?_⟩
        obtain⟨Z3,g3,s3,rx⟩:=u0 x H3 yl;have v0:=g3.vO nZ M;have d0:=g3.frm F _ M nD;refine p0 d es x t Z3 w H3 (jS cap σ) _ qt s3 rx λws g0=>?_
        have gB:=g1.trans (K.trans g3);have SB:=kb (cap:=cap) S gB s3 g0;refine⟨t,Z3,w,_,SB,?_⟩;cases qc:ka nc mc (es.map some++dU cap ρ) w with
        |exc x O=>rw[qc]at l;cases l
        |bad=>rw[qc]at l;cases l
        |ok b O=>
         rw[qc]at l;intro H5 h0 Z5 P s5;have e0:=P.uB nD d0;have i0:=P.vO v0 d0;have R:=P.frm F _ d0 nD;cases b with
         |false=>
          refine kL ?_;exact⟨f,Nat.lt_succ_self _,h0,Z5,O,G,K.trans (g3.trans P),s5,e0,i0,R,s3.gI P (s2.gI g3 r2),l⟩
         |true=>
          refine kM ?_;dsimp only at l;have SC:=kb (cap:=cap) S (gB.trans P) s5 (s3.gI P g0);refine⟨h0,Z5,O,_,SC,?_⟩;cases qe:me (es.map some++dU cap ρ) O with
          |exc x j0=>rw[qe]at l;cases l
          |bad=>rw[qe]at l;cases l
          |ok y j0=>
           rw[qe]at l;intro v H6 w0 Z6 g6 s6 rv;have l0:=g6.uB e0 R;have m0:=g6.vO i0 R;have n0:=g6.frm F _ R e0;obtain⟨s7,m7⟩:=s6.side (o:=.lst (vs++[v])) l0 m0 (λo u z=>by rw[n0]at z;cases z)
           refine⟨n0,f,Nat.lt_succ_self _,w0,Z6,j0,G++[y],((K.trans (g3.trans P)).trans g6).side A hD,s7,l0,m0,aI,?_,l⟩;exact((s5.gI g6 (s3.gI P (s2.gI g3 r2))).append (.one rv)).imp m7
       .rw[if_neg N]at l;cases l
theorem gR{x:Str}{l:Pos}(m:pv X κ Φ (.Name x l) iter mi)(z:scope.names.lookup x=some .local)(n:([x]++cn).Nodup)
  (A:∀h C b f i,((ifs=[]/\nc=true)\/∃c,ifs=[c]/\nc=false/\ee (blk X scope h C ([x]++cn) b f i) κ eF c mc)/\aQ (blk X scope h C ([x]++cn) b f i) κ eF elt me) :
  ∀o B D ρ Ω,∃q s t,PI X (.Name x l) iter q/\(∀h C b f i,PG (blk X scope h C ([x]++cn) b f i) (.Name x l) (ek 0)/\rp (blk X scope h C ([x]++cn) b f i) ifs s/\PE (blk X scope h C ([x]++cn) b f i) elt t) /\
   ∀u H Q,tO κ Φ o B D (cQ me nc mc mi 0 cap) ρ Ω u H Q->ip q [x].length cap (ek 0) s t u H Q:=by
 have w:(relabel scope X.env).names.lookup x=some .local:=lookup_relabel_local z;refine ny (g:=ek 0) (tn:=[x]) m (λd p y K Z Ω H E k j S F G=>?_) λh C b f i=>?_
 .have j:some [some d]=some (p.map some):=j
  have e:p=[d]:=by
   injection j with j;cases p with
   |nil=>cases j
   |cons a r=>
    cases r with
    |nil=>simp only[List.map_cons,List.map_nil,List.cons.injEq,Option.some.injEq,and_true]at j;rw[j]
    |cons _ _=>cases j
  subst e;exact G [y] (.one F)
 .obtain⟨I,J⟩:=A h C b f i
  exact⟨iO (X:=blk X scope h C ([x]++cn) b f i) n rfl (.inl w) (.inr w),I,J⟩
theorem pA{x:Str}{g:Pos}(j:X.calm=true)(B:fE X scope [x] cn cap)(k:∀z,foldedSetIterable iter X.env z=pure z)(d:pv X κ Φ (.Name x g) iter mi)(l:scope.names.lookup x=some .local)(e:([x]++cn).Nodup)
  (m:∀h C a b i,((ifs=[]/\nc=true)\/∃c,ifs=[c]/\nc=false/\ee (blk X scope h C ([x]++cn) a b i) κ eF c mc)/\aQ (blk X scope h C ([x]++cn) a b i) κ eF elt me) :
  aQ X κ Φ (.ListComp elt [⟨.Name x g,iter,ifs,0⟩] scope pos) (cQ me nc mc mi 0 cap):=by
 intro f n o p q;obtain⟨u,w,y,r,s,t⟩:=gR (cap:=cap) d l e m f n o p q;exact PE.imp (rz j B r k (fF 1 (by decide)) s) t
end
inductive eG where
 |nx (ρ:aF) (Ω:av)|bk (ρ:aF) (Ω:av)|ct (ρ:aF) (Ω:av)|rt (d:D) (Ω:av)|exc (x:D) (Ω:av)|bad
abbrev SM:=aF->av->eG
def ej(κ:Str->Addr->Prop)(Φ:dA)(b:List Addr)(e:Addr->Prop)(f:Hp)(E:Ends):eG->Prop
 |.nx ρ Ω=>∀c H a Z,bG κ b e f a Z Ω ρ c H->E.nx c H
 |.bk ρ Ω=>∀c H a Z,bG κ b e f a Z Ω ρ c H->E.bk c H
 |.ct ρ Ω=>∀c H a Z,bG κ b e f a Z Ω ρ c H->E.ct c H
 |.rt d Ω=>∀v H a Z,bq b e f a Z H->aX κ a Z Ω H->aj a Z H d v->E.rt v H
 |.exc x Ω=>∀H a Z,bq b e f a Z H->aX κ a Z Ω H->Φ x Ω a Z H
 |.bad=>False
noncomputable def ye(κ:Str->Addr->Prop)(Φ:dA)(a:List Addr)(b:Addr->Prop)(d:Hp)(c:SM)(ρ:aF)(Ω:av):TS:=λE e H=>∃f Z,bG κ a b d f Z Ω ρ e H/\ej κ Φ a b d E (c ρ Ω)
def nz(X:Cx)(κ:Str->Addr->Prop)(Φ:dA)(st:Stmt)(c:SM):Prop:=∀a b d e f,PS X st (ye κ Φ a b d c e f)
def kc(X:Cx)(κ:Str->Addr->Prop)(Φ:dA)(a:List Stmt)(c:SM):Prop:=∀b d e f g,fT X a (ye κ Φ b d e c f g)
noncomputable def cE{c:Type}(r:ak c)(k:c->av->eG):eG:=match r with
 |.ok a b=>k a b
 |.exc x b=>.exc x b
 |.bad=>.bad
noncomputable def au:SM:=λa b=>.nx a b
noncomputable def aq(a b:SM):SM:=λe f=>match a e f with
 |.nx c d=>b c d
 |r=>r
def aK(i:Nat)(m:EM):SM:=λb c=>cE (m b c) λd a=>.nx (b.set i (some d)) a
def gS(m:EM):SM:=λb c=>cE (m b c) λ_ a=>.nx b a
def a_(m:EM):SM:=λb c=>cE (m b c) λd a=>.rt d a
def dF(m:EM)(a b:SM):SM:=λd e=>cE (cP (m d e)) λt c=>if t=true then a d c else b d c
noncomputable def jk:SM:=λ_ _=>.bad
noncomputable def fZ:List Nat->List D->aF->aF
 |i::a,d::ds,ρ=>fZ a ds (ρ.set i (some d))
 |_,_,ρ=>ρ
noncomputable def bD(i:Nat)(d:D)(ρ:aF):Option aF:=some (ρ.set i (some d))
def kd(a:List Nat)(d:D)(ρ:aF):Option aF:=match d with
 |.tup b=>if b.length=a.length then some (fZ a b ρ)else none
 |_=>none
def cR(c:D->aF->Option aF)(src:Src)(b:SM):Nat->Nat->SM
 |0,_,_,_=>.bad
 |f+1,i,ρ,Ω=>match fS src Ω with
  |none=>.bad
  |some ds=>match ds[i]? with
   |none=>.nx ρ Ω
   |some d=>match c d ρ with
    |none=>.bad
    |some e=>match b e Ω with
     |.nx a az=>cR c src b f (i+1) a az
     |.ct a az=>cR c src b f (i+1) a az
     |.bk a az=>.nx a az
     |r=>r
def cS(a:D->aF->Option aF)(mi:IM)(b:SM):SM:=λd e=>cE (mi d e) λs c=>cR a s b fuel 0 d c
def yf(e:List Nat)(m:EM):SM:=λc f=>cE (m c f) λd a=>match kd e d c with
 |some b=>.nx b a
 |none=>.bad
section
variable{X:Cx}{κ:Str->Addr->Prop}{Φ:dA}{α α' eB α1:List Addr}{Z Z' Z0 Z1:Addr->Prop}{Ω az:av}{H H' H0 H1:Hp}{ρ:aF}{σ:L2.St}{E:Ends}{a b e ce o tg:Expr}{st:Stmt}{rest ta tb:List Stmt}{m:EM}{mi:IM}{ca cb:SM}{pos pos':Pos}
theorem bG.set(S:bG κ eB Z0 H0 α Z Ω ρ σ H){d:D}{v:V}(r:aj α Z H d v)(i:Nat):bG κ eB Z0 H0 α Z Ω (ρ.set i (some d)) (σ.set i (some v)) H:=by
 refine⟨S.st,S.gr,by simp[S.len],λj c h=>?_⟩
 by_cases a:i=j
 .subst a
  have b:i<ρ.length:=by
   have:=(List.getElem?_eq_some_iff.mp h).1;simpa using this
  rw[List.getElem?_set_self b]at h;cases h;exact⟨v,by rw[List.getElem?_set_self (by rw[S.len];exact b)],r⟩
 .rw[List.getElem?_set_ne a]at h ⊢
  exact S.val j c h
theorem ej.use{r:ak D}{k:D->av->eG}{Q:VK}(S:bG κ eB Z0 H0 α Z Ω ρ σ H)(f:ej κ Φ eB Z0 H0 E (cE r k))(h:∀d b v c a e,r=.ok d b->bq α Z H a e c->bG κ eB Z0 H0 a e b ρ σ c->aj a e c d v->ej κ Φ eB Z0 H0 E (k d b)->Q v c):ba κ Φ α Z H r Q:=by
 cases r with
 |ok d b=>exact λv c a e g s q=>h d b v c a e rfl g (S.grow g s) q f
 |exc x b=>exact λc a e g s=>f c a e (S.gr.trans g) s
 |bad=>exact f
theorem ej.Bo{r:ak Bool}{k:Bool->av->eG}{Q:Bool->Hp->Prop}(S:bG κ eB Z0 H0 α Z Ω ρ σ H)(f:ej κ Φ eB Z0 H0 E (cE r k))(h:∀t a c b e,r=.ok t a->bq α Z H b e c->bG κ eB Z0 H0 b e a ρ σ c->ej κ Φ eB Z0 H0 E (k t a)->Q t c):jD κ Φ α Z H r Q:=by
 cases r with
 |ok d a=>exact λc b e g s=>h d a c b e rfl g (S.grow g s) f
 |exc x a=>exact λc b e g s=>f c b e (S.gr.trans g) s
 |bad=>exact f
theorem fT.ex{c:Type}{t:c->TS}{a:List Stmt}(h:∀i,fT X a (t i)):fT X a (λD b H=>∃i,t i D b H):=λpins s b H D I ⟨i,q⟩=>h i pins s b H D I q
theorem sM:kc X κ Φ [] au:=by
 intro a d e g h;refine fT.imp qL ?_;rintro E b H ⟨c,Z,S,f⟩;exact f b H c Z S
theorem pB(k:nz X κ Φ st ca)(l:kc X κ Φ rest cb):kc X κ Φ (st::rest) (aq ca cb):=by
 intro c g h i j;refine fT.imp (nV (k c g h i j) (fT.ex λp:aF×av=>l c g h p.1 p.2)) ?_
 rintro E s H ⟨m,Z,S,f⟩;refine⟨m,Z,S,?_⟩;simp only[aq]at f;cases q:ca i j with
 |nx b a=>rw[q]at f;exact λn t e o r=>⟨(b,a),e,o,r,f⟩
 |bk b a=>rw[q]at f;exact f
 |ct b a=>rw[q]at f;exact f
 |rt d a=>rw[q]at f;exact f
 |exc x a=>rw[q]at f;exact f
 |bad=>rw[q]at f;exact f.elim
theorem sN(h:aQ X κ Φ e m):nz X κ Φ (.Return (some e) pos) (a_ m):=by
 intro a i j k l;refine PS.imp (uY (h a i j k l)) ?_;rintro E t H ⟨n,Z,S,f⟩;exact⟨n,Z,S,ej.use S f λd o v p b q _ g c r s=>s v p b q c.gr c.st r⟩
theorem sO{i:Nat}{x:Str}(c:X.N.Nodup)(j:X.N[i]?=some x)(k:Loc X.env.scope x)(l:X.fn x=true\/X.env.scope.names.lookup x=some .local)(n:swapsWith e (some (.Name x pos')) pos.line X.env=pure false)(h:aQ X κ Φ e m) :
  nz X κ Φ (.Assign [.Name x pos'] e pos) (aK i m):=by
 intro a o p q s;refine PS.imp (u5 c j k (h a o p q s) n l) ?_;rintro E B H ⟨t,Z,S,f⟩;exact⟨t,Z,S,ej.use S f λd u v w b y _ g z r A=>A _ w b y (z.set r i)⟩
theorem pC{i:Nat}{x:Str}{k iter p:Expr}{l:List Expr}{scope:Scope}{tn q:List Str}{cap:List Nat}{g:TG}(I:X.N.Nodup)(J:X.N[i]?=some x)(K:X.env.scope.names.lookup x=some .local)
  (s:swapsWith (.ListComp k [⟨p,iter,l,0⟩] scope pos) (some (.Name x pos')) pos'.line X.env=pure true) (L:X.calm=true) (B:fE X scope tn q cap) (M:∀x,foldedSetIterable iter X.env x=pure x)
  (t:∀v c H Q,g v c H Q->g v c H λn O=>Q n O/\n.length=c.length/\∀j,tn.length<=j->n[j]?=c[j]?)
  (h:∀o u w ρ Ω,∃y z A,PI X p iter y/\(∀D C a b F,PG (blk X scope D C (tn++q) a b F) p g/\rp (blk X scope D C (tn++q) a b F) l z/\PE (blk X scope D C (tn++q) a b F) k A) /\
   ∀c H Q,tO κ Φ o u w m ρ Ω c H Q->ip y tn.length cap g z A c H Q) {e:Pos} (P:e.line=pos'.line) :
  nz X κ Φ (.Assign [.Name x pos'] (.ListComp k [⟨p,iter,l,0⟩] scope pos) e) (aK i m):=by
 intro o u w ρ Ω;obtain⟨y,z,A,R,T,U⟩:=h o u w ρ Ω;refine PS.imp (kS I J K (by rw[P];exact s) L B R M t T) ?_
 rintro E c H ⟨V,Z,S,f⟩;exact U c H _ ⟨V,Z,S,ej.use S f λd Y v H1 G Z1 _ g S1 r f1=>f1 _ H1 G Z1 (S1.set r i)⟩
theorem sP(c:swapsWith e none pos.line X.env=pure false)(h:aQ X κ Φ e m):nz X κ Φ (.Expr e pos) (gS m):=by
 intro a i j k l;refine PS.imp (qM (h a i j k l) c) ?_;rintro E u H ⟨n,Z,S,f⟩;exact⟨n,Z,S,ej.use S f λd o v p b q _ g s r t=>t _ p b q s⟩
theorem vP(n:ee X κ Φ e m)(o:kc X κ Φ ta ca)(p:kc X κ Φ tb cb):nz X κ Φ (.If e ta tb pos) (dF m ca cb):=by
 intro b h i j q;refine PS.imp (w_ (n b h i j q) (fT.ex λa=>o b h i j a) (fT.ex λa=>p b h i j a)) ?_
 rintro E s H ⟨r,Z,S,f⟩;refine⟨r,Z,S,ej.Bo S f λt a u c k _ g l d=>?_⟩
 cases t with
 |true=>rw[if_pos rfl]at d;exact kM ⟨a,c,k,l,d⟩
 |false=>rw[if_neg Bool.false_ne_true]at d;exact kL ⟨a,c,k,l,d⟩
theorem nA:nz X κ Φ st jk:=λa b c d e pins s g H E I ⟨h,Z,S,f⟩=>f.elim
def pD(κ:Str->Addr->Prop)(e:D->aF->Option aF)(g:TG):Prop:=
 ∀(d:D) (x:V) a h i f Z j l b m H (k:L2.St->Hp->Prop),bG κ a h i f Z j l m H->aj f Z H d x->e d l=some b->(∀c,bG κ a h i f Z j b c H->k c H)->g x m H k
theorem mq{p:D->aF->Option aF}{g:TG}(hp:PassesOwn (model X.prog X.w) X.A X.env X.xe)(hc:X.calm=true)(hi:pv X κ Φ tg e mi)(hg:PG X tg g)(a0:pD κ p g)(hb:kc X κ Φ tb cb)(hs:∀x,foldedSetIterable e X.env x=pure x):nz X κ Φ (.For tg e tb [] pos) (cS p mi cb):=by
 intro j C F B M;have b0:fT X tb (λD Q H=>∃a n t c h,ye κ Φ a n t cb c h D Q H):=λpins s Q H D I ⟨a,n,t,c,h,q⟩=>hb a n t c h pins s Q H D I q
 refine PS.imp (u6 hp hc (hi j C F B M) hg b0 hs) ?_;rintro E Q H ⟨α,Z,S,f⟩;refine⟨α,Z,S,?_⟩;simp only[cS]at f;cases qi:mi B M with
 |exc x N=>rw[qi]at f;exact λt a n g s=>f t a n (S.gr.trans g) s
 |bad=>rw[qi]at f;exact f.elim
 |ok G N=>
  rw[qi]at f;have f:ej κ Φ j C F E (cR p G cb fuel 0 B N):=f;intro J t a n g1 s1 w1;have S1:=S.grow g1 s1;refine⟨λi f Q H=>∃k R B M,bG κ j C F k R M B Q H/\bq a n t k R H/\ej κ Φ j C F E (cR p G cb f i B M),⟨fuel,a,n,B,N,S1,bq.refl s1.has,f⟩,?_⟩
  rintro i f T H2 ⟨k,R,U,u,S2,g2,b⟩;cases f with
  |zero=>exact b.elim
  |succ f=>
   simp only[cR]at b;cases qs:fS G u with
   |none=>rw[qs]at b;exact b.elim
   |some ds=>
    rw[qs]at b;dsimp only at b;obtain⟨d0,e0⟩:=w1 k R u H2 ds g2 S2.st qs;cases Y:ds[i]? with
    |none=>
     rw[Y]at b;exact .inl ⟨e0 i (List.getElem?_eq_none_iff.mp Y),b T H2 k R S2⟩
    |some d=>
     rw[Y]at b;dsimp only at b;obtain⟨f0,g0⟩:=d0 i d Y;cases qp:p d U with
     |none=>rw[qp]at b;exact b.elim
     |some K=>
      rw[qp]at b;dsimp only at b;refine .inr ⟨f0,λl o=>∃z O B M,bG κ j C F z O M B l o/\bq a n t z O o/\ej κ Φ j C F E (cR p G cb f (i+1) B M),λl o q=>⟨f,Nat.lt_succ_self f,q⟩,λx H3 yl=>?_⟩
      obtain⟨O,g3,s3,rx⟩:=g0 x H3 yl;have S3:=S2.grow g3 s3;refine a0 d x j C F k O u U K T H3 _ S3 rx qp λh0 S4=>?_
      have base:bq j C F a n t:=S1.gr;have gL:bq a n t k O H3:=g2.trans g3;have S5:bG κ a n t k O u K h0 H3:=⟨S4.st,gL,S4.len,S4.val⟩;have P:∀{z Z4 V c l o},bG κ a n t z Z4 V c l o->bG κ j C F z Z4 V c l o:=λy=>⟨y.st,base.trans y.gr,y.len,y.val⟩
      refine⟨a,n,t,K,u,k,O,S5,?_⟩;cases q:cb K u with
      |nx c h=>rw[q]at b;exact λl o m L y=>⟨m,L,c,h,P y,y.gr,b⟩
      |ct c h=>rw[q]at b;exact λl o m L y=>⟨m,L,c,h,P y,y.gr,b⟩
      |bk c h=>rw[q]at b;exact λl o m L y=>b l o m L (P y)
      |rt d h=>rw[q]at b;exact λv o m L g s r=>b v o m L (base.trans g) s r
      |exc x h=>rw[q]at b;exact λo m L g s=>b o m L (base.trans g) s
      |bad=>rw[q]at b;exact b.elim
theorem vQ(i:Nat):pD κ (bD i) (ek i):=λd x a c f g Z j l b m H k S r e h=>by
 cases e;exact h _ (S.set r i)
theorem gT:∀(a:List Nat) (ds:List D) (vs:List V) {ρ:aF}{b:L2.St},aE (aj α Z H) ds vs->ds.length=a.length->bG κ eB Z0 H0 α Z Ω ρ b H->∀(k:L2.St->Hp->Prop),(∀c,bG κ eB Z0 H0 α Z Ω (fZ a ds ρ) c H->k c H)->fv a vs b H k
 |[],[],vs,ρ,b,r,_,S,k,h=>by rw[r.nil_inv];exact⟨rfl,h b S⟩
 |i::a,d::ds,vs,ρ,b,r,e,S,k,h=>by
  obtain⟨v,ws,rfl,f,g⟩:=r.cons_inv;exact⟨v,ws,rfl,gT a ds ws g (by simpa using e) (S.set f i) k h⟩
 |[],_::_,_,_,_,_,e,_,_,_=>by simp at e
 |_::_,[],_,_,_,_,e,_,_,_=>by simp at e
theorem pE{K:PySem.W.Frag}(b:List Nat):pD κ (kd b) (qO K b.length (fv b)):=λd x i n o p Z q s j t H k S r e h=>by
 cases d with
 |tup l=>
  simp only[kd]at e;split at e
  .rename_i c
   cases e;obtain⟨a,f,rfl,_,m,g⟩:=dv r;exact⟨a,f,rfl,nP (.inl m),by rw[g.length];exact c,gT b l f g c S k h⟩
  .cases e
 |_=>cases e
theorem sQ{es:List Expr}{j:Nat}{p pos:Pos}{c:List Nat}(x:PG X (.Tuple es j p) (qO X.K c.length (fv c)))(o:oQ e=true)(h:aQ X κ Φ e m):nz X κ Φ (.Assign [.Tuple es j p] e pos) (yf c m):=by
 intro a q s t y;refine PS.imp (u4 (h a q s t y) x (by cases e<;>first|rfl | (cases o)) (by cases e<;>first|rfl | (cases o))) ?_
 rintro E z H ⟨A,Z,S,f⟩;refine⟨A,Z,S,ej.use S f λd i v u b w _ g B r k=>?_⟩
 split at k
 .rename_i l C
  exact pE (K:=X.K) c d v a q s b w i t l z u _ B r C λn D=>k n u b w D
 .exact k.elim
end
abbrev bE:=List D->av->ak D
def b8(κ:Str->Addr->Prop)(F:bE):Sp:=λd H Q _=>∃a Z b c,aX κ a Z b H/\aE (aj a Z H) c d/\ba κ eF a Z H (F c b) Q
noncomputable def zN{a:Type}(r:ak a):ak a:=match r with
 |.ok d b=>.ok d b
 |_=>.bad
def aH(F:bE):bE:=λa b=>zN (F a b)
structure pF(X:Cx)(κ:Str->Addr->Prop)(k:Nat)(x:Str)(F:bE):Prop where
 ex:∃(f:Addr) (fd:FuncData) (ps:List Str),X.mg x=some (.ref f)/\PySem.W.keepIn X.K (.ref f)=true/\Binds X.K fd ps []/\bO X.prog X.w X.K X.mg X.base dt k f fd ps (b8 κ F)
noncomputable def vR(Ω:av):D->Option (Nat×Str×List (Str×D))
 |.ref k=>match Ω[k]? with
  |some (.ins C fs)=>some (k,C,fs)
  |_=>none
 |_=>none
def sR(a:List Str)(f:Str)(x:D)(Ω:av):ak D:=match vR Ω x with
 |some (_,C,b)=>if a.contains C then (match b.lookup f with
  |some d=>.ok d Ω
  |none=>.bad)else .bad
 |none=>.bad
section
variable{X:Cx}{κ:Str->Addr->Prop}{Φ:dA}{α α' eB α1:List Addr}{Z Z' Z0 Z1:Addr->Prop}{Ω az:av}{H H' H0 H1:Hp}{ρ:aF}{σ:L2.St}{Q:VK}{E:Ends}{a b e ce o tg:Expr}{es:List Expr}{st:Stmt}{rest ta tb:List Stmt}{m mo mv ma md mk:EM}{as:AM}{ca cb:SM}{pos pos' p apos:Pos}{F:bE}{C:Str}
theorem ba.ok0{r:ak D}(h:ba κ Φ α Z H (zN r) Q):ba κ eF α Z H r Q:=by
 cases r with
 |ok d a=>exact h
 |exc x a=>exact h.elim
 |bad=>exact h
theorem pG{k:Nat}{x:Str}(F0:pF X κ k x F)(i:bF k X.A)(j:Gl X x)(a:(x==("__debug__":Str))=false)
  (l:starEach (e::es) X.env=(false,eval e X.env)::starEach es X.env) (b:(backTo pos (starEach es X.env)).any (·.1)=false) (m:k7 X κ Φ (e::es) as) :
  aQ X κ Φ (.Call (.Name x p) (e::es) [] pos) (mN (aH F) as):=by
 obtain⟨f,J,K,n,o,q,r⟩:=F0.ex;intro c s t u w;refine PE.imp (iU r i j n o q .nil lO (m c s t u w) a l b) ?_;rintro L H Q ⟨y,Z,S,g⟩;refine⟨y,Z,S,j3.use g λz d _ B C h D M E G I=>?_⟩
 show b8 κ F (B++[]) C Q E0
 rw[List.append_nil];exact⟨h,D,d,z,E,G,ba.ok0 I⟩
theorem nB{k:Nat}{x:Str}(F0:pF X κ k x F)(b:bF k X.A)(c:Gl X x)(a:(x==("__debug__":Str))=false):aQ X κ Φ (.Call (.Name x p) [] [] pos) (mN (aH F) ag):=by
 obtain⟨f,n,o,d,e,h,i⟩:=F0.ex;intro j q r s l;refine PE.imp (n_ i b c d e h .nil lO a) ?_;rintro t H Q ⟨m,Z,S,g⟩;exact⟨m,Z,l,[],S.st,.nil,ba.ok0 g⟩
theorem gU{R:D->V->Prop}{f:Str}:∀{fs:List (Str×D)}{a:List (Str×V)},jc R fs a->(∀d,fs.lookup f=some d->∃v,a.lookup f=some v/\R d v)/\(fs.lookup f=none->a.lookup f=none):=by
 intro fs a h;unfold jc at h
 induction h with
 |nil=>exact⟨λd e=>(by cases e),λ_=>rfl⟩
 |@cons p q i j r t b=>
  obtain⟨c,g⟩:=r;obtain⟨k,d⟩:=p;obtain⟨l,v⟩:=q;cases c;rw[List.lookup_cons,List.lookup_cons];cases f==k with
  |true=>exact⟨λm e=>by cases e;exact⟨v,rfl,g⟩,λe=>by cases e⟩
  |false=>exact b
theorem pH{x:D}{v:V}{k:Nat}{C:Str}{fs:List (Str×D)}(S:aX κ α Z Ω H)(r:aj α Z H x v)(h:vR Ω x=some (k,C,fs)):∃a d e b,v=.ref a/\x=.ref k/\α[k]?=some a/\κ C d/\H a=some (.ins d e b)/\jc (aj α Z H) fs b:=by
 cases x with
 |ref n=>
  simp only[vR]at h;split at h
  .rename_i m b g
   cases h;simp only[aj]at r;obtain⟨a,f,rfl⟩:=r;obtain⟨o,c,d,e,b,i,j,l⟩:=S.cell g;rw[f]at c;cases c;exact⟨a,d,e,b,rfl,rfl,f,i,j,l⟩
  .cases h
 |_=>cases h
def lh(K:PySem.W.Frag)(κ:Str->Addr->Prop)(b:List Str)(f:Str):Prop:=∀C a,b.contains C=true->κ C a->qV K a/\bN K a f
theorem sS{f:Str}{h:List Str}(j:lh X.K κ h f)(l:attributeBase o f X.env (eval o X.env)=eval o X.env)(m:aQ X κ Φ o mo):aQ X κ Φ (.Attribute o f pos) (m1 (sR h f) mo):=
 ef (r:=λx H Q=>∃a C b c v,x=.ref a/\H a=some (.ins C b c)/\qV X.K C/\bN X.K C f/\c.lookup f=some v/\Q v H) (λB n=>vf n l) m λb x D Z E H Q S p g=>by
  unfold sR at g;split at g
  .rename_i k C c q
   obtain⟨a,i,b,e,rfl,_,_,s,t,u⟩:=pH S p q;split at g
   .rename_i w
    obtain⟨c1,c2⟩:=j C i w s;split at g
    .rename_i d y
     obtain⟨v,z,A⟩:=(gU u).1 d y;exact⟨a,i,b,e,v,rfl,t,c1,c2,z,ba.ret S A g⟩
    .exact g.elim
   .exact g.elim
  .exact g.elim
structure yg(X:Cx)(κ:Str->Addr->Prop)(k:Nat)(C m:Str)(F:bE):Prop where
 ex:∃(Ca f:Addr) (fd:FuncData) (ps:List Str),(∀a,κ C a->a=Ca)/\qV X.K Ca/\Meth X.K Ca m f/\Binds X.K fd ps []/\bO X.prog X.w X.K X.mg X.base dt k f fd ps (b8 κ F)
structure yh(X:Cx)(κ:Str->Addr->Prop)(k:Nat)(C:Str)(F:bE):Prop where
 ex:∃(Ca f:Addr) (fd:FuncData) (ps:List Str),κ C Ca/\Mk X.K Ca f/\X.mg C=some (.ref Ca)/\Binds X.K fd ps []/\bO X.prog X.w X.K X.mg X.base dt k f fd ps (b8 κ F)
noncomputable def cm(n:Nat)(ds:List D):aF:=ds.map some++List.replicate (n - ds.length) none
noncomputable def bX:eG->ak D
 |.rt d Ω=>.ok d Ω
 |.nx _ Ω=>.ok .non Ω
 |.exc x Ω=>.exc x Ω
 |_=>.bad
def cD(n k:Nat)(c:SM):bE:=λa b=>if a.length=k then bX (c (cm n a) b)else .bad
theorem gW{ds:List D}{vs:List V}{N:List Str}(S:aX κ α Z Ω H)(r:aE (aj α Z H) ds vs):bG κ α Z H α Z Ω (cm N.length ds) (L2.start N vs) H where
 st:=S
 gr:=bq.refl S.has
 len:=by simp[cm,L2.start,r.length]
 val:=λi d a=>by
  unfold cm at a
  by_cases h:i<ds.length
  .rw[List.getElem?_append_left (by simpa using h),List.getElem?_map]at a
   obtain⟨g,b,c⟩:=Option.map_eq_some_iff.mp a;cases c;obtain⟨v,e,f⟩:=r.get b;refine⟨v,?_,f⟩;unfold L2.start;rw[List.getElem?_append_left (by simpa[r.length]using h),List.getElem?_map,e]
   rfl
  .rw[List.getElem?_append_right (by simpa using h),List.getElem?_replicate]at a
   split at a<;>cases a
end
structure ke(P:Program)(w:World)(K:PySem.W.Frag)(mg:Str->Option Value)(base:Heap)(κ:Str->Addr->Prop)(k:Nat)(j:Nat)(F:List D->bE):Prop where
 run:∀(X:Cx) (f:Addr) (vs:List V) (σ:L2.St) (H:Hp) (Q:VK) (α:List Addr) (Z:Addr->Prop) (Ω:av) (jb ds:List D) (n:Nat),X.prog=P->X.w=w->X.K=K->X.mg=mg->X.base=base->bF k X.A ->
  aX κ α Z Ω H->α[n]?=some f->Ω[n]?=some (.fn j jb)->aE (aj α Z H) ds vs->ba κ eF α Z H (F jb ds Ω) Q->x5 X f vs σ H Q
theorem ke.mono{P:Program}{w:World}{K:PySem.W.Frag}{a:Str->Option Value}{base:Heap}{κ:Str->Addr->Prop}{k b j:Nat}{F:List D->bE}(h:ke P w K a base κ k j F)(c:k<=b):ke P w K a base κ b j F:=
 ⟨λX f d e H Q g Z i jb l n m o p q r s=>h.run X f d e H Q g Z i jb l n m o p q r (s.mono c)⟩
def DG(M:List (List D->bE))(n:Nat)(xs:List D)(Ω:av):ak D:=match Ω[n]? with
 |some (.fn j jb)=>match M[j]? with
  |some F=>aH (F jb) xs Ω
  |none=>.bad
 |_=>.bad
noncomputable def isFn(Ω:av)(n:Nat):Bool:=match Ω[n]? with
 |some (.fn _ _)=>true
 |_=>false
def vS(M:List (List D->bE))(i:Nat)(d:AM):EM:=λb c=>match b[i]? with
 |some (some (.ref n))=>if isFn c n=true then (d b c).bind λe a=>DG M n e a else .bad
 |_=>.bad
section
variable{X:Cx}{κ:Str->Addr->Prop}{Φ:dA}{α α' eB:List Addr}{Z Z' Z0:Addr->Prop}{Ω az:av}{H H' H0:Hp}{ρ:aF}{σ:L2.St}
end
def en(C:Str):List (Str×EM)->aF->List (Str×D)->av->ak D
 |[],_,fs,Ω=>.ok (.ref Ω.length) (Ω++[.xc C fs])
 | (f,m)::r,ρ,fs,Ω=>(m ρ Ω).bind λd a=>en C r ρ (fs++[(f,d)]) a
noncomputable def wO:ak D->ak D
 |.ok d Ω=>.ok d Ω
 |_=>.bad
def eo(C:Str)(n:Nat)(ms:List (Str×EM)):bE:=λa b=>if a.length=n then wO (en C ms (none::a.map some) [] b)else .bad
structure f7(P:Program)(w:World)(K:PySem.W.Frag)(mg:Str->Option Value)(base:Heap)(κ:Str->Addr->Prop)(k:Nat)(C:Str)(F:bE):Prop where
 ex:∃(Ca N0 f c:Addr) (fd:FuncData) (st:Stmt) (qual sf:Str) (ps:List Str) (rs:List eW) (ms:List EM),o7 K mg Ca N0 f c fd st qual sf ps rs/\mg C=some (.ref Ca)/\κ C Ca/\F=eo C ps.length ((rs.map (·.fld)).zip ms)/\ms.length=rs.length /\
  ∀(A':Around) (ot:List Env) (s':Shared) (e:Addr) (H1:Hp) (E':XK),bF k (A'.deeper (envOfC qual (ai st) s'.heap.objs.size f (.ref c)))->∀p∈rs.zip ms,aQ ((c5 dt P w K mg base (sf::ps) qual (ai st) f (.ref c) A' ot s' H1 E').h8.mk1 e) κ eF p.1.ve p.2
section
variable{X:Cx}{κ:Str->Addr->Prop}{Φ:dA}{α α' α2:List Addr}{Z Z' Z2:Addr->Prop}{Ω az:av}{H H' H2 H3:Hp}{dd e:Addr}{C:Str}{F:bE}{k:Nat}
theorem aX.chX{o:HO}(S:aX κ α Z Ω H)(k:dd∉α)(i:¬ Z dd)(l:∀o u,H dd≠some (.eK o u))(A:H dd≠none):aX κ α Z Ω (upd H dd o):=by
 have m:∀d v,aj α Z H d v->aj α Z (upd H dd o) d v:=λd v r=>r.mono (λ_ _ q=>q) (λa B z q=>by rw[ao (λw=>i (by rw[←w];exact z))];exact q) λ_ z=>z
 refine⟨S.ku,?_,S.sep,λa e=>?_⟩
 .have h:∀{g:List Cell}{f:List Addr},(∀a∈f,a≠dd)->aE (λc a=>di κ (aj α Z H) H a c) g f->aE (λc a=>di κ (aj α Z (upd H dd o)) (upd H dd o) a c) g f:=by
   intro g f j n
   induction n with
   |nil=>exact .nil
   |@cons c1 p g f r t s=>
    refine .cons (r.imp m (λu q=>?_) λb x y q=>?_) (s λa e=>j a (List.mem_cons_of_mem _ e))
    .rw[ao (j p (by simp))];exact q
    .rw[ao (λw=>l x y (by rw[←w];exact q))];exact q
  exact h (λa e w=>k (by rw[←w];exact e)) S.nQ
 .by_cases q:a=dd
  .subst q;exact absurd e i
  .rw[ao q];exact S.dom a e
theorem bq.chX{o:HO}(g:bq α Z H α' Z' H')(c:H dd=Option.none)(d:dd∉α'):bq α Z H α' Z' (upd H' dd o):=
 ⟨g.pre,g.sub,g.new,g.qE,λa u q b=>by rw[ao (λw=>by rw[w,c]at q;cases q)];exact g.frm a u q b,λa b=>by
  have:a≠dd:=λw=>by
   obtain⟨n,e⟩:=List.mem_iff_getElem?.mp b;exact d (by rw[←w];exact List.mem_of_getElem? (g.pre n a e))
  rw[ao this];exact g.has a b⟩
structure XSim(κ:Str->Addr->Prop)(α:List Addr)(Z:Addr->Prop)(H:Hp)(od:Option Addr)(fs:List (Str×V))(fd:List (Str×D))(α2:List Addr)(Z2:Addr->Prop)(Ω:av)(H2:Hp):Prop where
 st:aX κ α2 Z2 Ω H2
 gr:bq α Z H α2 Z2 H2
 kv:jc (aj α2 Z2 H2) fd fs
 DH:od=none->fs=[]
 zO:∀dd,od=some dd->H2 dd=some (.xd fs)/\dd∉α2/\¬ Z2 dd/\H dd=none
theorem jc.app{R:D->V->Prop}{f:Str}{d:D}{v:V}{a:List (Str×D)}{fs:List (Str×V)}(h:jc R a fs)(r:R d v):jc R (a++[(f,d)]) (fs++[(f,v)]):=aE.append h (.one ⟨rfl,r⟩)
theorem gX{lo:Addr}{ρ:aF}{K:L2.St}{Q:VK}(R:aX κ α Z az H)(E:K.length=ρ.length)(S:∀(i:Nat) (d:D),ρ[i]?=some (some d)->∃v,K[i]?=some (some v)/\aj α Z H d v){eA:Option Addr->List (Str×V)->Hp->Prop}{Nm:List Str}
  (T:∀od fs k c l b s,fs.map (·.1)=Nm->XSim κ α Z H od fs k c l b s->ba κ eF α Z H (.ok (.ref b.length) (b++[.xc C k])) Q->eA od fs s) :
  ∀(rs:List (Str×EM)) (od:Option Addr) (fs:List (Str×V)) (k:List (Str×D)) (c:List Addr) (l:Addr->Prop) (b:av) (s:Hp),fs.map (·.1)++rs.map (·.1)=Nm->XSim κ α Z H od fs k c l b s->ba κ eF α Z H (en C rs ρ k b) Q ->
   iz e lo (rs.map λr=>(r.1,λK M Q'=>∃F,tO κ eF α Z H r.2 ρ F K M Q')) od fs K s eA
 |[],od,fs,k,c,l,b,s,N,x,g=>T od fs k c l b s (by simpa using N) x g
 | (f,m)::rs,od,fs,k,c,l,b,s,N,x,g=>by
  have t:bG κ α Z H c l b ρ K s:=⟨x.st,x.gr,E,λi d hi=>let ⟨v,h1,h2⟩:=S i d hi;⟨v,h1,R.bW x.gr h2⟩⟩
  replace g:ba κ eF α Z H ((m ρ b).bind λd F=>en C rs ρ (k++[(f,d)]) F) Q:=g
  cases q:m ρ b with
  |bad=>rw[q]at g;exact g.elim
  |exc z n=>
   rw[q]at g;have:=g s c l x.gr;cases od with
   |none=>exact⟨b,c,l,t,by dsimp only;rw[q];exact λM G U X=>g M G U (x.gr.trans X)⟩
   |some j=>exact⟨b,c,l,t,by dsimp only;rw[q];exact λM G U X=>g M G U (x.gr.trans X)⟩
  |ok d n=>
   rw[q]at g;replace g:ba κ eF α Z H (en C rs ρ (k++[(f,d)]) n) Q:=g;cases od with
   |none=>
    cases x.DH rfl;refine⟨b,c,l,t,?_⟩;dsimp only;rw[q];intro v L h B y I Y j A a0 b0;obtain⟨O,P⟩:=I.o8 (p:=j) (o:=.xd [(f,v)]) A False;simp only[if_false]at O P;have kv:jc (aj h B (upd L j (.xd [(f,v)]))) (k++[(f,d)]) [(f,v)]:=jc.app (fs:=[]) (x.kv.imp λd v r=>I.bW P (x.st.bW y r)) (I.bW P Y)
    exact gX R E S T rs (some j) [(f,v)] (k++[(f,d)]) h B n _ (by simpa using N) ⟨O,(x.gr.trans y).trans P,kv,λz=>(nomatch z),λd' z=>by
     cases z;exact⟨aI,λJ=>I.has _ J A,λJ=>I.dom _ J A,(x.gr.trans y).none A⟩⟩ g
   |some j=>
    obtain⟨o1,o2,o3,o4⟩:=x.zO j rfl;refine⟨b,c,l,t,?_⟩;dsimp only;rw[q];intro v L h B y I Y;have h3:L j=some (.xd fs):=y.frm j _ o1 o2
    have n1:j∉h:=λJ=>by
     rcases y.qE j J with z|z
     .exact o2 z
     .rw[o1]at z;cases z
    have n2:¬ B j:=λJ=>by
     rcases y.new j J with z|z
     .exact o3 z
     .rw[o1]at z;cases z
    have O:aX κ h B n (upd L j (.xd (fs++[(f,v)]))):=I.chX n1 n2 (λo u z=>by rw[h3]at z;cases z) (by rw[h3];simp)
    have mv:∀d v',aj h B L d v'->aj h B (upd L j (.xd (fs++[(f,v)]))) d v':=λd v' r=>r.mono (λ_ _ q=>q) (λa ob z q=>by rw[ao (λw=>n2 (by rw[←w];exact z))];exact q) λ_ z=>z
    refine⟨h3,gX R E S T rs (some j) _ (k++[(f,d)]) h B n _ (by simpa using N) ⟨O,(x.gr.trans y).chX o4 n1,?_,λz=>(nomatch z),λd' z=>?_⟩ g⟩
    .exact jc.app (x.kv.imp λd v r=>mv _ _ (x.st.bW y r)) (mv _ _ Y)
    .cases z
     exact⟨aI,n1,n2,o4⟩
end
end Mir
namespace L2
open PySem PySem.Spec PyProof.Rows
section
variable{X:Cx}{e C N fI d:Addr}{oe:Obj}
theorem lj{a:Str}{r:Pos}{u:Value}(b:Gl X a)(c:X.mg a=some u)(d:(a==("__debug__":Str))=false):ja X (a,r) u:=λE pins s e H Q I q=>dq I b c q d
theorem ll{a:Str}{r:Pos}{u:Value}(b:Gl X a)(c:X.mg a=none)(d:bootBuiltins a=some u)(e:a≠"__name__")(f:(a==("__debug__":Str))=false):ja X (a,r) u:=λE pins s g H Q I q=>eu I b c d q e f
end
end L2
namespace Mir
open PySem PySem.Spec PyProof.Rows L2
variable [aA]
def rX(κ:Str->Addr->Prop)(F:bE):List V->Hp->VK->Prop:=λd H Q=>∃a Z b c,aX κ a Z b H/\aE (aj a Z H) c d/\ba κ eF a Z H (F c b) Q
section
variable{X:Cx}{κ:Str->Addr->Prop}{Φ:dA}{α α' α2:List Addr}{Z Z' Z2:Addr->Prop}{Ω az vM:av}{H H' H2 H3:Hp}{dd e:Addr}{C:Str}{F:bE}{k:Nat}
theorem XSim.laid{od:Option Addr}{fs:List (Str×V)}{K:List (Str×D)}{E:Addr}(x:XSim κ α Z H od fs K α2 Z2 vM H2)(F:κ C E)(ha:rP H3 e E fs)(G:H2 e=none)(i:∀b,b≠e->od≠some b->H3 b=H2 b)(N:∀s,od=some s->H2 s=some (.xd fs)/\s≠e/\H3 s≠none)(L:H e=none) :
  aX κ (α2++[e]) Z2 (vM++[.xc C K]) H3/\bq α Z H (α2++[e]) Z2 H3:=by
 have S:=x.st;have g:∀a∈α2,a≠e:=λa ha w=>S.has a ha (w▸G)
 have h:∀a,Z2 a->a≠e:=λa f w=>S.dom a f (w▸G)
 have j:∀a∈α2,od≠some a:=λa ha w=>(x.zO a w).2.1 ha
 have k:∀a,Z2 a->od≠some a:=λa f w=>(x.zO a w).2.2.1 f
 have l:∀(n:Nat) (a:Addr),α2[n]?=some a->(α2++[e])[n]?=some a:=λn a q=>by rw[List.getElem?_append_left (List.getElem?_eq_some_iff.mp q).1];exact q
 have M:∀d v,aj α2 Z2 H2 d v->aj (α2++[e]) Z2 H3 d v:=λd v r=>r.mono l (λa o z q=>by rw[i a (h a z) (k a z)];exact q) λ_ z=>z
 obtain⟨O,t,u,P,Q⟩:=id ha;refine⟨⟨?_,?_,λa ha f=>?_,λa f=>by rw[i a (h a f) (k a f)];exact S.dom a f⟩,⟨λn a q=>l n a (x.gr.pre n a q),x.gr.sub,x.gr.new,λa hm=>?_,λa o q I=>?_,λa hm=>?_⟩⟩
 .refine List.nodup_append.mpr ⟨S.ku,by simp,λa ha b R=>?_⟩
  rw[List.mem_singleton.mp R];exact g a ha
 .refine aE.append ?_ (.one ⟨E,fs,F,ha,x.kv.imp M⟩)
  have J:∀{y:List Cell}{m:List Addr},(∀a∈m,a∈α2)->aE (λc a=>di κ (aj α2 Z2 H2) H2 a c) y m->aE (λc a=>di κ (aj (α2++[e]) Z2 H3) H3 a c) y m:=by
   intro y m A T
   induction T with
   |nil=>exact .nil
   |@cons c1 B y m r t U=>
    have hm:=A B (by simp)
    refine .cons (r.imp M (λu q=>?_) λb Y u' q=>?_) (U λa ha=>A a (List.mem_cons_of_mem _ ha))
    .rw[i B (g B hm) (j B hm)];exact q
    .rw[i b (λw=>by rw[w,G]at q;cases q) (λw=>by rw[(N b w).1]at q;cases q)];exact q
  exact J (λa ha=>ha) S.nQ
 .rcases List.mem_append.mp ha with ha|ha
  .exact S.sep a ha f
  .rw[List.mem_singleton.mp ha]at f;exact h _ f rfl
 .rcases List.mem_append.mp hm with hm|hm
  .exact x.gr.qE a hm
  .rw[List.mem_singleton.mp hm];exact .inr L
 .rw[i a (λw=>by rw[w,L]at q;cases q) (λw=>by rw[(x.zO a w).2.2.2]at q;cases q)]
  exact x.gr.frm a o q I
 .have X:=x.gr.has a hm
  obtain⟨n,A⟩:=List.mem_iff_getElem?.mp hm;have p:=List.mem_of_getElem? (x.gr.pre n a A);rw[i a (g a p) (j a p)];exact X
theorem fJ{A B:Type}{f:eW->A}{g:B->TE}:∀{rs:List eW}{ms:List B},((rs.zip (ms.map g)).map λr=>(r.1.fld,r.2))=((rs.map (·.fld)).zip ms).map λr=>(r.1,g r.2)
 |[],_=>rfl
 |_::_,[]=>rfl
 |r::rs,m::ms=>by
  have:=fJ (f:=f) (g:=g) (rs:=rs) (ms:=ms);simp only[List.map_cons,List.zip_cons_cons,this]
theorem fK{A B T:Type}{g:B->T}{p:A×T}:∀{rs:List A}{ms:List B},p∈rs.zip (ms.map g)->∃m,(p.1,m)∈rs.zip ms/\p.2=g m
 |[],_,h=>by cases h
 |_::_,[],h=>by cases h
 |r::rs,m::ms,h=>by
  simp only[List.map_cons,List.zip_cons_cons,List.mem_cons]at h ⊢;rcases h with h|h
  .subst h;exact⟨m,.inl rfl,rfl⟩
  .obtain⟨a,h1,h2⟩:=fK h
   exact⟨a,.inr h1,h2⟩
theorem nE{N:List Str}{ds:List D}{vs:List V}{e:Addr}(r:aE (aj α Z H) ds vs)(h:N.length=ds.length+1):(start N (.ref e::vs)).length=(none::ds.map some:aF).length/\∀(i:Nat) (d:D),(none::ds.map some:aF)[i]?=some (some d)->∃v,(start N (.ref e::vs))[i]?=some (some v)/\aj α Z H d v:=by
 have j:=r.length;refine⟨by simp[L2.start];omega,λi d a=>?_⟩
 cases i with
 |zero=>cases a
 |succ i=>
  rw[List.getElem?_cons_succ,List.getElem?_map]at a;obtain⟨k,c,f⟩:=Option.map_eq_some_iff.mp a;cases f;obtain⟨v,b,g⟩:=r.get c;refine⟨v,?_,g⟩;unfold L2.start;have:i+1<(V.ref e::vs).length:=by have:=(List.getElem?_eq_some_iff.mp b).1;simp;omega
  rw[List.getElem?_append_left (by simpa using this),List.getElem?_map,List.getElem?_cons_succ,b]
  rfl
theorem vT{r:ak D}{Q:VK}(g:ba κ Φ α Z H (wO r) Q):ba κ eF α Z H r Q:=by
 cases r with
 |ok d a=>exact g
 |exc x a=>exact g.elim
 |bad=>exact g
theorem yi{n:Nat}{ms:List (Str×EM)}{ds:List D}{Q:VK}(g:ba κ Φ α Z H (eo C n ms ds Ω) Q):ba κ eF α Z H (eo C n ms ds Ω) Q:=by
 unfold eo at g ⊢;split
 .rename_i h
  rw[if_pos h]at g;generalize en C ms (none::ds.map some) [] Ω=r at g;cases r with
  |ok d Ω=>exact g
  |exc x Ω=>exact g.elim
  |bad=>exact g
 .rename_i h
  rw[if_neg h]at g;exact g
theorem pI(M:f7 X.prog X.w X.K X.mg X.base κ k C F)(hr:bF (k+2) X.A):∃i,X.mg C=some (.ref i)/\PySem.W.keepIn X.K (.ref i)=true/\cW X (.ref i) (rX κ F):=by
 obtain⟨i,N0,f,c,j,st,qual,sf,U,rs,ms,V,hm,t,rfl,Y,u⟩:=M.ex;refine⟨i,hm,V.cls.kp,λpins s σ H vs us Q I r h=>?_⟩
 obtain⟨l,Z,Ω,ds,S,n,g⟩:=h;unfold eo at g;split at g
 .rename_i o
  replace g:=vT g;have y:vs.length=U.length:=by rw[n.length];exact o
  let ρ:aF:=none::ds.map some
  refine vA (k:=k) (eA:=λB D G=>∃j b q a,XSim κ l Z H B D j b q a G/\ba κ eF l Z H (.ok (.ref a.length) (a++[.xc C j])) Q) V I hr r y (λA s' e E L he=>?_) λe B D G H3 s' O J ha he hk hd h0=>?_
  .refine⟨ms.map λm P H' Q'=>∃d,tO κ eF l Z H m ρ d P H' Q',by simp[Y],λp O=>?_,?_⟩
   .have R:=fK O
    obtain⟨m,T,e2⟩:=R;rw[e2];exact PE.ex λd=>u A X.stack s' e H E L (p.1,m) T l Z H ρ d
   .rw[fJ (f:=eW.fld)]
    obtain⟨l1,l2⟩:=nE (N:=sf::U) (e:=e) n (by simp[o])
    refine gX (Nm:=rs.map (·.fld)) S l1 l2 (λB D j b q a G hn x g=>⟨hn,j,b,q,a,x,g⟩) _ none [] [] l Z Ω H ?_ ⟨S,bq.refl S.has,.nil,λ_=>rfl,λ_ z=>(nomatch z)⟩ g
    simp only[List.map_nil,List.nil_append];exact List.map_fst_zip (by simp[Y])
  .obtain⟨a0,b,q,a,x,gq⟩:=O
   obtain⟨s3,g3⟩:=x.laid t ha he hk hd h0;exact⟨.ref e,H3,J,rfl,gq (.ref e) H3 _ _ g3 s3 (eY x.st e)⟩
 .exact g.elim
variable{x:Str}{p pos:Pos}{e:Expr}{es:List Expr}{as:AM}{o:Expr}{mo:EM}
theorem pJ{a:Addr}{r:List V->Hp->VK->Prop}{t:TA}(f:cW X (.ref a) r)(g:PySem.W.keepIn X.K (.ref a)=true)(i:Gl X x)(j:X.mg x=some (.ref a))(k:PA X (e::es) t)(b:(x==("__debug__":Str))=false)
  (l:starEach (e::es) X.env=(false,eval e X.env)::starEach es X.env) (c:(backTo pos (starEach es X.env)).any (·.1)=false):PE X (.Call (.Name x p) (e::es) [] pos) (zI r t):=by
 intro pins s d H Q I h;refine wpAny_Call_Name_kw (dq I i j ?_ b);exact PySem.W.callWith_K (h₀:=X.base) I.ok.mod.wZ g (bz (k pos pins s d H _ I h) λm n ⟨o,H1,I1,r,q⟩=>⟨I1.dB,f pins n d H1 o m Q I1 r q⟩) l c
theorem nF{a:Addr}{r:List V->Hp->VK->Prop}(c:cW X (.ref a) r)(d:PySem.W.keepIn X.K (.ref a)=true)(e:Gl X x)(f:X.mg x=some (.ref a))(b:(x==("__debug__":Str))=false):PE X (.Call (.Name x p) [] [] pos) (zI r vg):=by
 intro pins s g H Q I h;refine wpAny_Call_Name_kw (dq I e f ?_ b);exact PySem.W.callWith_K0 I.dB d (c pins s g H [] [] Q I .nil h)
theorem f7.go{P:Program}{w:World}{K:PySem.W.Frag}{a:Str->Option Value}{base:Heap}(M:f7 P w K a base κ k C F){ds:List D}{Q:VK}(g:ba κ Φ α Z H (F ds Ω) Q):ba κ eF α Z H (F ds Ω) Q:=by
 obtain⟨e,h,f,c,i,j,qual,l,m,n,o,p,q,b,rfl,r,d⟩:=M.ex;exact yi g
theorem pK(M:f7 X.prog X.w X.K X.mg X.base κ k C F)(h:bF (k+2) X.A)(i:Gl X C)(a:(C==("__debug__":Str))=false)
  (j:starEach (e::es) X.env=(false,eval e X.env)::starEach es X.env) (b:(backTo pos (starEach es X.env)).any (·.1)=false) (l:k7 X κ Φ (e::es) as):aQ X κ Φ (.Call (.Name C p) (e::es) [] pos) (mN F as):=by
 obtain⟨E,m,n,o⟩:=pI M h;intro c q r s t;refine PE.imp (pJ o n i m (l c q r s t) a j b) ?_;rintro G H Q ⟨u,Z,S,g⟩;exact⟨u,Z,S,j3.use g λx d _ I J f y L z B D=>⟨f,y,d,x,z,B,M.go D⟩⟩
theorem nG(M:f7 X.prog X.w X.K X.mg X.base κ k C F)(b:bF (k+2) X.A)(c:Gl X C)(a:(C==("__debug__":Str))=false):aQ X κ Φ (.Call (.Name C p) [] [] pos) (mN F ag):=by
 obtain⟨l,d,e,f⟩:=pI M b;intro h m n o i;refine PE.imp (nF f e c d a) ?_;rintro q H Q ⟨j,Z,S,g⟩;exact⟨j,Z,i,[],S.st,.nil,M.go g⟩
noncomputable def bK(a:List Str)(f:Str)(x:D)(Ω:av):ak D:=match x with
 |.ref k=>match Ω[k]? with
  |some (.xc C b)=>if a.contains C then (match b.lookup f with
   |some d=>.ok d Ω
   |none=>.bad)else .bad
  |_=>.bad
 |_=>.bad
def Cz(K:PySem.W.Frag)(κ:Str->Addr->Prop)(b:List Str)(f:Str):Prop:=∀C a,b.contains C=true->κ C a->(∃N c,ez K a N c)/\bN K a f
theorem sT{f:Str}{p:List Str}(w:Cz X.K κ p f)(y:attributeBase o f X.env (eval o X.env)=eval o X.env)(z:aQ X κ Φ o mo):aQ X κ Φ (.Attribute o f pos) (m1 (bK p f) mo):=
 ef (r:=λx H Q=>∃e C c v N i,x=.ref e/\rP H e C c/\ez X.K C N i/\bN X.K C f/\c.lookup f=some v/\Q v H) (λV A=>λpins s B H Q I h=>by
  refine iS y (bz (A pins s B H _ I h) λu Y ⟨x,H1,I1,j,a,C,c,v,N,i,ex,ea,T,m,l,q⟩=>?_)
  subst ex;obtain rfl:u=Value.ref a:=j;exact rQ I1 ea T m l λu' D E=>⟨v,H1,E,D,q⟩) z λdx x α Z Ω H Q S j g=>by
  unfold bK at g;split at g
  .rename_i k
   split at g
   .rename_i C c F
    simp only[aj]at j;obtain⟨a,G,rfl⟩:=j;obtain⟨a',b,t,n,J,L,M⟩:=S.cell F;rw[G]at b;cases b;split at g
    .rename_i O
     obtain⟨⟨N,i,T⟩,m⟩:=w C t O J;split at g
     .rename_i d P
      obtain⟨v,R,U⟩:=(gU M).1 d P;exact⟨a,t,n,v,N,i,rfl,L,T,m,R,ba.ret S U g⟩
     .exact g.elim
    .exact g.elim
   .exact g.elim
  .exact g.elim
noncomputable def aR(a:List (Str×Bool))(x:D)(Ω:av):ak D:=match x with
 |.ref k=>match Ω[k]? with
  |some (.xc C _)=>match a.lookup C with
   |some b=>.ok (.bl b) Ω
   |none=>.bad
  |_=>.bad
 |_=>.bad
def yj(K:PySem.W.Frag)(κ:Str->Addr->Prop)(d:Value)(c:List (Str×Bool)):Prop:=∀C a b,c.lookup C=some b->κ C a->(∃N e,ez K a N e)/\zL K a/\PySem.W.kitOne K (.ref a) d=some b
theorem sU{h:Str}{r:Pos}{n:Value}{c:List (Str×Bool)}(t:yj X.K κ n c)(u:Gl X "isinstance")(w:X.mg "isinstance"=none)(i:ja X (h,r) n)(y:starEach [o,.Name h r] X.env=(false,eval o X.env)::starEach [.Name h r] X.env)(z:aQ X κ Φ o mo) :
  aQ X κ Φ (.Call (.Name "isinstance" p) [o,.Name h r] [] pos) (m1 (aR c) mo):=
 ef (r:=λx H Q=>∃e C q b,x=.ref e/\rP H e C q/\(∃d,κ d C/\c.lookup d=some b)/\Q (.bl b) H) (λG A=>vB (κ:=λC b=>∃d,κ d C/\c.lookup d=some b) A u w i (λC b ⟨d,j,l⟩=>t d C b l j) y) z λI x J Z L H Q S s g=>by
  unfold aR at g;split at g
  .rename_i k
   split at g
   .rename_i C q B
    simp only[aj]at s;obtain⟨a,D,rfl⟩:=s;obtain⟨M,f,E,m,j,l,N⟩:=S.cell B;rw[D]at f;cases f;split at g
    .rename_i b F
     exact⟨a,E,m,b,rfl,l,⟨C,j,F⟩,ba.ret S (aM rfl) g⟩
    .exact g.elim
   .exact g.elim
  .exact g.elim
end
noncomputable def af(i:Nat):EM:=λa b=>match a[i]? with|some (some d)=>.ok d b|_=>.bad
noncomputable def ae(d:D):EM:=λ_ a=>.ok d a
noncomputable def o2{c d e:Type}(x:Option c)(y:Option d)(k:c->d->e):Option e:=match x,y with
 |some a,some b=>some (k a b)
 |_,_=>none
theorem br{c d e:Type}{x:Option c}{y:Option d}{k:c->d->e}{z:e}(h:o2 x y k=some z):∃a b,x=some a/\y=some b/\z=k a b:=by
 unfold o2 at h;split at h
 .cases h;exact⟨_,_,rfl,rfl,rfl⟩
 .cases h
theorem bx{b c:Type}{x:Option b}{k:b->c}{z:c}(h:x.map k=some z):∃a,x=some a/\z=k a:=by
 cases x with
 |none=>cases h
 |some a=>cases h;exact⟨a,rfl,rfl⟩
structure XT where
 ma:List (Str×bE):=[]
 fl:List (Str×List Str):=[]
 is:List (Str×List (Str×Bool)):=[]
structure fL(P:Program)(w:World)(K:PySem.W.Frag)(mg:Str->Option Value)(base:Heap)(κ:Str->Addr->Prop)(k:Nat)(t:XT):Prop where
 ma:∀C F,t.ma.lookup C=some F->∃j,j+2<=k/\f7 P w K mg base κ j C F
 fl:∀f Cs,t.fl.lookup f=some Cs->Cz K κ Cs f
 is:∀x tab,t.is.lookup x=some tab->∃cv,(mg x=some cv\/mg x=none/\bootBuiltins x=some cv)/\yj K κ cv tab
theorem fL.mono{P:Program}{w:World}{K:PySem.W.Frag}{a:Str->Option Value}{base:Heap}{κ:Str->Addr->Prop}{k b:Nat}{t:XT}(G:fL P w K a base κ k t)(h:k<=b):fL P w K a base κ b t:=⟨λC F q=>let ⟨j,c,d⟩:=G.ma C F q;⟨j,Nat.le_trans c h,d⟩,G.fl,G.is⟩
structure aO where
 hY:List (Str×(List D->Out Rs)):=[]
 fn:List (Str×bE):=[]
 cst:List (Str×D):=[]
 met:List (Str×Str×bE):=[]
 cls:List (Str×bE):=[]
 fld:List (Str×List Str):=[]
 clo:List (List D->bE):=[]
 fz:List Str:=[]
 xt:Bool:=false
 xs:XT:={}
def jl(T:aO)(a:Scope)(N:List Str)(x:Str):Option EM:=
 match iu a N x with
 |some i=>some (af i)
 |none=>if oJ a x&&okN x then (T.cst.lookup x).map ae else none
def gY:Const->Option EM
 |.none=>some (ae .non)
 |.bool b=>some (ae (.bl b))
 |.int i=>some (ae (.int i))
 |.str x=>some (ae (.str x))
 |_=>none
def cp(f:Expr->Option EM):List Expr->Option AM
 |[]=>some ag
 |e::es=>o2 (f e) (cp f es) aa
def DI(op:BoolOp)(a b:EM):EM:=match op with
 |.And=>gK a b
 |.Or=>nj a b
def fe(f:Expr->Option EM)(op:BoolOp):List Expr->Option EM
 |[]=>none
 |[a]=>f a
 |a::b::r=>o2 (f a) (fe f op (b::r)) (DI op)
def lq(f:Expr->Option EM):Option Expr->Option (Bool×EM)
 |none=>some (true,ae .non)
 |some e=>(f e).map λm=>(false,m)
inductive BM where
 |append|kf|join
noncomputable def BM.nm:BM->Str
 |.append=>"append" |.kf=>"pop" |.join=>"join"
noncomputable def BM.ar:BM->Nat
 |.append=>1|.kf=>1|.join=>1
def BM.ty:BM->av->D->Bool
 |.join=>ph
 |_=>kx
def BM.f:BM->D->List D->av->ak D
 |.append=>cu|.kf=>eE|.join=>gQ
def vU(m:Str)(n:Nat):Option BM:=[BM.append,.kf,.join].find? λb=>b.nm==m&&b.ar==n
def jm(T:aO)(m:Str)(n:Nat)(a:EM)(c:AM):Option EM:=(vU m n).map λb=>dS b.ty b.f a c
noncomputable def eH:Expr->Bool
 |.Name .. |.Attribute .. |.Constant (.str _) ..=>true
 |_=>false
def lr(x:Str):Option il:=[il.len,il.list,il.tuple,il.int].find? (λb=>b.nm==x)
theorem sV{x:Str}{b:il}(h:lr x=some b):x=b.nm/\b∈[il.len,il.list,il.tuple,il.int]/\b.nm∈cy:=by
 unfold lr at h;have c:=List.find?_some h;have a:=List.mem_of_find?_eq_some h;refine⟨(eq_of_beq c).symm,a,?_⟩;cases b<;>first | (simp at a;done)|decide
def jn(T:aO)(a:Scope)(f:Expr->Option EM)(x:Str)(args:List Expr):Option EM:=
 if oJ a x&&okN x then
  match T.fn.lookup x,T.hY.lookup x,lr x with
  |some F,_,_=>(cp f args).map (mN (aH F))
  |none,some F,_=>if args.isEmpty then none else (cp f args).map (mN (bJ F))
  |none,none,some b=>if args.isEmpty then none else (cp f args).map (mN (b7 b))
  |none,none,none=>none
 else none
def f9(T:aO)(a:Scope)(N:List Str)(f:Expr->Option EM)(x:Str)(args:List Expr):Option EM:=match iu a N x with
 |some _=>none
 |none=>jn T a f x args
def pL(b:Scope):List Expr->Option (Expr×Ty×Pos)
 |[a,.Name t p]=>match oK t with
  |some ty=>if oJ b t then some (a,ty,p)else none
  |none=>none
 |_=>none
theorem nH{d:Scope}{args:List Expr}{a:Expr}{b:Ty}{p:Pos}(h:pL d args=some (a,b,p)):args=[a,.Name b.nm p]/\oJ d b.nm=true/\b.nm∈cy:=by
 unfold pL at h;split at h
 .split at h
  .rename_i e c
   split at h
   .rename_i f
    cases h;obtain⟨rfl,m⟩:=xY c;exact⟨rfl,f,m⟩
   .cases h
  .cases h
 .cases h
def yk(T:aO)(c:Scope)(f:Expr->Option EM):List Expr->Option EM
 |[a,.Name cn _]=>if oJ c cn&&okN cn then o2 (T.xs.is.lookup cn) (f a) λb m=>m1 (aR b) m else none
 |_=>none
def vV(T:aO)(a:Scope)(f:Expr->Option EM)(x:Str)(args:List Expr):Option EM:=
 if oJ a x&&okN x then (match T.xs.ma.lookup x with
  |some F=>(cp f args).map (mN F)
  |none=>if x==("isinstance":Str)then yk T a f args else none)else none
def kg(T:aO)(b:Scope)(f:Expr->Option EM)(x:Str)(args:List Expr):Option EM:=match vV T b f x args with
 |some m=>some m
 |none=>if x==("isinstance":Str)&&oJ b x then match pL b args with
 |some (a,c,_)=>(f a).map (m1 (dk c))
 |none=>none else none
def ff(f:Expr->Option EM)(b:Scope)(iter:Expr):Option IM:=match iter with
 |.Call (.Name g _) args [] _=>if g==("range":Str)then (if oJ b g then (match args with
   |[a]=>(cp f [a]).map bp
   |_=>none)else none)else (f iter).map ei
 |_=>(f iter).map ei
def pM(f:Expr->Option EM):List Expr->Option (Bool×EM)
 |[]=>some (true,ae .non)
 |[c]=>(f c).map λm=>(false,m)
 |_=>none
def bL(T:aO):Nat->Scope->List Str->Expr->Option EM
 |0,_,_,_=>none
 |n+1,sc,N,e=>match e with
  |.Name x _=>jl T sc N x
  |.Constant c _ _=>gY c
  |.BinOp a d b _=>o2 (bL T n sc N a) (bL T n sc N b) (m2 (aw d))
  |.UnaryOp .USub a _=>(bL T n sc N a).map (m1 o9)
  |.UnaryOp .Not a _=>(bL T n sc N a).map jj
  |.BoolOp d (a::b::r) _=>fe (bL T n sc N) d (a::b::r)
  |.Compare a [d] [b] _=>if isSet b then none else o2 (bL T n sc N a) (bL T n sc N b) (m2 (ax d))
  |.Compare a [d,g] [b,c] _=>if isSet c then none else o2 (bL T n sc N a) (o2 (bL T n sc N b) (bL T n sc N c) Prod.mk) λx y=>j6 d g x y.1 y.2
  |.IfExp t a b _=>o2 (bL T n sc N t) (o2 (bL T n sc N a) (bL T n sc N b) Prod.mk) λx y=>yb x y.1 y.2
  |.Subscript a (.Slice lo hi none _) _=>o2 (bL T n sc N a) (o2 (lq (bL T n sc N) lo) (lq (bL T n sc N) hi) Prod.mk) λx y=>dw x y.1.1 y.1.2 y.2.1 y.2.2
  |.Subscript a b _=>if isSlice b then none else o2 (bL T n sc N a) (bL T n sc N b) (m2 aV)
  |.List es _=>(cp (bL T n sc N) es).map (mN aU)
  |.Tuple es _ _=>(cp (bL T n sc N) es).map (mN bt)
  |.Attribute o f _=>if eH o then (match T.xs.fl.lookup f with
   |some h=>(bL T n sc N o).map (m1 (bK h f))
   |none=>o2 (T.fld.lookup f) (bL T n sc N o) λh m=>m1 (sR h f) m)else none
  |.Call (.Name x _) args [] _=>match kg T sc (bL T n sc N) x args with
   |some m=>some m
   |none=>f9 T sc N (bL T n sc N) x args
  |.Call (.Attribute o m p1) args [] p2=>if p1.endLine==p2.line&&eH o&&decide (args.length<20)then (match bL T n sc N o,cp (bL T n sc N) args with
   |some mo,some as=>jm T m args.length mo as
   |_,_=>none)else none
  |.ListComp elt gens scope _=>match gF gens with
   |some (x,_,iter,ifs)=>if oM scope sc x&&!isSet iter then (match kU sc N (bV scope),ff (bL T n sc N) sc iter,bL T n (kT scope sc) (x::bV scope) elt,pM (bL T n (kT scope sc) (x::bV scope)) ifs with
    |some cap,some mi,some me,some (nc,mc)=>some (cQ me nc mc mi 0 cap)
    |_,_,_,_=>none)else none
   |none=>none
  |_=>none
structure GoodO(X:Cx)(κ:Str->Addr->Prop)(T:aO)(k:Nat)(sc:Scope)(N:List Str):Prop where
 scope:X.env.scope=sc
 names:X.N=N
 calm:X.calm=true
 room:bF k X.A
 dm:∀x∈cy,X.mg x=none
 hY:∀x F,T.hY.lookup x=some F->xV X k x F
 fn:∀x F,T.fn.lookup x=some F->pF X κ k x F
 cst:∀x d,T.cst.lookup x=some d->∃v u,X.mg x=some u/\RelV v u/\df d=some v
 met:∀m C F,(m,C,F)∈T.met->yg X κ k C m F
 cls:∀C F,T.cls.lookup C=some F->∃j,j+1<=k/\yh X κ j C F
 fld:∀f Cs,T.fld.lookup f=some Cs->lh X.K κ Cs f
 clo:(∀j F,T.clo[j]?=some F->ke X.prog X.w X.K X.mg X.base κ k j F)/\fL X.prog X.w X.K X.mg X.base κ k T.xs
theorem GoodO.gl{X:Cx}{κ:Str->Addr->Prop}{T:aO}{k:Nat}{a:Scope}{N:List Str}{x:Str}(G:GoodO X κ T k a N)(h:oJ a x=true):Gl X x:=by
 unfold oJ at h;have e:=eq_of_beq h
 show X.env.scope.names.lookup x=some .globalImplicit
 rw[G.scope];exact e
theorem GoodO.hu{X:Cx}{κ:Str->Addr->Prop}{T:aO}{k:Nat}{a:Scope}{N:List Str}(G:GoodO X κ T k a N):X.A.units+64<cLine:=G.room.units
theorem GoodO.blk{X:Cx}{κ:Str->Addr->Prop}{T:aO}{k:Nat}{c:Scope}{N:List Str}(G:GoodO X κ T k c N)(scope:Scope)(e:List (Str×Addr))(C:Addr)(d:List Str)(a:Shared)(b:Hp)(f:List Addr):GoodO (blk X scope e C d a b f) κ T k (kT scope c) d where
 scope:=by rw[←G.scope];rfl
 names:=rfl
 calm:=G.calm
 room:=G.room
 dm:=G.dm
 hY:=λx F h=>⟨(G.hY x F h).ex⟩
 fn:=λx F h=>⟨(G.fn x F h).ex⟩
 cst:=G.cst
 met:=λm C F h=>⟨(G.met m C F h).ex⟩
 cls:=λC F h=>let ⟨j,g,i⟩:=G.cls C F h;⟨j,g,⟨i.ex⟩⟩
 fld:=G.fld
 clo:=G.clo
def gZ(X:Cx)(κ:Str->Addr->Prop)(e:Expr)(m:EM):Prop:=(∀a,aQ X κ a e m)/\(∀a,ee X κ a e m)/\isStar e=false
section
variable{X:Cx}{κ:Str->Addr->Prop}{T:aO}{k:Nat}{sc:Scope}{N:List Str}{f:Expr->Option EM}
theorem aZ{e:Expr}{m:EM}(h:∀Φ,aQ X κ Φ e m)(b:isStar e=false)(c:∀a,isTrue e X.env a=(do let v ←a;standAt e.pos;holding [v] (truthy v))):gZ X κ e m:=⟨h,λΦ=>sd (h Φ) c,b⟩
theorem bM(b:∀e m,f e=some m->gZ X κ e m):∀{es:List Expr}{a:AM},cp f es=some a->(∀Φ,k7 X κ Φ es a)/\(∀e∈es,isStar e=false)
 |[],a,h=>by cases h;exact⟨λΦ=>l7,λe d=>absurd d (by simp)⟩
 |e::es,a,h=>by
  obtain⟨m,g,h1,h2,rfl⟩:=br h;obtain⟨i,_,c⟩:=b e m h1;obtain⟨j,k⟩:=bM b h2;refine⟨λΦ=>j5 (i Φ) (j Φ) (bj c),λz hz=>?_⟩
  rcases List.mem_cons.mp hz with rfl|hz
  .exact c
  .exact k z hz
theorem pN(G:GoodO X κ T k sc N){x:Str}{pos:Pos}{m:EM}(h:jl T sc N x=some m):gZ X κ (.Name x pos) m:=by
 unfold jl at h;split at h
 .rename_i i q
  cases h;obtain⟨c,e,a,f⟩:=lW q;exact aZ (λg=>rR (by rw[G.names];exact c) (by rw[G.scope];exact e) a f) rfl (λ_=>rfl)
 .split at h
  .rename_i b
   simp only[Bool.and_eq_true]at b;obtain⟨d,a,rfl⟩:=bx h;obtain⟨v,u,j,l,n⟩:=G.cst x d a;obtain⟨o,p,r⟩:=fV b.2;exact aZ (λg=>e8 (qJ (G.gl b.1) j l o) n) rfl (λ_=>rfl)
  .cases h
theorem nI{q:Const}{j:Nat}{pos:Pos}{m:EM}(h:gY q=some m):gZ X κ (.Constant q j pos) m:=by
 cases q<;>simp only[gY]at h<;>cases h
 .exact aZ (λa=>e8 uU rfl) rfl (λ_=>rfl)
 .exact aZ (λa=>e8 w6 rfl) rfl (λ_=>rfl)
 .exact aZ (λa=>e8 uT rfl) rfl (λ_=>rfl)
 .exact aZ (λa=>e8 uV rfl) rfl (λ_=>rfl)
theorem kh{op:BoolOp}{pos:Pos}(c:∀e m,f e=some m->gZ X κ e m):∀{es:List Expr}{m:EM},fe f op es=some m->(∀Φ,aQ X κ Φ (.BoolOp op es pos) m)/\(∀Φ,uz X κ Φ (.BoolOp op es pos) m)
 |[],m,h=>by cases h
 |[a],m,h=>by
  obtain⟨p1,p2,p3⟩:=c a m h;exact⟨λΦ=>nk (p1 Φ),λΦ=>sk (p2 Φ)⟩
 |a::b::r,m,h=>by
  simp only[fe]at h;obtain⟨i,l,j,k,rfl⟩:=br h;obtain⟨p1,p2,p3⟩:=c a i j;obtain⟨d,g⟩:=kh c k;cases op with
  |And=>exact⟨λΦ=>sg (p1 Φ) (d Φ),λΦ=>sm (p2 Φ) (g Φ)⟩
  |Or=>exact⟨λΦ=>vG (p1 Φ) (d Φ),λΦ=>vH (p2 Φ) (g Φ)⟩
theorem ki(b:∀e m,f e=some m->gZ X κ e m){o:Option Expr}{n:Bool}{m:EM}{Φ:dA}(h:lq f o=some (n,m)):zM X κ Φ o n m:=by
 cases o with
 |none=>cases h;exact .inl ⟨rfl,rfl⟩
 |some e=>
  obtain⟨a,c,d⟩:=bx h;cases d;exact .inr ⟨e,rfl,rfl,(b e m c).1 Φ⟩
theorem sW{m:Str}{n:Nat}{b:BM}(h:vU m n=some b):m=b.nm/\n=b.ar:=by
 have:=List.find?_some h;simp only[Bool.and_eq_true,beq_iff_eq]at this;exact⟨this.1.symm,this.2.symm⟩
theorem fg{o:Expr}{n:Str}{env:Env}(h:eH o=true):attributeBase o n env (eval o env)=eval o env:=by
 cases o<;>first|rfl | (cases h)
theorem ym(C:X.A.units+64<cLine)(b:BM){o:Expr}{es:List Expr}{q:EM}{s:AM}{t u:Pos}{Φ:dA}(j:eH o=true)(k:(t.endLine==u.line)=true)(l:es.length=b.ar)(n:aQ X κ Φ o q)(z:cp f es=some s)(B:∀e m,f e=some m->gZ X κ e m) :
  aQ X κ Φ (.Call (.Attribute o b.nm t) es [] u) (dS b.ty b.f q s):=by
 obtain⟨a,p⟩:=bM B z;have a:=a Φ;cases b with
 |append=>
  match es,l with
  |[e],_=>exact la PySem.F.plainAttrs_list PySem.F.slot_list_append PySem.F.type_list_append ij (λx v c Z d H S r h=>pj S r h) (λx v w y c Z d H Q S r i g=>nv S r i g) (fg j) k n a p (by simp)
 |kf=>
  match es,l with
  |[e],_=>exact la PySem.F.plainAttrs_list PySem.F.slot_list_pop PySem.F.type_list_pop oi (λx v c Z d H S r h=>pj S r h) (λx v w y c Z d H Q S r i g=>pq S r i g) (fg j) k n a p (by simp)
 |join=>
  match es,l with
  |[e],_=>exact la PySem.F.plainAttrs_str PySem.F.slot_str_join PySem.F.type_str_join rC (λx v c Z d H S r h=>sF S r h) (λx v w y c Z d H Q S r i g=>sG S r i g) (fg j) k n a p (by simp)
theorem pO(G:GoodO X κ T k sc N){o:Expr}{m:Str}{es:List Expr}{a:EM}{c:AM}{d g:Pos}{Φ:dA}{x:EM}(l:eH o=true)(n:(d.endLine==g.line)=true)(j:es.length<20)(p:aQ X κ Φ o a)(q:cp f es=some c)(r:∀e m,f e=some m->gZ X κ e m)
  (h:jm T m es.length a c=some x):aQ X κ Φ (.Call (.Attribute o m d) es [] g) x:=by
 have one:∀b,vU m es.length=some b->aQ X κ Φ (.Call (.Attribute o m d) es [] g) (dS b.ty b.f a c):=λb i=>by
  obtain⟨rfl,s⟩:=sW i;exact ym G.hu b l n s p q r
 obtain⟨b,t,rfl⟩:=bx h;exact one b t
theorem pP(G:GoodO X κ T k sc N)(o:∀e m,f e=some m->gZ X κ e m){x:Str}{args:List Expr}{m:EM}{p pos:Pos}(h:jn T sc f x args=some m):gZ X κ (.Call (.Name x p) args [] pos) m:=by
 refine aZ (λq=>?_) rfl (λ_=>rfl)
 unfold jn at h;split at h
 .rename_i r
  simp only[Bool.and_eq_true]at r;obtain⟨s,A,B⟩:=fV r.2;have l:=G.gl r.1;split at h
  .rename_i F n
   obtain⟨t,g,rfl⟩:=bx h;obtain⟨i,c⟩:=bM o g;cases args with
   |nil=>cases g;exact nB (G.fn x F n) G.room l s
   |cons a args=>exact pG (G.fn x F n) G.room l s (bj (c a (by simp))) (bT λz j=>c z (by simp[j])) (i q)
  .rename_i F _ n
   split at h
   .cases h
   .rename_i d
    obtain⟨t,g,rfl⟩:=bx h;obtain⟨i,c⟩:=bM o g;cases args with
    |nil=>exact absurd rfl d
    |cons a args=>exact nq (G.hY x F n) G.room l s (bj (c a (by simp))) (bT λz j=>c z (by simp[j])) (i q)
  .rename_i b _ _ u
   split at h
   .cases h
   .rename_i d
    obtain⟨t,g,rfl⟩:=bx h;obtain⟨i,c⟩:=bM o g;obtain⟨rfl,w,y⟩:=sV u;cases args with
    |nil=>exact absurd rfl d
    |cons a args=>exact sD G.calm w l (G.dm _ y) (bj (c a (by simp))) (bT λz j=>c z (by simp[j])) (i q)
  .cases h
 .cases h
theorem pQ(G:GoodO X κ T k sc N)(b:∀e m,f e=some m->gZ X κ e m){x:Str}{args:List Expr}{m:EM}{p pos:Pos}(h:f9 T sc N f x args=some m):gZ X κ (.Call (.Name x p) args [] pos) m:=by
 unfold f9 at h;cases a:iu sc N x with
 |none=>rw[a]at h;exact pP G b h
 |some i=>
  rw[a]at h;cases h
theorem yn(G:GoodO X κ T k sc N)(l:∀e m,f e=some m->gZ X κ e m){x:Str}{args:List Expr}{m:EM}{p pos:Pos}(h:vV T sc f x args=some m):gZ X κ (.Call (.Name x p) args [] pos) m:=by
 refine aZ (λn=>?_) rfl (λ_=>rfl)
 unfold vV at h;split at h
 .rename_i c
  simp only[Bool.and_eq_true]at c;obtain⟨o,J,K⟩:=fV c.2;split at h
  .rename_i F t
   obtain⟨L,q,rfl⟩:=bx h;obtain⟨g,r⟩:=bM l q;obtain⟨j,s,M⟩:=G.clo.2.ma x F t;cases args with
   |nil=>cases q;exact nG M (G.room.mono s) (G.gl c.1) o
   |cons a args=>exact pK M (G.room.mono s) (G.gl c.1) o (bj (r a (by simp))) (bT λz u=>r z (by simp[u])) (g n)
  .split at h
   .rename_i w
    obtain rfl:=eq_of_beq w;unfold yk at h;split at h
    .rename_i a y O
     split at h
     .rename_i b
      simp only[Bool.and_eq_true]at b;obtain⟨i,A,B,C,rfl⟩:=br h;obtain⟨m1,m2,D⟩:=fV b.2;obtain⟨P,d,E⟩:=G.clo.2.is y i B;obtain⟨g,_,H⟩:=l a A C;refine sU E (G.gl c.1) (G.dm _ (by decide)) ?_ (bj H) (g n)
      rcases d with d|⟨d,I⟩
      .exact lj (G.gl b.1) d m1
      .exact ll (G.gl b.1) d I D m1
     .cases h
    .cases h
   .cases h
 .cases h
theorem sX(G:GoodO X κ T k sc N)(b:∀e m,f e=some m->gZ X κ e m){x:Str}{args:List Expr}{m:EM}{p pos:Pos}(h:kg T sc f x args=some m):gZ X κ (.Call (.Name x p) args [] pos) m:=by
 unfold kg at h;split at h
 .rename_i y g
  cases h;exact yn G b g
 split at h
 .rename_i c
  simp only[Bool.and_eq_true,beq_iff_eq]at c;obtain⟨rfl,i⟩:=c;split at h
  .rename_i a j l n
   obtain⟨rfl,o,q⟩:=nH n;obtain⟨r,s,rfl⟩:=bx h;obtain⟨t,_,u⟩:=b a r s;exact aZ (λw=>sE (G.gl i) (G.dm _ (by decide)) (G.gl o) (G.dm _ q) (bj u) (bT (es:=[Expr.Name j.nm l]) λz d=>by simp at d;subst d;rfl) (t w)) rfl (λ_=>rfl)
  .cases h
 .cases h
theorem jo(G:GoodO X κ T k sc N)(d:∀e m,f e=some m->gZ X κ e m){iter:Expr}{mi:IM}(h:ff f sc iter=some mi):∀Φ b,pv X κ Φ b iter mi:=by
 intro Φ b
 have dflt:∀{mi},(f iter).map ei=some mi->pv X κ Φ b iter mi:=λ{mi} h=>by
  obtain⟨m,c,rfl⟩:=bx h;exact sJ ((d iter m c).1 Φ)
 unfold ff at h;split at h
 .rename_i g p args i
  split at h
  .rename_i j
   obtain rfl:=eq_of_beq j;split at h
   .rename_i l
    split at h
    .rename_i a
     obtain⟨q,c,rfl⟩:=bx h;obtain⟨n,o⟩:=bM d c;exact pz (G.gl l) (G.dm _ (by decide)) (n Φ) (by rw[bj (o a (by simp))];rfl)
    .cases h
   .cases h
  .exact dflt h
 .exact dflt h
end
section
variable{κ:Str->Addr->Prop}{T:aO}{k:Nat}
theorem sY{X:Cx}{c:Scope}{N:List Str}(G:GoodO X κ T k c N){scope:Scope}{x:Str}{cap:List Nat}(f:oM scope c x=true)(m:kU c N (bV scope)=some cap) :
  fE X scope [x] (bV scope) cap/\scope.names.lookup x=some .local/\([x]++bV scope).Nodup:=by
 simp only[oM,Bool.and_eq_true,decide_eq_true_eq,List.all_eq_true,Bool.not_eq_true',beq_iff_eq,Bool.or_eq_true]at f;obtain⟨⟨⟨⟨⟨n,o⟩,p⟩,r⟩,s⟩,t⟩:=f;obtain⟨c1,c2⟩:=oP m
 have g:∀y∈scope.names,y.2=.free->(c.names.lookup y.1=some .cell\/c.names.lookup y.1=some .free)/\scope.names.lookup y.1=some .free:=λy a b=>by
  rcases r y a with q|q
  .rw[b]at q;exact absurd q (by decide)
  .exact q
 refine⟨⟨n,λy a b=>?_,λy a b=>?_,λy a b=>?_,c1,λj i z h u=>?_⟩,s,t⟩
 .have:=o y a
  rw[b]at this;exact absurd this (by decide)
 .rcases p y a with q|q
  .rw[b]at q;exact absurd q (by decide)
  .exact q
 .have:=(g y a b).1
  show X.env.scope.names.lookup y.1=_\/X.env.scope.names.lookup y.1=_
  rw[G.scope];exact this
 .refine⟨by rw[G.names];exact c2 j i z h u,?_⟩
  have l:z∈bV scope:=List.mem_of_getElem? h;unfold bV at l;obtain⟨y,a,rfl⟩:=List.mem_map.mp l;obtain⟨d,e⟩:=List.mem_filter.mp a;exact(g y d (by simpa using e)).2
theorem g5{T:aO}{a:Scope}{N:List Str}{n:Nat}{b:Expr}{gens:List Comprehension}{scope:Scope}{pos:Pos}{m:EM}{P:Prop}(e:gF gens=none)(h:bL T (n+1) a N (.ListComp b gens scope pos)=some m):P:=by
 replace h:(match gF gens with
   |some (x,_,iter,c)=>if (oM scope a x&&!isSet iter)=true then (match kU a N (bV scope),ff (bL T n a N) a iter,bL T n (kT scope a) (x::bV scope) b,pM (bL T n (kT scope a) (x::bV scope)) c with
    |some d,some f,some g,some (i,j)=>some (cQ g i j f 0 d)
    |_,_,_,_=>none)else none
   |none=>none)=some m:=h
 rw[e]at h;cases h
theorem fM{n:Nat}(p:∀(X:Cx) (f:Scope) (N:List Str) (e:Expr) (m:EM),GoodO X κ T k f N->bL T n f N e=some m->gZ X κ e m){X:Cx}{f:Scope}{N:List Str}(G:GoodO X κ T k f N){scope:Scope}{x:Str}{iter i:Expr}{g:List Expr}{r pos:Pos}{m:EM}
  (h:bL T (n+1) f N (.ListComp i [⟨.Name x r,iter,g,0⟩] scope pos)=some m):∃me nc mc mi cap,m=cQ me nc mc mi 0 cap/\fE X scope [x] (bV scope) cap/\scope.names.lookup x=some .local/\([x]++bV scope).Nodup /\
   (∀z,foldedSetIterable iter X.env z=pure z)/\(∀Φ,pv X κ Φ (.Name x r) iter mi) /\
   ∀l C b d o,((g=[]/\nc=true)\/∃c,g=[c]/\nc=false/\ee (blk X scope l C ([x]++bV scope) b d o) κ eF c mc)/\aQ (blk X scope l C ([x]++bV scope) b d o) κ eF i me:=by
 replace h:(if (oM scope f x&&!isSet iter)=true then (match kU f N (bV scope),ff (bL T n f N) f iter,bL T n (kT scope f) (x::bV scope) i,pM (bL T n (kT scope f) (x::bV scope)) g with
    |some cap,some mi,some me,some (nc,mc)=>some (cQ me nc mc mi 0 cap)
    |_,_,_,_=>none)else none)=some m:=h
 split at h
 .rename_i q
  simp only[Bool.and_eq_true,Bool.not_eq_true']at q;split at h
  .rename_i cap mi me nc mc u w y j
   cases h;obtain⟨A,B,D⟩:=sY G q.1 u;refine⟨me,nc,mc,mi,cap,rfl,A,B,D,gG q.2,λΦ=>jo G (p X f N · · G) w Φ _,λl C b d o=>?_⟩
   have s:=G.blk scope l C ([x]++bV scope) b d o;refine⟨?_,(p _ _ _ i me s y).1 eF⟩
   match g,j with
   |[],j=>cases j;exact .inl ⟨rfl,rfl⟩
   |[t],j=>
    obtain⟨a,E,F⟩:=bx j;cases F;exact .inr ⟨t,rfl,rfl,(p _ _ _ t mc s E).2.1 eF⟩
  .cases h
 .cases h
theorem jq:∀(n:Nat) (X:Cx) (u:Scope) (N:List Str) (e:Expr) (m:EM),GoodO X κ T k u N->bL T n u N e=some m->gZ X κ e m:=by
 intro n
 induction n with
 |zero=>intro X u N e m G h;cases h
 |succ n S=>
  intro X u N e m G h;have g:∀e m,bL T n u N e=some m->gZ X κ e m:=λe m q=>S X u N e m G q
  cases e with
  |Name x pos=>exact pN G h
  |Constant c j pos=>exact nI h
  |BinOp a op b pos=>
   obtain⟨z,B,l,w,rfl⟩:=br h;exact aZ (λd=>rV ((g a z l).1 d) ((g b B w).1 d)) rfl (λ_=>rfl)
  |UnaryOp op a pos=>
   cases op with
   |USub=>
    obtain⟨z,l,rfl⟩:=bx h;exact aZ (λd=>rW ((g a z l).1 d)) rfl (λ_=>rfl)
   |Not=>
    obtain⟨z,l,rfl⟩:=bx h;exact⟨λd=>sh ((g a z l).1 d),λd=>sj ((g a z l).2.1 d),rfl⟩
   |_=>cases h
  |BoolOp op V pos=>
   match V,h with
   |a::b::r,h=>
    obtain⟨Y,Z⟩:=kh (pos:=pos) g (show fe (bL T n u N) op (a::b::r)=some m from h)
    exact⟨Y,λd=>(Z d).pt,rfl⟩
   |[_],h=>cases h
   |[],h=>cases h
  |Compare a P cs pos=>
   match P,cs,h with
   |[op],[b],h=>
    replace h:(if isSet b=true then none else o2 (bL T n u N a) (bL T n u N b) (m2 (ax op)))=some m:=h
    split at h
    .cases h
    .rename_i Q
     obtain⟨z,B,l,w,rfl⟩:=br h;have H:=jT (op:=op) (b:=b) (by simpa using Q)
     exact⟨λd=>(mf G.hu H ((g a z l).1 d) ((g b B w).1 d)).1,λd=>(mf G.hu H ((g a z l).1 d) ((g b B w).1 d)).2,rfl⟩
   |[op,C],[b,K],h=>
    replace h:(if isSet K=true then none else o2 (bL T n u N a) (o2 (bL T n u N b) (bL T n u N K) Prod.mk) λx y=>j6 op C x y.1 y.2)=some m:=h
    split at h
    .cases h
    .rename_i Q
     obtain⟨z,a0,l,A,rfl⟩:=br h;obtain⟨B,mc,w,D,rfl⟩:=br A;have H:lastMarks [op,C] [b,K]=false:=jT (op:=C) (b:=K) (by simpa using Q)
     exact⟨λd=>sv G.hu H ((g _ _ l).1 d) ((g _ _ w).1 d) ((g _ _ D).1 d),λd=>sx G.hu H ((g _ _ l).1 d) ((g _ _ w).1 d) ((g _ _ D).1 d),rfl⟩
   |[],_,h=>cases h
   |[_],[],h=>cases h
   |[_],_::_::_,h=>cases h
   |[_,_],[],h=>cases h
   |[_,_],[_],h=>cases h
   |[_,_],_::_::_::_,h=>cases h
   |_::_::_::_,[],h=>cases h
   |_::_::_::_,[_],h=>cases h
   |_::_::_::_,_::_::_,h=>cases h
  |IfExp t a b pos=>
   obtain⟨mt,b0,l,A,rfl⟩:=br h;obtain⟨z,B,w,D,rfl⟩:=br A;exact⟨λd=>sr ((g _ _ l).2.1 d) ((g _ _ w).1 d) ((g _ _ D).1 d),λd=>su ((g _ _ l).2.1 d) ((g _ _ w).2.1 d) ((g _ _ D).2.1 d),rfl⟩
  |Subscript a s pos=>
   have R:∀b,isSlice b=false->o2 (bL T n u N a) (bL T n u N b) (m2 aV)=some m->gZ X κ (.Subscript a b pos) m:=λb L h=>by
    obtain⟨z,B,l,w,rfl⟩:=br h;refine aZ (λd=>r9 (by have:=G.hu;omega) (λo i=>?_) ((g _ _ l).1 d) ((g _ _ w).1 d)) rfl (λ_=>rfl)
    cases b<;>first|rfl | (cases L)
   cases s with
   |Slice lo I st p2=>
    cases st with
    |none=>
     obtain⟨z,d0,l,A,rfl⟩:=br h;obtain⟨⟨nl,ml⟩,⟨nh,mh⟩,w,D,rfl⟩:=br A;exact aZ (λd=>r_ ((g _ _ l).1 d) (ki g w) (ki g D)) rfl (λ_=>rfl)
    |some e=>
     cases lo with
     |none=>
      cases I with
      |none=>
       exact nomatch (show(none:Option EM)=some m from h)
      |some _=>exact nomatch (show(none:Option EM)=some m from h)
     |some _=>exact nomatch (show(none:Option EM)=some m from h)
   |_=>exact R _ rfl h
  |List es pos=>
   obtain⟨M,l,rfl⟩:=bx h;exact aZ (λd=>rS ((bM g l).1 d)) rfl (λ_=>rfl)
  |Tuple es j pos=>
   obtain⟨M,l,rfl⟩:=bx h;exact aZ (λd=>rT ((bM g l).1 d)) rfl (λ_=>rfl)
  |Attribute o f pos=>
   replace h:(if eH o=true then (match T.xs.fl.lookup f with|some E=>(bL T n u N o).map (m1 (bK E f))|none=>o2 (T.fld.lookup f) (bL T n u N o) λE m=>m1 (sR E f) m)else none)=some m:=h
   split at h
   .rename_i L
    split at h
    .rename_i E hx
     obtain⟨F,w,rfl⟩:=bx h;exact aZ (λd=>sT (G.clo.2.fl f E hx) (fg L) ((g o F w).1 d)) rfl (λ_=>rfl)
    obtain⟨E,F,l,w,rfl⟩:=br h;exact aZ (λd=>sS (G.fld f E l) (fg L) ((g o F w).1 d)) rfl (λ_=>rfl)
   .cases h
  |Call f args J pos=>
   cases f with
   |Name x p=>
    cases J with
    |nil=>
     replace h:(match kg T u (bL T n u N) x args with|some m=>some m|none=>f9 T u N (bL T n u N) x args)=some m:=h
     cases I:kg T u (bL T n u N) x args with
     |some m'=>
      rw[I]at h;cases h;exact sX G g I
     |none=>
      rw[I]at h;exact pQ G g h
    |cons _ _=>cases h
   |Attribute o mm p1=>
    cases J with
    |nil=>
     replace h:(if (p1.endLine==pos.line&&eH o&&decide (args.length<20))=true then (match bL T n u N o,cp (bL T n u N) args with
   |some F,some M=>jm T mm args.length F M
   |_,_=>none)else none)=some m:=h
     split at h
     .rename_i O
      simp only[Bool.and_eq_true,decide_eq_true_eq]at O;split at h
      .rename_i F M l w
       exact aZ (λd=>pO G O.1.2 O.1.1 O.2 ((g o F l).1 d) w g h) rfl (λ_=>rfl)
      .cases h
     .cases h
    |cons _ _=>cases h
   |_=>cases h
  |ListComp e0 gens scope pos=>
   cases U:gF gens with
   |none=>exact g5 U h
   |some q=>
    obtain⟨x,px,iter,f0⟩:=q;obtain rfl:=iv U;obtain⟨me,nc,mc,mi,g0,rfl,b1,b2,b3,b4,b5,b6⟩:=fM (λX u N e m G q=>S X u N e m G q) G h
    exact aZ (λd=>pA G.calm b1 b4 (b5 d) b2 b3 b6) rfl (λ_=>rfl)
  |_=>cases h
end
structure dy(X:Cx)(κ:Str->Addr->Prop)(T:aO)(k:Nat)(sc:Scope)(N:List Str):Prop extends GoodO X κ T k sc N where
 own:PassesOwn (model X.prog X.w) X.A X.env X.xe
 Bp:∀x,oI sc x=true->T.fz.contains x=false->(X.fn x=true\/X.env.scope.names.lookup x=some .local)
 ku:N.Nodup
 kind:sc.kind=.function
 h8:T.xt=false->∀e s,¬ X.xe e s
def er(f:Stmt->Option SM):List Stmt->Option SM
 |[]=>some au
 |s::r=>o2 (f s) (er f r) aq
def jr(f:Expr->Option EM)(b:Scope)(iter:Expr):Option IM:=match iter with
 |.Call (.Name g _) [a] [] _=>if g==("enumerate":Str)then (if oJ b g then (f a).map yd else none)else ff f b iter
 |_=>ff f b iter
def g7(T:aO)(a:Scope)(N:List Str)(x:Str):Option Nat:=if T.fz.contains x then none else jU a N x
def g8(T:aO)(a:Scope)(N:List Str)(nms:List (Str×Pos)):Option (List Nat):=if nms.any (λy=>T.fz.contains y.1)then none else gH a N nms
def lu(T:aO)(td:List Str)(k:Nat)(a:Scope)(N:List Str)(x:Str)(b:Pos)(e:Expr)(pos:Pos):Option SM:=match g7 T a N x with
   |some i=>(match bL T k a N e with
    |some m=>if jV a x b e then (if pos.line==b.line then some (aK i m)else none)else some (aK i m)
    |none=>none)
   |none=>none
def lx(T:aO)(k:Nat)(b:Scope)(N:List Str)(es:List Expr)(e:Expr):Option SM:=match cM es with
   |some a=>match g8 T b N a,bL T k b N e with
    |some c,some m=>if oQ e then some (yf c m)else none
    |_,_=>none
   |none=>none
def jt(T:aO)(td:List Str)(k:Nat)(d:Scope)(N:List Str):Nat->Stmt->Option SM
 |0,_=>none
 |n+1,st=>match st with
  |.Return (some e) _=>some (match bL T k d N e with
   |some m=>a_ m
   |none=>jk)
  |.Assign [.Name x h] e pos=>lu T td k d N x h e pos
  |.Assign [.Tuple es _ _] e _=>lx T k d N es e
  |.Expr e _=>if kW e then none else (bL T k d N e).map gS
  |.If c a b _=>o2 (bL T k d N c) (o2 (er (jt T td k d N n) a) (er (jt T td k d N n) b) Prod.mk) λx y=>dF x y.1 y.2
  |.For (.Name x _) f b [] _=>if isSet f then none else o2 (g7 T d N x) (o2 (ff (bL T k d N) d f) (er (jt T td k d N n) b) Prod.mk) λi y=>cS (bD i) y.1 y.2
  |.For (.Tuple es _ _) f b [] _=>if isSet f then none else match cM es with
   |some g=>o2 (g8 T d N g) (o2 (jr (bL T k d N) d f) (er (jt T td k d N n) b) Prod.mk) λj y=>cS (kd j) y.1 y.2
   |none=>none
  |_=>none
section
variable{X:Cx}{κ:Str->Addr->Prop}{Φ:dA}{T:aO}{td:List Str}{k:Nat}{sc:Scope}{N:List Str}{α α' eB α1:List Addr}{Z Z' Z0 Z1:Addr->Prop}{Ω az:av}{H H' H0 H1:Hp}
theorem sZ{es:List Expr}{x1:Nat}{B p pos:Pos}{a:Expr}{m:EM}(hg:Gl X "enumerate")(hm:X.mg "enumerate"=none)(hs:starEach [a] X.env=[(false,eval a X.env)])(ha:aQ X κ Φ a m) :
  pv X κ Φ (.Tuple es x1 B) (.Call (.Name "enumerate" p) [a] [] pos) (yd m):=by
 intro U Z0 H0 ρ C;refine PI.imp (oT hg hm (cX (ha U Z0 H0 ρ C) iT hs) hs) ?_;rintro σ H R ⟨α,Z,S,g⟩;refine⟨α,Z,S,lb.use g λx Y _ v H1 E Z1 g1 k F G=>?_⟩
 have I:∀{b:List Addr}{l:Addr->Prop}{c:av}{h:Hp}{i:Nat}{v:V}{J:D},aX κ b l c h->aj b l h J v->∀p,h p=none->∃Z3,bq b l h b Z3 (upd h p (.tup [.int i,v]))/\aX κ b Z3 c (upd h p (.tup [.int i,v]))/\aj b Z3 (upd h p (.tup [.int i,v])) (.tup [.int (0+i:Nat),J]) (.ref p):=λ{b l c h i v J} n K p L=>by
  obtain⟨s3,g3⟩:=n.o8 (p:=p) (o:=.tup [.int i,v]) L True;simp only[if_true]at s3 g3;refine⟨Zp l p,g3,s3,?_⟩;simp only[aj];refine⟨p,_,rfl,.inr rfl,aI,aJ.mpr (.cons ?_ (.one (n.bW g3 K)))⟩;simp only[aj];simp
 cases Q:cU Y x with
 |none=>simp only[Q]at G;exact G.elim
 |some b0=>
  simp only[Q]at G
  by_cases ht:∃es,x=.tup es
  .obtain⟨M,rfl⟩:=ht
   have q:=F;simp only[aj]at F;obtain⟨a,r,rfl,z1,q1,q2⟩:=F;refine⟨a,rfl,.inr ⟨⟨r,dC.of q1⟩,G _ H1 E Z1 (bq.refl k.has) k ?_⟩⟩;intro b l c h ds g2 n f;have f:some (cF 0 M)=some ds:=f;cases f;have T:=k.bW g2 q;simp only[aj]at T;obtain⟨a',s,e,z3,t,u⟩:=T;cases e;have u:=aJ.mp u;refine⟨λi d hd=>?_,λi N=>by rw[i8]at N;exact⟨s,dC.of t,by rw[u.length];exact N⟩⟩
   obtain⟨J,z,rfl⟩:=i9 M 0 i d hd;obtain⟨v,O,K⟩:=u.get z;refine⟨⟨s,v,dC.of t,O⟩,λy H3 A=>?_⟩
   obtain⟨p,rfl,L,A⟩:=A;obtain⟨w,P,rfl⟩:=A s (dC.of t);rw[O]at P;cases P
   exact I n K p L
  .have j:∀C,cU C x=ck C x:=λC=>by
    cases x with
    |tup es=>exact absurd ⟨es,rfl⟩ ht
    |_=>rfl
   rw[j]at Q;have q:=F;obtain⟨a,r,rfl,q1,q2⟩:=bb k F Q;refine⟨a,rfl,.inl ⟨⟨r,i5 q1⟩,G _ H1 E Z1 (bq.refl k.has) k ?_⟩⟩;intro b l c h ds g2 n f;obtain⟨a0,h2,rfl⟩:=bx f;rw[j]at h2;have T:=k.bW g2 q;obtain⟨a',s,e,t,u⟩:=bb n T h2;cases e;refine⟨λi d hd=>?_,λi N=>by rw[i8]at N;exact⟨s,i5 t,by rw[u.length];exact N⟩⟩
   obtain⟨J,z,rfl⟩:=i9 a0 0 i d hd;obtain⟨v,O,K⟩:=u.get z;refine⟨⟨s,v,i5 t,O⟩,λy H3 A=>?_⟩
   obtain⟨p,rfl,L,A⟩:=A;obtain⟨w,P,rfl⟩:=A s (i5 t);rw[O]at P;cases P
   exact I n K p L
theorem s_(G:GoodO X κ T k sc N){f:Expr->Option EM}(b:∀e m,f e=some m->gZ X κ e m){iter:Expr}{mi:IM}(h:jr f sc iter=some mi){es:List Expr}{j:Nat}{c:Pos}:∀Φ,pv X κ Φ (.Tuple es j c) iter mi:=by
 intro Φ;unfold jr at h;split at h
 .rename_i g p a d
  split at h
  .rename_i i
   obtain rfl:=eq_of_beq i;split at h
   .rename_i l
    obtain⟨n,e,rfl⟩:=bx h;obtain⟨o,_,q⟩:=b a n e;exact sZ (G.gl l) (G.dm _ (by decide)) (by rw[bj q];rfl) (o Φ)
   .cases h
  .exact jo G b h Φ _
 .exact jo G b h Φ _
theorem nJ(G:dy X κ T k sc N){x:Str}{i:Nat}(h:jU sc N x=some i):X.N[i]?=some x/\Loc X.env.scope x:=by
 unfold jU at h;split at h
 .rename_i b
  simp only[Bool.and_eq_true]at b;refine⟨by rw[G.names];exact oO h,?_⟩
  rw[G.scope];have a:=b.1;unfold oI at a;unfold L2.Loc;split at a
  .rename_i q;exact .inl q
  .rename_i q;exact .inr q
  .cases a
 .cases h
theorem fh{f:Stmt->Option SM}(e:∀s c,f s=some c->nz X κ Φ s c):∀{d:List Stmt}{c:SM},er f d=some c->kc X κ Φ d c
 |[],c,h=>by cases h;exact sM
 |s::d,c,h=>by
  obtain⟨a,b,h1,h2,rfl⟩:=br h;exact pB (e s a h1) (fh e h2)
theorem fx(G:dy X κ T k sc N){x:Str}{i:Nat}(h:g7 T sc N x=some i):X.N[i]?=some x/\Loc X.env.scope x/\(X.fn x=true\/X.env.scope.names.lookup x=some .local):=by
 unfold g7 at h;split at h
 .cases h
 .rename_i d
  obtain⟨a,b⟩:=nJ G h;refine⟨a,b,G.Bp x ?_ (by simpa using d)⟩
  unfold jU at h;split at h
  .rename_i c;simp only[Bool.and_eq_true]at c;exact c.1
  .cases h
theorem g9(G:dy X κ T k sc N):∀{nms:List (Str×Pos)}{a:List Nat},(∀y∈nms,T.fz.contains y.1=false)->gH sc N nms=some a->a.length=nms.length/\∀(j i:Nat) (x:Str×Pos),a[j]?=some i->nms[j]?=some x->X.N[i]?=some x.1/\Loc X.env.scope x.1/\(X.fn x.1=true\/X.env.scope.names.lookup x.1=some .local)
 |[],a,_,h=>by cases h;exact⟨rfl,λj i x e=>by simp at e⟩
 |x::xs,a,d,h=>by
  simp only[gH,Option.bind_eq_bind]at h;obtain⟨i,h1,h⟩:=Option.bind_eq_some_iff.mp h;obtain⟨f,g,h⟩:=Option.bind_eq_some_iff.mp h;cases h;obtain⟨l,m⟩:=g9 G (λy n=>d y (by simp[n])) g
  refine⟨by rw[List.length_cons,List.length_cons,l],λj o y b c=>?_⟩
  cases j with
  |zero=>
   simp at b c;subst b c
   exact fx G (by unfold g7;rw[if_neg (by rw[d x (by simp)];simp)];exact h1)
  |succ j=>exact m j o y (by simpa using b) (by simpa using c)
theorem kj(G:dy X κ T k sc N){es:List Expr}{j:Nat}{p:Pos}{nms:List (Str×Pos)}{a:List Nat}(e:cM es=some nms)(c:g8 T sc N nms=some a):PG X (.Tuple es j p) (qO X.K a.length (fv a)):=by
 obtain rfl:=fH e
 have b:(∀y∈nms,T.fz.contains y.1=false)/\gH sc N nms=some a:=by
  unfold g8 at c;split at c
  .cases c
  .rename_i f
   refine⟨λy g=>?_,c⟩
   cases q:T.fz.contains y.1 with
   |false=>rfl
   |true=>exact absurd (List.any_eq_true.mpr ⟨y,g,q⟩) f
 obtain⟨d,h⟩:=g9 G b.1 b.2;obtain⟨i,l⟩:=iw X.env nms;exact uZ G.calm (ir (nms:=nms) (by rw[G.names];exact G.ku) a nms d h) (by rw[i,d]) l
theorem kk{a:Expr}{gens:List Comprehension}{scope:Scope}{p b:Pos}{x:Str}{l:Nat}(G:dy X κ T k sc N) :
  swapsWith (.ListComp a gens scope p) (some (.Name x b)) l X.env=pure (jV sc x b (.ListComp a gens scope p)):=by
 have c:X.env.blockKind=.function:=by
  show(if X.env.scope.kind.isAnnotationScope=true then ScopeKind.function else X.env.scope.kind)=_
  rw[G.scope,G.kind];rfl
 show pure (X.env.blockKind==.function&&X.env.kindOf x==some .local&&b.line==p.line&&!(scope.names.any λ(n,k)=>n==x&&(k==.local||k==.cell)))=_
 rw[c]
 show pure (true&&X.env.scope.names.lookup x==some .local&&b.line==p.line&&!(scope.names.any λ(n,k)=>n==x&&(k==.local||k==.cell)))=_
 rw[G.scope];rfl
theorem mr(G:dy X κ T k sc N){n i:Nat}{x:Str}{a pos:Pos}{e:Expr}{m:EM}(j:g7 T sc N x=some i)(h:bL T n sc N e=some m)(l:jV sc x a e=true->pos.line=a.line):nz X κ Φ (.Assign [.Name x a] e pos) (aK i m):=by
 obtain⟨d,o,r⟩:=fx G j;have f:X.N.Nodup:=by rw[G.names];exact G.ku
 have E:=jq n X sc N e m G.toGoodO h;have plain:swapsWith e (some (.Name x a)) pos.line X.env=pure false->nz X κ Φ (.Assign [.Name x a] e pos) (aK i m):=λq=>sO f d o r q (E.1 Φ)
 cases e with
 |ListComp c gens scope p=>
  cases b:jV sc x a (.ListComp c gens scope p)with
  |false=>exact plain (by rw[kk G,b])
  |true=>
   cases n with
   |zero=>cases h
   |succ n=>
   cases g:gF gens with
   |none=>exact g5 g h
   |some q=>
    obtain⟨y,D,iter,s⟩:=q;obtain rfl:=iv g;obtain⟨F,H,I,J,cap,rfl,t,u,w,z,A,B⟩:=fM (λX sc N e m G q=>jq n X sc N e m G q) G.toGoodO h
    have C:X.env.scope.names.lookup x=some .local:=by
     rw[G.scope];unfold jV at b;simp only[Bool.and_eq_true,beq_iff_eq]at b;exact b.1.1
    exact pC f d C (by rw[kk G,b]) G.calm t z (fF 1 (by decide)) (gR (cap:=cap) (A Φ) u w B) (l b)
 |SetComp=>cases n<;>cases h
 |DictComp=>cases n<;>cases h
 |_=>exact plain rfl
theorem vW{e:Expr}{t:Option Expr}{l:Nat}{env:Env}(h:kW e=false):swapsWith e t l env=pure false:=by
 cases e<;>first|rfl | (cases h)
theorem mu(G:dy X κ T k sc N):∀(n:Nat) (d:Nat) (st:Stmt) (c:SM),jt T td d sc N n st=some c->nz X κ Φ st c:=by
 intro n d;have E:∀e m,bL T d sc N e=some m->gZ X κ e m:=λe m q=>jq d X sc N e m G.toGoodO q
 induction n with
 |zero=>intro st c h;cases h
 |succ n M=>
  intro st c h;have B:∀D c,er (jt T td d sc N n) D=some c->kc X κ Φ D c:=λD c q=>fh M q
  have O:X.N.Nodup:=by rw[G.names];exact G.ku
  cases st with
  |Return v f=>
   cases v with
   |none=>cases h
   |some e=>
    replace h:some (match bL T d sc N e with
   |some m=>a_ m
   |none=>jk)=some c:=h
    cases h;split
    .rename_i m g
     exact sN ((E e m g).1 Φ)
    .exact nA
  |Assign P e f=>
   cases P with
   |nil=>cases h
   |cons t r=>
   cases r with
   |cons t2 r=>cases t<;>cases h
   |nil=>
   cases t with
   |Name x I=>
    replace h:lu T td d sc N x I e f=some c:=h;unfold lu at h;split at h
    .rename_i i J
     .split at h
      .rename_i m K
       split at h
       .split at h
        .rename_i s Q
         cases h;exact mr G J K λ_=>eq_of_beq Q
        .cases h
       .rename_i s
        cases h;exact mr G J K λq=>absurd q s
      .cases h
    .cases h
   |Tuple F j p=>
    replace h:lx T d sc N F e=some c:=h;unfold lx at h;split at h
    .rename_i l H
     split at h
     .rename_i A m g o
      split at h
      .rename_i R
       cases h;exact sQ (kj G H g) R ((E e m o).1 Φ)
      .cases h
     .cases h
    .cases h
   |_=>cases h
  |Expr e f=>
   replace h:(if kW e=true then none else (bL T d sc N e).map gS)=some c:=h
   split at h
   .cases h
   .rename_i S
    obtain⟨m,g,rfl⟩:=bx h;exact sP (vW (by simpa using S)) ((E e m g).1 Φ)
  |If c0 a b f=>
   obtain⟨m,y,g,o,rfl⟩:=br h;obtain⟨U,u,w,z,rfl⟩:=br o;exact vP ((E c0 m g).2.1 Φ) (B a U w) (B b u z)
  |For L C b e f=>
   cases e with
   |nil=>
    cases L with
    |Name x I=>
     replace h:(if isSet C=true then none else o2 (g7 T sc N x) (o2 (ff (bL T d sc N) sc C) (er (jt T td d sc N n) b) Prod.mk) λi y=>cS (bD i) y.1 y.2)=some c:=h
     split at h
     .cases h
     .rename_i s
      obtain⟨i,y,g,o,rfl⟩:=br h;obtain⟨V,u,w,z,rfl⟩:=br o;obtain⟨Y,Z,s3⟩:=fx G g;exact mq G.own G.calm (jo G.toGoodO E w Φ _) (iO O Y Z s3) (vQ i) (B b u z) (gG (by simpa using s))
    |Tuple F j p=>
     replace h:(if isSet C=true then none else match cM F with
   |some l=>o2 (g8 T sc N l) (o2 (jr (bL T d sc N) sc C) (er (jt T td d sc N n) b) Prod.mk) λA y=>cS (kd A) y.1 y.2
   |none=>none)=some c:=h
     split at h
     .cases h
     .rename_i s
      split at h
      .rename_i l H
       obtain⟨A,y,g,o,rfl⟩:=br h;obtain⟨V,u,w,z,rfl⟩:=br o;exact mq G.own G.calm (s_ G.toGoodO E w Φ) (kj G H g) (pE A) (B b u z) (gG (by simpa using s))
      .cases h
    |_=>cases h
   |cons _ _=>cases L<;>cases h
  |_=>cases h
def bf(b:Str->Option Value):Str->Addr->Prop:=λC a=>b C=some (.ref a)
structure bP(P:Program)(w:World)(K:PySem.W.Frag)(mg:Str->Option Value)(base:Heap)(T:aO)(k:Nat):Prop where
 dm:∀x∈cy,mg x=none
 hY:∀x F,T.hY.lookup x=some F->∃(f:Addr) (fd:FuncData) (ps:List Str),mg x=some (.ref f)/\PySem.W.keepIn K (.ref f)=true/\Binds K fd ps []/\bO P w K mg base dt k f fd ps (gC F)
 fn:∀x F,T.fn.lookup x=some F->∃(f:Addr) (fd:FuncData) (ps:List Str),mg x=some (.ref f)/\PySem.W.keepIn K (.ref f)=true/\Binds K fd ps []/\bO P w K mg base dt k f fd ps (b8 (bf mg) F)
 cst:∀x d,T.cst.lookup x=some d->∃v u,mg x=some u/\RelV v u/\df d=some v
 met:∀m C F,(m,C,F)∈T.met->∃(Ca f:Addr) (fd:FuncData) (ps:List Str),(∀a,bf mg C a->a=Ca)/\qV K Ca/\Meth K Ca m f/\Binds K fd ps []/\bO P w K mg base dt k f fd ps (b8 (bf mg) F)
 cls:∀C F,T.cls.lookup C=some F->∃j,j+1<=k/\∃(Ca f:Addr) (fd:FuncData) (ps:List Str),bf mg C Ca/\Mk K Ca f/\mg C=some (.ref Ca)/\Binds K fd ps []/\bO P w K mg base dt j f fd ps (b8 (bf mg) F)
 fld:∀f Cs,T.fld.lookup f=some Cs->lh K (bf mg) Cs f
 clo:(∀j F,T.clo[j]?=some F->ke P w K mg base (bf mg) k j F)/\fL P w K mg base (bf mg) k T.xs
def dW(T:aO)(td:List Str)(st:Stmt)(N:List Str):Option SM:=er (jt T td 60 (ai st) N 30) (aY st)
end
section
variable{P:Program}{w:World}{K:PySem.W.Frag}{mg:Str->Option Value}{base:Heap}{T:aO}{k:Nat}
theorem cZ(W:bP P w K mg base T k){x qual:Str}{st:Stmt}{f:Addr}{t:FuncData}(F:rg K x qual st f t){N ps td:List Str}{c:SM}(u:cY N ps (ai st)=true)(D:dW T td st N=some c) :
    bO P w K mg base dt (k+1) f t ps (b8 (bf mg) (cD N.length ps.length c)):=by
  refine F.ok (fW u) (λI H Q E h=>?_) λn A outer s H I Q E J h=>?_
  · obtain⟨e,Z,i,l,S,r,g⟩:=h
    rw[r.length];unfold cD at g;split at g
    · rename_i L;exact L
    · exact g.elim
  · obtain⟨e,Z,i,l,S,r,g⟩:=h
    have y:=fW u
    have G:dy (c5 dt P w K mg base N qual (ai st) f n A outer s H E).h8 (bf mg) T k (ai st) N:=
      { scope:=rfl,names:=rfl,calm:=rfl,room:=J,dm:=W.dm,own:=PassesOwn.never,Bp:=λ_ _ _=>.inl rfl,ku:=y.nd,kind:=y.kind,h8:=λ_ _ _ h=>h,fld:=W.fld,cst:=W.cst
        hY:=λx F h=>⟨W.hY x F h⟩,fn:=λx F h=>⟨W.fn x F h⟩,met:=λm C F h=>⟨W.met m C F h⟩,cls:=λC F h=>let ⟨j,M,O⟩:=W.cls C F h;⟨j,M,⟨O⟩⟩,clo:=W.clo }
    refine⟨ye (bf mg) eF e Z H c (cm N.length l) i,fh (mu G 30 60) D e Z H (cm N.length l) i,e,Z,gW S r,?_⟩;unfold cD at g;split at g
    · cases q:c (cm N.length l) i with
      |rt d a=>rw[q]at g;exact λv o b p R st r=>g v o b p R st r
      |nx z a=>rw[q]at g;exact λU o b p B=>g .non o b p B.gr B.st (aM rfl)
      |bk z a=>rw[q]at g;exact g.elim
      |ct z a=>rw[q]at g;exact g.elim
      |exc x a=>rw[q]at g;exact g
      |bad=>rw[q]at g;exact g.elim
    · exact g.elim
theorem tf{F:bE}{az:av}{H:Hp}{a:Addr}{ns:List Int}{κ:Str->Addr->Prop}(hR:Rd H a (.lst (ns.map V.int)))(h:F [.lst (ns.map D.int)] []=.ok (.bl true) az):b8 κ F [.ref a] H (λv _=>v=.bl true) E0:=by
 refine⟨[],λb=>b=a,[],[.lst (ns.map D.int)],⟨List.nodup_nil,.nil,λ_ h=>by simp at h,λb e=>?_⟩,.one ?_,?_⟩
 .subst e
  rcases hR with e|⟨o,e⟩<;>rw[e]<;>simp
 .simp only[aj]
  refine⟨a,ns.map V.int,rfl,rfl,hR,?_⟩;clear h hR
  induction ns with
  |nil=>exact aJ.mpr .nil
  |cons n ns c=>exact aJ.mpr (.cons (by simp only[aj]) (aJ.mp c))
 .rw[h]
  intro v f d i g s r;simpa only [aj]using r
theorem bP.mono(W:bP P w K mg base T k){j:Nat}(h:k<=j):bP P w K mg base T j:=
 ⟨W.dm,λx F q=>let ⟨f,g,i,a,b,c,d⟩:=W.hY x F q;⟨f,g,i,a,b,c,d.mono h⟩,λx F q=>let ⟨f,g,i,a,b,c,d⟩:=W.fn x F q;⟨f,g,i,a,b,c,d.mono h⟩,W.cst,
  λm C F q=>let ⟨l,f,g,i,a,b,c,d,e⟩:=W.met m C F q;⟨l,f,g,i,a,b,c,d,e.mono h⟩,λC F q=>let ⟨n,o,p⟩:=W.cls C F q;⟨n,Nat.le_trans o h,p⟩,W.fld,⟨λj F q=>(W.clo.1 j F q).mono h,W.clo.2.mono h⟩⟩
end
noncomputable def aO.ti(T:aO)(x:Str)(F:List D->Out Rs):aO:={T with hY:=(x,F)::T.hY}
noncomputable def aO.dG(T:aO)(x:Str)(F:bE):aO:={T with fn:=(x,F)::T.fn}
noncomputable def aO.tj(T:aO)(x:Str)(d:D):aO:={T with cst:=(x,d)::T.cst}
theorem fy{a:Type}{x y:Str}{F G:a}{l:List (Str×a)}(h:((x,F)::l).lookup y=some G):(y=x/\G=F)\/l.lookup y=some G:=by
 rw[List.lookup_cons]at h;cases e:y==x with
 |true=>rw[e]at h;cases h;exact .inl ⟨eq_of_beq e,rfl⟩
 |false=>rw[e]at h;exact .inr h
section
variable{P:Program}{w:World}{K:PySem.W.Frag}{mg:Str->Option Value}{base:Heap}{T:aO}{k:Nat}
theorem bP.start(a:∀x∈cy,mg x=none):bP P w K mg base {} 0:=
 ⟨a,λx F h=>(by cases h),λx F h=>(by cases h),λx d h=>(by cases h),λm C F h=>(by cases h),λC F h=>(by cases h),λf b h=>(by cases h),⟨λj F h=>(by cases h),λC F h=>(by cases h),λf b h=>(by cases h),λx t h=>(by cases h)⟩⟩
theorem bP.Bq(W:bP P w K mg base T k){t:XT}(G:fL P w K mg base (bf mg) k t):bP P w K mg base {T with xs:=t} k:=⟨W.dm,W.hY,W.fn,W.cst,W.met,W.cls,W.fld,⟨W.clo.1,G⟩⟩
theorem bP.ti(W:bP P w K mg base T k){x:Str}{F:List D->Out Rs}{f:Addr}{a:FuncData}{ps:List Str}{j:Nat}(b:mg x=some (.ref f))(c:PySem.W.keepIn K (.ref f)=true)(d:Binds K a ps [])(h:bO P w K mg base dt j f a ps (gC F))(e:j<=k) :
  bP P w K mg base (T.ti x F) k:=
 ⟨W.dm,λy G q=>by
  rcases fy q with ⟨rfl,rfl⟩|q
  .exact⟨f,a,ps,b,c,d,h.mono e⟩
  .exact W.hY y G q,W.fn,W.cst,W.met,W.cls,W.fld,W.clo⟩
theorem bP.dG(W:bP P w K mg base T k){x:Str}{F:bE}{f:Addr}{b:FuncData}{ps:List Str}(c:mg x=some (.ref f))(d:PySem.W.keepIn K (.ref f)=true)(e:Binds K b ps [])(h:bO P w K mg base dt (k+1) f b ps (b8 (bf mg) F)) :
  bP P w K mg base (T.dG x F) (k+1):=by
 have a:=W.mono (Nat.le_succ k)
 exact⟨a.dm,a.hY,λy G q=>by
  rcases fy q with ⟨rfl,rfl⟩|q
  .exact⟨f,b,ps,c,d,e,h⟩
  .exact a.fn y G q,a.cst,a.met,a.cls,a.fld,a.clo⟩
theorem bP.tj(W:bP P w K mg base T k){x:Str}{d:D}{v:V}{u:Value}(a:mg x=some u)(b:RelV v u)(c:df d=some v):bP P w K mg base (T.tj x d) k:=
 ⟨W.dm,W.hY,W.fn,λy G q=>by
  rcases fy q with ⟨rfl,rfl⟩|q
  .exact⟨v,u,a,b,c⟩
  .exact W.cst y G q,W.met,W.cls,W.fld,W.clo⟩
end
def yo(F:bE):Sp:=λa H Q E=>∀b,b8 b F a H Q E
end Mir
namespace Mir
open PySem PySem.Spec PyProof.Rows L2
def yp:D->Bool
 |.lst ds=>ds.all de
 |d=>de d
section
variable{α:List Addr}{Z Z1:Addr->Prop}{H H1:Hp}
theorem mw{d:D}{v:V}(a:de d=true)(r:Rep Z H d v):aj α Z1 H1 d v:=by
 cases d with
 |lst _=>cases a
 |tup _=>cases a
 |ref _=>cases a
 |dct _ _=>cases a
 |_=>simp only[Rep]at r;simp only[aj];exact r
theorem nK{d:D}{v:V}(a:de d=true)(r:aj α Z1 H1 d v):Rep Z H d v:=by
 cases d with
 |lst _=>cases a
 |tup _=>cases a
 |ref _=>cases a
 |dct _ _=>cases a
 |_=>simp only[aj]at r;simp only[Rep];exact r
theorem km:∀{ds:List D}{vs:List V},ds.all de=true->aG Z H ds vs->cz α Z1 H1 ds vs
 |[],vs,_,r=>by simp only[aG]at r;simp only[cz];exact r
 |d::ds,vs,h,r=>by
  simp only[List.all_cons,Bool.and_eq_true]at h;simp only[aG]at r;obtain⟨v,a,e,h1,h2⟩:=r;simp only[cz];exact⟨v,a,e,mw h.1 h1,km h.2 h2⟩
theorem yq{d:D}{v:V}(h:yp d=true)(r:Rep Z H d v):aj α Z H d v:=by
 cases d with
 |lst g=>
  simp only[Rep]at r;obtain⟨a,b,e,z,c,f⟩:=r;simp only[aj];exact⟨a,b,e,z,c,km h f⟩
 |tup _=>cases h
 |ref _=>cases h
 |dct _ _=>cases h
 |_=>exact mw rfl r
theorem pR:∀{ds:List D}{vs:List V},ds.all yp=true->aG Z H ds vs->aE (aj α Z H) ds vs
 |[],vs,_,r=>by simp only[aG]at r;subst r;exact .nil
 |d::ds,vs,h,r=>by
  simp only[List.all_cons,Bool.and_eq_true]at h;simp only[aG]at r;obtain⟨v,a,rfl,h1,h2⟩:=r;exact .cons (yq h.1 h1) (pR h.2 h2)
end
variable [aA]
def pureOf(O:bE):List D->Out Rs:=λa=>if a.all yp=true then (match O a []with
  |.ok d _=>if de d=true then .ok (false,d)else .bad
  |_=>.bad)else .bad
section
variable{P:Program}{w:World}{K:PySem.W.Frag}{mg:Str->Option Value}{base:Heap}{k:Nat}{f:Addr}{fd:FuncData}{ps:List Str}{O:bE}
theorem tm(h:bO P w K mg base dt k f fd ps (b8 (bf mg) O)):bO P w K mg base dt k f fd ps (gC (pureOf O)):=h.imp λD H Q E q=>by
 obtain⟨Z,i,t,d,c,r,e,g⟩:=q;unfold pureOf at e
 by_cases j:i.all yp=true
 .rw[if_pos j]at e
  refine⟨[],Z,[],i,⟨List.nodup_nil,.nil,λa l=>by simp at l,c⟩,pR j r,?_⟩
  cases m:O i []with
  |exc x u=>rw[m]at e;cases e
  |bad=>rw[m]at e;cases e
  |ok y u=>
   rw[m]at e;dsimp only at e
   by_cases n:de y=true
   .rw[if_pos n]at e
    cases e;intro v z A F p G B;refine g v z Z ⟨λb o C=>p.frm b o C (by simp),λ_ h=>h,λ_ h=>.inl h,λa l=>?_⟩ (.rep (nK n B))
    cases s:H a with
    |none=>exact absurd s (c a l)
    |some o=>rw[p.frm a o s (by simp)];simp
   .rw[if_neg n]at e;cases e
 .rw[if_neg j]at e;cases e
end
end Mir
namespace Mir
open PySem
@[simp] theorem yr:jO .non=some false:=rfl
@[simp] theorem zP{b:Bool}:jO (.bl b)=some b:=rfl
@[simp] theorem yt{i:Int}:jO (.int i)=some (i != 0):=rfl
@[simp] theorem yu{xs:List D}:jO (.lst xs)=some (!xs.isEmpty):=rfl
@[simp] theorem yv{xs:List D}:jO (.tup xs)=some (!xs.isEmpty):=rfl
section
variable{Γ:hU}{ρ:rh}{a b:Cq}{e:Ex}{i j:Nat}{bw:Bool}
end
section
variable{bw:Bool}{i:Nat}{a b c es:Ex}
end
section
variable{Γ:hU}{ρ:rh}{bw:Bool}{i:Nat}{a b c es:Ex}
def rm(o:Bool)(f:List D->D):D->Out Rs
 |.tup ds=>if small ds.length=true then .ok (o,f ds)else .bad
 |_=>.bad
@[simp] theorem yw{o:Bool}{f:List D->D}{ds:List D}:rm o f (.tup ds)=if small ds.length=true then .ok (o,f ds)else .bad:=rfl
end
@[simp] theorem zQ{i j:Int}:da .Add (.int i) (.int j)=.ok (false,.int (i+j)):=rfl
@[simp] theorem zR{i j:Int}:da .Sub (.int i) (.int j)=.ok (false,.int (i - j)):=rfl
@[simp] theorem zS{i j:Int}:da .Mult (.int i) (.int j)=if (hT i||hT j)=true then .ok (false,.int (i*j))else .bad:=rfl
@[simp] theorem zT{i j:Int}:da .FloorDiv (.int i) (.int j)=if (decide (0<j)&&decide (j<1073741824))=true then .ok (false,.int (i / j))else .bad:=rfl
@[simp] theorem zU{i j:Int}:da .Mod (.int i) (.int j)=if decide (0<j)=true then .ok (false,.int (i%j))else .bad:=rfl
@[simp] theorem zV{i j:Int}:da .Pow (.int i) (.int j)=if (decide (0<=j)&&decide (j<=1000)&&decide (i.natAbs<2 ^ 64))=true then .ok (false,.int (i ^ j.toNat))else .bad:=rfl
@[simp] theorem yx{i j:Str}:da .Add (.str i) (.str j)=if small (i.length+j.length)=true then .ok (false,.str (i++j))else .bad:=rfl
@[simp] theorem yy{i j:List D}:da .Add (.lst i) (.lst j)=if small (i.length+j.length)=true then .ok (true,.lst (i++j))else .bad:=rfl
@[simp] theorem Br{x y:D}:dc .Eq x y=if (aD 8 x&&aD 8 y)=true then .ok (c6 x y)else .bad:=rfl
@[simp] theorem Bs{x y:D}:dc .NotEq x y=if (aD 8 x&&aD 8 y)=true then .ok (!c6 x y)else .bad:=rfl
@[simp] theorem Bt{i j:Int}:dc .Lt (.int i) (.int j)=.ok (decide (i<j)):=rfl
@[simp] theorem Bu{i j:Int}:dc .LtE (.int i) (.int j)=.ok (decide (i<=j)):=rfl
@[simp] theorem cmp_gt{i j:Int}:dc .Gt (.int i) (.int j)=.ok (decide (j<i)):=rfl
@[simp] theorem Bv{i j:Int}:dc .GtE (.int i) (.int j)=.ok (decide (j<=i)):=rfl
@[simp] theorem Bw{x y:D}:dc .In x y=inD x y:=rfl
@[simp] theorem zW{x y:D}:dc .NotIn x y=inD x y >>= λb=>.ok (!b):=rfl
@[simp] theorem Bx{x y:D}:dc .Is x y=isD x y:=rfl
@[simp] theorem zX{x y:D}:dc .IsNot x y=isD x y >>= λb=>.ok (!b):=rfl
@[simp] theorem By{n:Nat}:aD n .non=true:=by cases n<;>rfl
@[simp] theorem CA{n:Nat}{b:Bool}:aD n (.bl b)=true:=by cases n<;>rfl
@[simp] theorem Bz{n:Nat}{i:Int}:aD n (.int i)=true:=by cases n<;>rfl
@[simp] theorem BA{n:Nat}{x:Str}:aD n (.str x)=true:=by cases n<;>rfl
@[simp] theorem BB{n:Nat}{xs:List D}:aD (n+1) (.lst xs)=xs.all (aD n):=rfl
@[simp] theorem BC{n:Nat}{xs:List D}:aD (n+1) (.tup xs)=xs.all (aD n):=rfl
@[simp] theorem eq_int{i j:Int}:c6 (.int i) (.int j)=(i==j):=rfl
@[simp] theorem CB{i j:Bool}:c6 (.bl i) (.bl j)=(i==j):=rfl
@[simp] theorem eq_str{i j:Str}:c6 (.str i) (.str j)=(i==j):=rfl
@[simp] theorem vX{i j:List D}:c6 (.lst i) (.lst j)=c7 i j:=rfl
@[simp] theorem vY{i j:List D}:c6 (.tup i) (.tup j)=c7 i j:=rfl
@[simp] theorem zY:c7 [] []=true:=rfl
@[simp] theorem pS{x y:D}{xs a:List D}:c7 (x::xs) (y::a)=(c6 x y&&c7 xs a):=rfl
@[simp] theorem BD{y:D}{a:List D}:c7 [] (y::a)=false:=rfl
@[simp] theorem BE{y:D}{a:List D}:c7 (y::a) []=false:=rfl
theorem tp{z:Str}{i:Int}{c:Nat}(h:small z.length=true)(e:L2.ft z.cps.toList i=some c):kN (.str z) (.int i)=.ok (false,.str (dM c)):=by
 simp only[kN,h,if_pos,e]
@[simp] theorem zZ{xs:List D}{l h:Option Int}:om (.lst xs) l h=.ok (true,.lst (cf xs l h)):=rfl
@[simp] theorem z4{z:Str}{l h:Option Int}:om (.str z) l h=if small z.length=true then .ok (false,.str ⟨(cf z.cps.toList l h).toArray⟩)else .bad:=rfl
@[simp] theorem BF{t:Ty}:oq .non t=some false:=rfl
@[simp] theorem CC{t:Ty}{b:Bool}:oq (.bl b) t=some (t==.bool||t==.int):=rfl
@[simp] theorem ty_int{t:Ty}{i:Int}:oq (.int i) t=some (t==.int):=rfl
@[simp] theorem ty_str{t:Ty}{x:Str}:oq (.str x) t=some (t==.str):=rfl
@[simp] theorem BG{t:Ty}{xs:List D}:oq (.lst xs) t=some (t==.list):=rfl
@[simp] theorem BH{t:Ty}{xs:List D}:oq (.tup xs) t=some (t==.tuple):=rfl
@[simp] theorem BI{t:Ty}{a:List L2.Key}{xs:List D}:oq (.dct a xs) t=some (t==.dict):=rfl
theorem b9{n:Nat}(h:n<=100000):small n=true:=by
 unfold small;rw[decide_eq_true_eq,sizeLine_eq];omega
theorem f_{i:Int}(a : -(2 ^ 64)<i)(b:i<2 ^ 64):hT i=true:=decide_eq_true (by omega)
theorem fi{i:Int}(a : -(2 ^ 62)<i)(b:i<2 ^ 62):gp i=true:=decide_eq_true (by omega)
theorem vZ{b:Type}{xs:List b}{i:Int}(c:0<=i)(d:i<xs.length):∃x,x∈xs/\L2.ft xs i=some x:=by
 have a:i.toNat<xs.length:=by omega
 refine⟨xs[i.toNat],List.getElem_mem a,?_⟩;have h:=L2.eS (List.getElem?_eq_getElem a);rw[show(i.toNat:Int)=i by omega]at h
 exact h
@[simp] theorem in_str{x y:Str}:inD (.str x) (.str y)=.ok (uo x y):=rfl
theorem bS(n:Nat):∀a:Int,(intsFrom a n).length=n:=by
 induction n with
 |zero=>intro a;rfl
 |succ n b=>intro a;simp[intsFrom,b]
theorem c3{n:Nat}:∀{a:Int}{i:Nat}{d:D},(intsFrom a n)[i]?=some d->d=.int (a+i)/\i<n:=by
 induction n with
 |zero=>intro a i d h;simp[intsFrom]at h
 |succ n b=>
  intro a i d h;cases i with
  |zero=>simp[intsFrom]at h;subst h;exact⟨by simp,by omega⟩
  |succ i=>
   simp[intsFrom]at h;obtain⟨c,e⟩:=b h;exact⟨by rw[c];congr 1;omega,by omega⟩
theorem str_len{z:Str}:z.length=z.cps.toList.length:=by unfold Str.length;simp
theorem g_{c:Nat}:(dM c).length=1:=rfl
noncomputable def L1(xs:List Str):D:=.lst (xs.map .str)
theorem pT{a:Type}(xs:List a)(k:Nat):cf xs (some (k:Int)) none=xs.drop k:=by
 unfold cf;rw[HT.jL,HT.lH];rcases Nat.le_total k xs.length with h|h
 .rw[Nat.min_eq_left h]
  exact List.take_of_length_le (by simp)
 .rw[Nat.min_eq_right h,List.drop_eq_nil_of_le (Nat.le_refl _),List.drop_eq_nil_of_le h];simp
theorem pU{a:Type}(xs:List a)(k:Nat):cf xs none (some (k:Int))=xs.take k:=by
 unfold cf;rw[HT.jL,HT.lH,List.drop_zero,Nat.sub_zero];rcases Nat.le_total k xs.length with h|h
 .rw[Nat.min_eq_left h]
 .rw[Nat.min_eq_right h,List.take_of_length_le (Nat.le_refl _),List.take_of_length_le h]
@[simp] theorem CD{a:Type}(xs:List a):cf xs (some 1) none=xs.tail:=by rw[show(1:Int)=((1:Nat):Int)from rfl,pT];simp
noncomputable def freeOf(rs:List (List Str)):List Str->Option Str
 |[]=>none
 |n::_=>if ∃t∈rs,n∈t.tail then none else some n
def free(rs:List (List Str)):Option Str:=rs.findSome? (freeOf rs)
@[simp] theorem BJ{x:Str}:isD (.str x) .non=.ok false:=rfl
@[simp] theorem z5:isD .non .non=.ok true:=rfl
@[simp] theorem BK{x:Int}:isD (.int x) .non=.ok false:=rfl
@[simp] theorem BL{x:List D}:isD (.lst x) .non=.ok false:=rfl
abbrev Fn:=List D->Out Rs
def et(a:Int->Int->Int->Int)(F:Fn):Prop:=∀c t m,0<=t->t<100000->0<m->0<=a c t m/\a c t m<m/\F [.int c,.int t,.int m]=.ok (false,.int (a c t m))
noncomputable def SC(ns:List Int):D:=.lst (ns.map .int)
theorem ints_map(a:Int)(n:Nat):intsFrom a n=(List.range n).map λ(i:Nat)=>D.int (a+i):=by
 apply List.ext_getElem?;intro i
 by_cases h:i<n
 .have b:i<(intsFrom a n).length:=by rw[bS];exact h
  have e:=(c3 (List.getElem?_eq_getElem b)).1;rw[List.getElem?_eq_getElem b,e];simp[h]
 .rw[List.getElem?_eq_none (by rw[bS];omega),List.getElem?_eq_none (by simp;omega)]
theorem iF(n:Nat):intsFrom 0 n=(List.range n).map λ(i:Nat)=>D.int i:=by
 rw[ints_map];congr 1;funext i;simp
noncomputable def abc:Str:="abcdefghijklmnopqrstuvwxyz"
theorem v3:∀q:Nat,q<26->abc.cps.toList[q]?=some (97+q):=by decide
theorem mx{q:Int}(a:0<=q)(b:q<26):kN (.str abc) (.int q)=.ok (false,.str (dM (97+q.toNat))):=by
 refine tp (b9 (by decide)) ?_
 have:=L2.eS (v3 q.toNat (by omega))
 rwa[show((q.toNat:Nat):Int)=q by omega]at this
noncomputable def bs(a:Int->Int->Int->Int)(c:Int):List D:=(List.range 8).map λ(i:Nat)=>.int (a c i 26)
section
variable{Γ:hU}{M:Fn}{μ:Int->Int->Int->Int}{c:Int}{m:Nat}
def Nm(b:Int->Int->Int->Int)(c:Int)(m a k:Nat)(z:Str):Prop:=
 z.length<=8/\if b c 10 4=1/\m<9 then z.length=k+1 else z.cps.toList[a]?=some (97+((b c a 26+k)%26).toNat)
theorem yz{a k b:Nat}{z d:Str}(i:k<m)(g:b<m)(j:m<=24)(h:Nm μ c m a k z)(h':Nm μ c m a b d)(e:z=d):k=b:=by
 subst e;obtain⟨_,h⟩:=h;obtain⟨_,h'⟩:=h'
 by_cases f:μ c 10 4=1/\m<9
 .rw[if_pos f]at h h';omega
 .rw[if_neg f]at h h'
  rw[h]at h';have:=Option.some.inj h';omega
end
section
variable{Γ:hU}
noncomputable def behind(rs:List (List Str)):List Str:=rs.flatMap List.tail
end
@[simp] theorem CF{xs:List Str}{t:Ty}:oq (L1 xs) t=some (t==.list):=rfl
@[simp] theorem CG{a b:Bool}:isD (.bl a) (.bl b)=.ok (a==b):=rfl
open L2
section
variable{α β:Type}{Ω az:av}{ρ:aF}{d x y:D}{ma mb mc mi:EM}{as:AM}{a b:SM}
@[simp] theorem dX{a:α}{f:α->av->ak β}:(ak.ok a Ω).bind f=f a Ω:=rfl
@[simp] theorem BN{f:α->av->ak β}:(ak.exc x Ω:ak α).bind f=.exc x Ω:=rfl
@[simp] theorem BO{f:α->av->ak β}:(ak.bad:ak α).bind f=.bad:=rfl
@[simp] theorem pV{a:α}{k:α->av->eG}:cE (.ok a Ω) k=k a Ω:=rfl
@[simp] theorem BP{k:α->av->eG}:cE (.exc x Ω:ak α) k=.exc x Ω:=rfl
@[simp] theorem BQ{k:α->av->eG}:cE (.bad:ak α) k=.bad:=rfl
@[simp] theorem CH{b:ak D}:hF (.ok d Ω) b=.ok d Ω:=rfl
@[simp] theorem BR{b:ak D}:hF (.exc d Ω) b=.exc d Ω:=rfl
@[simp] theorem BS{b:ak D}:hF .bad b=b:=rfl
@[simp] theorem CI{f:D->av->ak D}:m1 f ma ρ Ω=(ma ρ Ω).bind f:=rfl
@[simp] theorem iG{f:D->D->av->ak D}:m2 f ma mb ρ Ω=(ma ρ Ω).bind λx a=>(mb ρ a).bind λy b=>f x y b:=rfl
@[simp] theorem CJ{f:List D->av->ak D}:mN f as ρ Ω=(as ρ Ω).bind f:=rfl
@[simp] theorem tq:ag ρ Ω=.ok [] Ω:=rfl
@[simp] theorem pW:aa ma as ρ Ω=(ma ρ Ω).bind λx a=>(as ρ a).bind λxs b=>.ok (x::xs) b:=rfl
noncomputable def vr:Option (Option D)->av->ak D
 |some (some d),Ω=>.ok d Ω
 |_,_=>.bad
@[simp] theorem tr:vr (some (some d)) Ω=.ok d Ω:=rfl
@[simp] theorem tw{i:Nat}:af i ρ Ω=vr ρ[i]? Ω:=by
 unfold af;cases ρ[i]? with
 |none=>rfl
 |some o=>cases o<;>rfl
@[simp] theorem z6:ae d ρ Ω=.ok d Ω:=rfl
@[simp] theorem ju{c:Cell}:jZ Ω c=.ok (.ref Ω.length) (Ω++[c]):=rfl
noncomputable def tb(Ω:av):Option Bool->ak Bool
 |some b=>.ok b Ω
 |none=>.bad
@[simp] theorem tB{t:Bool}:tb Ω (some t)=.ok t Ω:=rfl
@[simp] theorem tD:cP (.ok d Ω)=tb Ω (e6 Ω d):=by simp only[cP];cases e6 Ω d<;>rfl
@[simp] theorem tE{t:Bool}:e6 Ω (.bl t)=some t:=rfl
@[simp] theorem yA:e6 Ω .non=some false:=rfl
@[simp] theorem yB{i:Int}:e6 Ω (.int i)=some (i != 0):=rfl
noncomputable def wL(t:Option Bool)(a b:ak D):ak D:=match t with
 |some true=>a
 |some false=>b
 |none=>.bad
@[simp] theorem CK{a b:ak D}:Mir.wL (some true) a b=a:=rfl
@[simp] theorem CL{a b:ak D}:Mir.wL (some false) a b=b:=rfl
@[simp] theorem z7:gK ma mb ρ Ω=(ma ρ Ω).bind λx a=>Mir.wL (e6 a x) (mb ρ a) (.ok x a):=by
 unfold gK;cases ma ρ Ω with
 |ok x a=>
  simp only[dX];cases e6 a x with
  |none=>rfl
  |some t=>cases t<;>rfl
 |exc x a=>rfl
 |bad=>rfl
@[simp] theorem BU:nj ma mb ρ Ω=(ma ρ Ω).bind λx a=>Mir.wL (e6 a x) (.ok x a) (mb ρ a):=by
 unfold nj;cases ma ρ Ω with
 |ok x a=>
  simp only[dX];cases e6 a x with
  |none=>rfl
  |some t=>cases t<;>rfl
 |exc x a=>rfl
 |bad=>rfl
@[simp] theorem z8:jj ma ρ Ω=(cP (ma ρ Ω)).bind λt a=>.ok (.bl (!t)) a:=rfl
@[simp] theorem BV:yb mc ma mb ρ Ω=(cP (mc ρ Ω)).bind λt a=>if t=true then ma ρ a else mb ρ a:=rfl
@[simp] theorem tF{f g:D->av->ak D}:vC f g x Ω=hF (f x Ω) (g x Ω):=rfl
@[simp] theorem fj{f g:D->D->av->ak D}:dj f g x y Ω=hF (f x y Ω) (g x y Ω):=rfl
@[simp] theorem z9{f g:List D->av->ak D}{xs:List D}:nr f g xs Ω=hF (f xs Ω) (g xs Ω):=rfl
@[simp] theorem z_{f g:EM}:jd f g ρ Ω=hF (f ρ Ω) (g ρ Ω):=rfl
@[simp] theorem Aa{n:Nat}:cT Ω n .non=some .non:=by cases n<;>rfl
@[simp] theorem BW{n:Nat}{t:Bool}:cT Ω n (.bl t)=some (.bl t):=by cases n<;>rfl
@[simp] theorem Ab{n:Nat}{i:Int}:cT Ω n (.int i)=some (.int i):=by cases n<;>rfl
@[simp] theorem my{n:Nat}{z:Str}:cT Ω n (.str z)=some (.str z):=by cases n<;>rfl
@[simp] theorem BX{f:α->Option β}:aT f []=some []:=rfl
noncomputable def oc:Option α->Option (List α)->Option (List α)
 |some y,some ys=>some (y::ys)
 |_,_=>none
@[simp] theorem Ac{y:α}{a:List α}:oc (some y) (some a)=some (y::a):=rfl
@[simp] theorem tG{f:α->Option β}{x:α}{xs:List α}:aT f (x::xs)=oc (f x) (aT f xs):=by
 simp only[aT];cases f x<;>cases aT f xs<;>rfl
theorem pX{a:Type}{f:β->Option a}{g:α->β}{h:α->a}(e:∀x,f (g x)=some (h x)):∀xs:List α,aT f (xs.map g)=some (xs.map h)
 |[]=>rfl
 |x::xs=>by rw[List.map_cons,tG,e,pX e xs];rfl
@[simp] theorem tH{n:Nat}{xs:List Str}:aT (cT Ω n) (xs.map .str)=some (xs.map .str):=pX (λ_=>my) xs
theorem tI{n:Nat}{ds es:List D}(h:aT (cT Ω n) ds=some es):cT Ω (n+1) (.lst ds)=some (.lst es):=by simp only[cT,h,Option.map_some]
theorem tJ{n:Nat}{ds es:List D}(h:aT (cT Ω n) ds=some es):cT Ω (n+1) (.tup ds)=some (.tup es):=by simp only[cT,h,Option.map_some]
theorem gb{n k:Nat}{ds es:List D}(a:Ω[k]?=some (.lst ds))(h:aT (cT Ω n) ds=some es):cT Ω (n+1) (.ref k)=some (.lst es):=by simp only[cT,a,h,Option.map_some]
theorem pY{n k:Nat}{xs:List Str}(a:Ω[k]?=some (.lst (xs.map .str))):cT Ω (n+1) (.ref k)=some (L1 xs):=gb a tH
@[simp] theorem Ad{o:Bool}{i:Int}:du Ω (.ok (o,.int i))=.ok (.int i) Ω:=rfl
@[simp] theorem BY{o:Bool}{t:Bool}:du Ω (.ok (o,.bl t))=.ok (.bl t) Ω:=rfl
@[simp] theorem tK{o:Bool}{z:Str}:du Ω (.ok (o,.str z))=.ok (.str z) Ω:=rfl
@[simp] theorem Ae{o:Bool}:du Ω (.ok (o,.non))=.ok .non Ω:=rfl
@[simp] theorem Af:du Ω .bad=.bad:=rfl
def vN(Ω:av)(f:List D->Out Rs):Option (List D)->ak D
 |some ds=>du Ω (f ds)
 |none=>.bad
@[simp] theorem Ag{f:List D->Out Rs}{ds:List D}:vN Ω f (some ds)=du Ω (f ds):=rfl
@[simp] theorem mz{f:List D->Out Rs}{xs:List D}:bJ f xs Ω=vN Ω f (aT (cT Ω 8) xs):=by unfold bJ;cases aT (cT Ω 8) xs<;>rfl
def v1(Ω:av)(f:D->Out Rs):Option D->ak D
 |some d=>du Ω (f d)
 |none=>.bad
@[simp] theorem Ah{f:D->Out Rs}:v1 Ω f (some d)=du Ω (f d):=rfl
@[simp] theorem Ai{f:D->Out Rs}:m_ f x Ω=v1 Ω f (cT Ω 8 x):=by unfold m_;cases cT Ω 8 x<;>rfl
def v2(Ω:av)(f:D->D->Out Rs):Option D->Option D->ak D
 |some d,some e=>du Ω (f d e)
 |_,_=>.bad
@[simp] theorem tL{f:D->D->Out Rs}{e:D}:v2 Ω f (some d) (some e)=du Ω (f d e):=rfl
@[simp] theorem jv{f:D->D->Out Rs}:dE f x y Ω=v2 Ω f (cT Ω 8 x) (cT Ω 8 y):=by unfold dE;cases cT Ω 8 x<;>cases cT Ω 8 y<;>rfl
@[simp] theorem yC{z:Str}:sy .len [.str z]=if small z.length=true then .ok (false,.int z.length)else .bad:=rfl
@[simp] theorem yD{i:Int}:sy .int [.int i]=.ok (false,.int i):=rfl
@[simp] theorem Aj{k:Bool}:sy .int [.bl k]=.ok (false,.int (if k then 1 else 0)):=rfl
@[simp] theorem yE{F:bE}{xs:List D}:aH F xs Ω=zN (F xs Ω):=rfl
@[simp] theorem BZ:zN (.ok d Ω)=.ok d Ω:=rfl
@[simp] theorem Ak{op:CmpOp}:bH op x y Ω=v2 Ω (λx y=>do let r ←dc op x y;Out.ok (false,D.bl r)) (cT Ω 8 x) (cT Ω 8 y):=by unfold bH;rw[jv]
@[simp] theorem Al:ax .Eq x y Ω=bH .Eq x y Ω:=rfl
@[simp] theorem Am:ax .NotEq x y Ω=bH .NotEq x y Ω:=rfl
@[simp] theorem An:ax .Lt x y Ω=bH .Lt x y Ω:=rfl
@[simp] theorem Ao:ax .LtE x y Ω=bH .LtE x y Ω:=rfl
@[simp] theorem Ap:ax .Gt x y Ω=bH .Gt x y Ω:=rfl
@[simp] theorem Aq:ax .GtE x y Ω=bH .GtE x y Ω:=rfl
@[simp] theorem Ar:ax .In x y Ω=hF (bH .In x y Ω) (eD false x y Ω):=rfl
@[simp] theorem v5:ax .NotIn x y Ω=hF (bH .NotIn x y Ω) (eD true x y Ω):=rfl
@[simp] theorem As:ax .Is x y Ω=hF (c8 false x y Ω) (bH .Is x y Ω):=rfl
@[simp] theorem v7:ax .IsNot x y Ω=hF (c8 true x y Ω) (bH .IsNot x y Ω):=rfl
@[simp] theorem yF{n:Bool}{k:Nat}:c8 n (.ref k) .non Ω=.ok (.bl n) Ω:=rfl
@[simp] theorem wQ{n:Bool}{i:Int}:c8 n (.int i) y Ω=.bad:=rfl
@[simp] theorem wR{n:Bool}:c8 n .non y Ω=.bad:=rfl
@[simp] theorem yG{n:Bool}{t:Bool}:c8 n (.bl t) y Ω=.bad:=rfl
@[simp] theorem wU{n:Bool}{z:Str}:c8 n (.str z) y Ω=.bad:=rfl
@[simp] theorem kn:aw .Add x y Ω=hF (k9 x y Ω) (hF (je x y Ω) (dE (da .Add) x y Ω)):=rfl
@[simp] theorem yH{i:Int}:je (.int i) y Ω=.bad:=rfl
@[simp] theorem yJ{z:Str}:je (.str z) y Ω=.bad:=rfl
@[simp] theorem yK{k:Nat}:je (.ref k) y Ω=.bad:=rfl
@[simp] theorem yL{xs a:List D}:je (.tup xs) (.tup a) Ω=if small (xs.length+a.length)then .ok (.tup (xs++a)) Ω else .bad:=rfl
@[simp] theorem yM:aw .Sub x y Ω=dE (da .Sub) x y Ω:=rfl
@[simp] theorem wV:aw .Mult x y Ω=dE (da .Mult) x y Ω:=rfl
@[simp] theorem yN:aw .Mod x y Ω=dE (da .Mod) x y Ω:=rfl
@[simp] theorem Au:aw .FloorDiv x y Ω=dE (da .FloorDiv) x y Ω:=rfl
@[simp] theorem Av{i:Int}:ck Ω (.int i)=none:=rfl
@[simp] theorem Aw{z:Str}:ck Ω (.str z)=none:=rfl
@[simp] theorem Ax{ds:List D}:ck Ω (.tup ds)=none:=rfl
@[simp] theorem Ay{ds:List D}:ck Ω (.lst ds)=some ds:=rfl
theorem aW{k:Nat}{ds:List D}(h:Ω[k]?=some (.lst ds)):ck Ω (.ref k)=some ds:=by simp only[ck,h]
theorem mB{k:Nat}{ds:List D}(h:Ω[k]?=some (.lst ds)):nu Ω (.ref k)=some (k,ds):=by simp only[nu,h]
def ct(Ω:av):Option (List D)->Option (List D)->ak D
 |some xs,some ys=>if small (xs.length+ys.length)then .ok (.ref Ω.length) (Ω++[.lst (xs++ys)])else .bad
 |_,_=>.bad
@[simp] theorem mD{xs a:List D}:ct Ω (some xs) (some a)=if small (xs.length+a.length)then .ok (.ref Ω.length) (Ω++[.lst (xs++a)])else .bad:=rfl
@[simp] theorem CM{o:Option (List D)}:ct Ω none o=.bad:=rfl
@[simp] theorem mE:k9 x y Ω=ct Ω (ck Ω x) (ck Ω y):=by unfold k9;cases ck Ω x<;>cases ck Ω y<;>rfl
@[simp] theorem Az{ds:List D}:cU Ω (.tup ds)=some ds:=rfl
@[simp] theorem cw{k:Nat}:cU Ω (.ref k)=ck Ω (.ref k):=rfl
@[simp] theorem AA{ds:List D}:cU Ω (.lst ds)=some ds:=rfl
def ixs(Ω:av):Option (List D)->D->ak D
 |some ds,.int i=>match L2.ft ds i with
  |some d=>.ok d Ω
  |none=>.bad
 |_,_=>.bad
theorem jw:rY x y Ω=ixs Ω (cU Ω x) y:=by unfold rY;cases cU Ω x<;>cases y<;>rfl
theorem pZ{ds:List D}{i:Int}(h:L2.ft ds i=some d):ixs Ω (some ds) (.int i)=.ok d Ω:=by simp only[ixs,h]
theorem dn{k:Nat}{ds:List D}{i:Int}(h:Ω[k]?=some (.lst ds))(a:L2.ft ds i=some d):aV (.ref k) (.int i) Ω=.ok d Ω:=by
 unfold aV;rw[fj,jw,cw,aW h,pZ a];rfl
@[simp] theorem AB{xs:List D}:aU xs Ω=if small xs.length then .ok (.ref Ω.length) (Ω++[.lst xs])else .bad:=rfl
@[simp] theorem AD{xs:List D}:bt xs Ω=if small xs.length then .ok (.tup xs) Ω else .bad:=rfl
def fl(Ω:av)(a:List Str)(f:Str):Option (Nat×Str×List (Str×D))->ak D
 |some (_,C,fs)=>if a.contains C then (match fs.lookup f with
  |some d=>.ok d Ω
  |none=>.bad)else .bad
 |none=>.bad
noncomputable def sq(r:eG)(b:SM):eG:=match r with
 |.nx a c=>b a c
 |r=>r
@[simp] theorem c4:sq (.nx ρ Ω) b=b ρ Ω:=rfl
@[simp] theorem CN:sq (.rt d Ω) b=.rt d Ω:=rfl
@[simp] theorem CO:sq (.bk ρ Ω) b=.bk ρ Ω:=rfl
@[simp] theorem CP:sq (.ct ρ Ω) b=.ct ρ Ω:=rfl
@[simp] theorem B3:sq (.exc d Ω) b=.exc d Ω:=rfl
@[simp] theorem B4:sq .bad b=.bad:=rfl
@[simp] theorem bc:aq a b ρ Ω=sq (a ρ Ω) b:=by unfold aq;cases a ρ Ω<;>rfl
@[simp] theorem p6:au ρ Ω=.nx ρ Ω:=rfl
@[simp] theorem gc{i:Nat}:aK i ma ρ Ω=cE (ma ρ Ω) λd a=>.nx (ρ.set i (some d)) a:=rfl
@[simp] theorem tM:gS ma ρ Ω=cE (ma ρ Ω) λ_ a=>.nx ρ a:=rfl
@[simp] theorem tN:a_ ma ρ Ω=cE (ma ρ Ω) λd a=>.rt d a:=rfl
@[simp] theorem v8:dF ma a b ρ Ω=cE (cP (ma ρ Ω)) λt c=>if t=true then a ρ c else b ρ c:=rfl
@[simp] theorem uC{ds:List D}:fZ [] ds ρ=ρ:=by cases ds<;>rfl
@[simp] theorem AE:bX (.rt d Ω)=.ok d Ω:=rfl
@[simp] theorem AF:bX (.nx ρ Ω)=.ok .non Ω:=rfl
theorem eI{n k:Nat}{c:SM}{ds:List D}(h:ds.length=k):cD n k c ds Ω=bX (c (cm n ds) Ω):=by unfold cD;rw[if_pos h]
@[simp] theorem mF:ei ma ρ Ω=(ma ρ Ω).bind λx a=>srcOf a x:=rfl
theorem fA{ds:List D}(h:cU Ω x=some ds):srcOf Ω x=.ok (.seq x) Ω:=by unfold srcOf;rw[h]
@[simp] theorem yO:bp as ρ Ω=(as ρ Ω).bind mn:=rfl
@[simp] theorem AG{j:Int}:mn [.int j] Ω=if gp j then .ok (.ints 0 j.toNat) Ω else .bad:=rfl
@[simp] theorem jx:fS (.seq x) Ω=cU Ω x:=rfl
@[simp] theorem yP{a:Int}{n:Nat}:fS (.ints a n) Ω=some (intsFrom a n):=rfl
@[simp] theorem gd{a:D->aF->Option aF}{mi:IM}:cS a mi b ρ Ω=cE (mi ρ Ω) λs c=>cR a s b fuel 0 ρ c:=rfl
def uD(r:eG)(I:aF->av->Prop)(R:eG->Prop):Prop:=match r with
 |.nx a b=>I a b
 |.ct a b=>I a b
 |.bk a b=>R (.nx a b)
 |r=>R r
theorem dY{k:D->aF->Option aF}{src:Src}{b:SM}{ds:List D}(I:Nat->aF->av->Prop){R:eG->Prop}(l:∀i ρ Ω,I i ρ Ω->fS src Ω=some ds)
  (h:∀(i:Nat) (d:D) ρ Ω,ds[i]?=some d->I i ρ Ω->∃e,k d ρ=some e/\uD (b e Ω) (I (i+1)) R) (hR:∀ρ Ω,I ds.length ρ Ω->R (.nx ρ Ω)) :
  ∀(f i:Nat) ρ Ω,ds.length - i<f->i<=ds.length->I i ρ Ω->R (cR k src b f i ρ Ω):=by
 intro f
 induction f with
 |zero=>intro i ρ Ω p;omega
 |succ f o=>
  intro i ρ Ω p s n;simp only[cR,l i ρ Ω n]
  by_cases j:i<ds.length
  .have m:ds[i]?=some ds[i]:=List.getElem?_eq_getElem j
   rw[m];dsimp only;obtain⟨e,r,c⟩:=h i ds[i] ρ Ω m n;rw[r];dsimp only;cases q:b e Ω with
   |nx g a=>rw[q]at c;exact o (i+1) g a (by omega) j c
   |ct g a=>rw[q]at c;exact o (i+1) g a (by omega) j c
   |bk g a=>rw[q]at c;exact c
   |rt d a=>rw[q]at c;exact c
   |exc x a=>rw[q]at c;exact c
   |bad=>rw[q]at c;exact c
  .have m:ds[i]?=none:=List.getElem?_eq_none (by omega)
   rw[m];have:i=ds.length:=by omega
   subst this;exact hR ρ Ω n
theorem tP{nc:Bool}{mc me:EM}{c:aF}{src:Src}{ds:List D}{p:D->Bool}{g:D->D}(k:fS src Ω=some ds)(l:∀d∈ds,ka nc mc ([some d]++c) Ω=.ok (p d) Ω)(m:∀d∈ds,p d=true->me ([some d]++c) Ω=.ok (g d) Ω) :
  ∀(f i:Nat) (a:List D),ds.length - i<f->i<=ds.length->a.length+ds.length<=100000+i->qF nc mc me 0 c src f i a Ω=.ok (a++((ds.drop i).filter p).map g) Ω:=by
 intro f
 induction f with
 |zero=>intro i a o;omega
 |succ f h=>
  intro i a o s t;simp only[qF,k]
  by_cases b:i<ds.length
  .have e:ds[i]?=some ds[i]:=List.getElem?_eq_getElem b
   have j:ds[i]∈ds:=List.getElem_mem b;rw[e];have q:lg 0 ds[i]=some [some ds[i]]:=rfl;simp only[q];rw[if_pos (b9 (n:=a.length+1) (by omega)),l _ j,List.drop_eq_getElem_cons b,List.filter_cons]
   cases r:p ds[i]with
   |true=>
    dsimp only;rw[m _ j r];dsimp only;rw[h (i+1) _ (by omega) b (by rw[List.length_append];simp;omega)]
    simp
   |false=>
    dsimp only;rw[h (i+1) _ (by omega) b (by omega)]
    simp
  .have e:ds[i]?=none:=List.getElem?_eq_none (by omega)
   rw[e,List.drop_of_length_le (by omega)]
   simp
theorem dZ{me mc:EM}{nc:Bool}{mi:IM}{cap:List Nat}{src:Src}{ds:List D}{p:D->Bool}{g:D->D}(a:mi ρ Ω=.ok src az)(b:fS src az=some ds)(c:∀d∈ds,ka nc mc ([some d]++dU cap ρ) az=.ok (p d) az)(e:∀d∈ds,p d=true->me ([some d]++dU cap ρ) az=.ok (g d) az)(f:ds.length<=90000) :
  cQ me nc mc mi 0 cap ρ Ω=.ok (.ref az.length) (az++[.lst ((ds.filter p).map g)]):=by
 unfold cQ;rw[a];dsimp only;rw[tP b c e fuel 0 [] (by unfold fuel;omega) (Nat.zero_le _) (by simp;omega)]
 rfl
theorem gf{k:Nat}{c:Cell}{l:av}(h:Ω[k]?=some c):(Ω++l)[k]?=some c:=by rw[List.getElem?_append_left (List.getElem?_eq_some_iff.mp h).1];exact h
theorem aP{c:Cell}{l:av}:(Ω++c::l)[Ω.length]?=some c:=by rw[List.getElem?_append_right (Nat.le_refl _)];simp
theorem ly{j k:Nat}{c e:Cell}(h:Ω[k]?=some c)(a:k≠j):(Ω.set j e)[k]?=some c:=by rw[List.getElem?_set_ne (Ne.symm a)];exact h
theorem hh{k:Nat}{c e:Cell}(h:Ω[k]?=some c):(Ω.set k e)[k]?=some e:=List.getElem?_set_self (List.getElem?_eq_some_iff.mp h).1
theorem p7{k:Nat}{c:Cell}(h:Ω[k]?=some c):k<Ω.length:=(List.getElem?_eq_some_iff.mp h).1
structure aC(fp:List Nat)(Ω az:av):Prop where
 len:Ω.length<=az.length
 get:∀k c,Ω[k]?=some c->k∉fp->az[k]?=some c
theorem aC.refl{a:List Nat}:aC a Ω Ω:=⟨Nat.le_refl _,λ_ _ h _=>h⟩
theorem aC.trans{e:List Nat}{a b d:av}(h:aC e a b)(h':aC e b d):aC e a d:=⟨Nat.le_trans h.len h'.len,λk c q n=>h'.get k c (h.get k c q n) n⟩
theorem aC.app{a:List Nat}{l:av}:aC a Ω (Ω++l):=⟨by simp,λk c h _=>gf h⟩
theorem aC.set{a:List Nat}{j:Nat}{c:Cell}(h:j∈a):aC a Ω (Ω.set j c):=⟨by simp,λk e q n=>ly q λz=>n (z▸h)⟩
theorem aC.sub{a b:List Nat}(h:aC a Ω az)(d:∀k∈a,k∈b):aC b Ω az:=⟨h.len,λk c q n=>h.get k c q λz=>n (d k z)⟩
end
section
variable{Ω az:av}{ρ:aF}{d x y:D}{k:Nat}{ws:List Str}{w:Str}{L:List (List Str)}{rs:List Nat}
theorem mG{ds:List D}(h:Ω[k]?=some (.lst ds)):b7 .len [.ref k] Ω=.ok (.int ds.length) Ω:=by
 show hF (pe [.ref k] Ω) _=_
 simp only[pe,cw,aW h];rfl
theorem hB{ds:List D}{d:D}(h:Ω[k]?=some (.lst ds))(a:ds.length<=1000):cu (.ref k) [d] Ω=.ok .non (Ω.set k (.lst (ds++[d]))):=by
 simp only[cu,mB h];rw[if_pos (b9 (by omega))]
theorem tQ{ds:List D}(h:Ω[k]?=some (.lst ds)):kx Ω (.ref k)=true:=by simp only[kx,aW h];rfl
theorem yQ{mc me:EM}{e:aF}{src:Src}{ds:List D}{g:D->D}(I:av->Prop)(l:∀Ω,I Ω->fS src Ω=some ds)(m:∀d∈ds,∀Ω,I Ω->∃az,me ([some d]++e) Ω=.ok (g d) az/\I az) :
  ∀(f i:Nat) (a:List D) Ω,I Ω->ds.length - i<f->i<=ds.length->a.length+ds.length<=100000+i->∃az,qF true mc me 0 e src f i a Ω=.ok (a++(ds.drop i).map g) az/\I az:=by
 intro f
 induction f with
 |zero=>intro i a Ω c o;omega
 |succ f p=>
  intro i a Ω c o y z;simp only[qF,l Ω c]
  by_cases b:i<ds.length
  .have h:ds[i]?=some ds[i]:=List.getElem?_eq_getElem b
   have q:ds[i]∈ds:=List.getElem_mem b;rw[h];have r:lg 0 ds[i]=some [some ds[i]]:=rfl;obtain⟨j,s,t⟩:=m _ q Ω c;have u:ka true mc ([some ds[i]]++e) Ω=.ok true Ω:=rfl;simp only[r];rw[if_pos (b9 (n:=a.length+1) (by omega)),u,List.drop_eq_getElem_cons b]
   dsimp only;rw[s];dsimp only;obtain⟨k,w,x⟩:=p (i+1) (a++[g ds[i]]) j t (by omega) b (by rw[List.length_append];simp;omega)
   exact⟨k,by rw[w,List.append_assoc];rfl,x⟩
  .have h:ds[i]?=none:=List.getElem?_eq_none (by omega)
   rw[h,List.drop_of_length_le (by omega)]
   exact⟨Ω,by simp,c⟩
theorem v9{me mc:EM}{mi:IM}{cap:List Nat}{src:Src}{ds:List D}{g:D->D}(I:av->Prop)(b:mi ρ Ω=.ok src az)(c:I az)(e:∀Ω,I Ω->fS src Ω=some ds)(f:∀d∈ds,∀Ω,I Ω->∃az,me ([some d]++dU cap ρ) Ω=.ok (g d) az/\I az)(j:ds.length<=90000) :
  ∃a,cQ me true mc mi 0 cap ρ Ω=.ok (.ref a.length) (a++[.lst (ds.map g)])/\I a:=by
 obtain⟨a,h,i⟩:=yQ (mc:=mc) I e f fuel 0 [] az c (by unfold fuel;omega) (Nat.zero_le _) (by simp;omega)
 refine⟨a,?_,i⟩;unfold cQ;rw[b];dsimp only;rw[h];rfl
theorem p8{cg:av->D->Bool}{f:D->List D->av->ak D}{b:EM}{c:AM}(d:b ρ Ω=.ok x az)(h:cg az x=true):dS cg f b c ρ Ω=(c ρ az).bind λxs a=>f x xs a:=by
 unfold dS;rw[d]
 show(if cg az x=true then _ else _)=_
 rw[if_pos h]
end
variable [aA]
section
variable{Ω az ng vM:av}{ρ:aF}{k q:Nat}{x y:D}
theorem aC.new{a:List Nat}(h:aC [] Ω ng)(h':aC a ng vM)(b:∀j∈a,Ω.length<=j):aC [] Ω vM:=⟨Nat.le_trans h.len h'.len,λk c e _=>h'.get k c (h.get k c e (by simp)) λz=>by have:=b k z;have:=p7 e;omega⟩
theorem uE.up{a:List Nat}(h:aC [] Ω az):aC a Ω az:=h.sub (by simp)
@[simp] theorem yR{z:Str}:aV (.str z) y Ω=v2 Ω kN (some (.str z)) (cT Ω 8 y):=by
 unfold aV;rw[fj,fj,jw,jv];simp[cU,ck,ixs,ya,vE]
@[simp] theorem yS{z:Str}{l h:Option Int}:hX (.str z) l h Ω=du Ω (om (.str z) l h):=rfl
@[simp] theorem p9{d e f:EM}{g i:Bool}:dw d g e i f ρ Ω=(d ρ Ω).bind λx a=>(dQ g e ρ a).bind λl b=>(dQ i f ρ b).bind λh c=>hX x l h c:=rfl
@[simp] theorem tR{m:EM}:dQ true m ρ Ω=.ok none Ω:=rfl
noncomputable def CQ(Ω:av):D->ak (Option Int)
 |.int i=>.ok (some i) Ω
 |_=>.bad
@[simp] theorem tS{m:EM}:dQ false m ρ Ω=(m ρ Ω).bind λd a=>CQ a d:=by
 simp only[dQ,Bool.false_eq_true,if_false]
 congr 1
@[simp] theorem tT{i:Int}:CQ Ω (.int i)=.ok (some i) Ω:=rfl
end
def nC:EM:=cQ (m2 aV (af 2) (m2 (aw .Mod) (m2 (aw .Add) (af 1) (m2 (aw .Mult) (af 0) (af 3))) (ae (.int 26)))) true (ae .non) (bp (aa (ae (.int 8)) ag)) 0 [4,3,5]
def nD:EM:=cQ (dw (af 1) true (ae .non) false (m2 (aw .Add) (af 0) (ae (.int 1)))) true (ae .non) (bp (aa (af 2) ag)) 0 [6]
section
variable{Ω:av}{F:List D->Out Rs}{δ:List Int->Int->Int->Int}{ns:List Int}
end
section
variable{κ β:Type}[DecidableEq κ]
end
section
variable{Ω az:av}{F:List D->Out Rs}{δ:List Int->Int->Int->Int}{ns:List Int}{t:Nat}{kvs:List (List Key×D)}
end
theorem nL{O:bE}{ds:List D}{d:D}{az:av}(a:ds.all yp=true)(h:O ds []=.ok d az)(b:de d=true):pureOf O ds=.ok (false,d):=by
 unfold pureOf;rw[if_pos a,h];dsimp only;rw[if_pos b]
def yT:SM:=(aq (aK 3 (m2 (aw .FloorDiv) (af 3) (ae (.int 840)))) au)
def yU:SM:=(dF (gK (m2 (ax .Eq) (m2 (aw .Mod) (af 0) (ae (.int 2))) (ae (.int 1))) (m2 (ax .Gt) (af 0) (m2 (aw .Pow) (ae (.int 10)) (ae (.int 18)))))
 (aq (cS (bD 4) (bp (aa (af 1) ag)) yT)
 (aq (a_ (m2 (aw .Mod) (m2 (aw .Mod) (af 3) (ae (.int 840))) (af 2)))
 au))
 au)
def CS:SM:=(aq (aK 5 (mN aU (aa (ae (.int 48271)) (aa (ae (.int 69621)) (aa (ae (.int 40692)) (aa (ae (.int 39373)) (aa (ae (.int 16807)) (aa (ae (.int 30323)) (aa (ae (.int 21403)) (aa (ae (.int 62089)) (aa (ae (.int 45742)) (aa (ae (.int 37907)) (aa (ae (.int 53611)) (aa (ae (.int 28411)) (aa (ae (.int 59393)) (aa (ae (.int 33391)) ag))))))))))))))))
 (aq (aK 6 (m2 (aw .Mod) (m2 (aw .Mult) (m2 (aw .Add) (m2 (aw .Mod) (af 0) (ae (.int 1000000007))) (ae (.int 11))) (m2 aV (af 5) (m2 (aw .Mod) (af 1) (ae (.int 14))))) (ae (.int 2147483629))))
 (aq (aK 7 (m2 (aw .Mod) (m2 (aw .Mult) (af 6) (m2 (aw .Add) (af 6) (af 1))) (ae (.int 1999999973))))
 (aq (a_ (m2 (aw .Mod) (m2 (aw .FloorDiv) (m2 (aw .Mod) (m2 (aw .Mult) (af 7) (ae (.int 16807))) (ae (.int 998244353))) (ae (.int 1000))) (af 2)))
 au))))
def iH:SM:=
 (aq (aK 3 (m2 (aw .FloorDiv) (af 0) (ae (.int 2))))
 (aq yU CS))
@[simp] theorem yV{x y:D}{Ω:av}:aw .Pow x y Ω=dE (da .Pow) x y Ω:=rfl
theorem tU{c t m:Int}(K:0<=t)(u:t<100000)(g:0<m):∃r,0<=r/\r<m/\pureOf (cD 8 3 iH) [.int c,.int t,.int m]=.ok (false,.int r):=by
 have j:∃r b,0<=r/\r<m/\cD 8 3 iH [.int c,.int t,.int m] []=.ok (.int r) b:=by
  rw[eI (by rfl)]
  have w:cm 8 [D.int c,.int t,.int m]=[some (.int c),some (.int t),some (.int m),none,none,none,none,none]:=rfl;rw[w];unfold iH;have y:(aK 3 (m2 (aw .FloorDiv) (af 0) (ae (.int 2)))) [some (.int c),some (.int t),some (.int m),none,none,none,none,none] []=.nx [some (.int c),some (.int t),some (.int m),some (.int (c / 2)),none,none,none,none] []:=by simp
  rw[bc,y,c4,bc]
  by_cases k:c%2=1/\1000000000000000000<c
  .have l:gp t=true:=fi (by omega) (by omega)
   have n:∃x a,cR (bD 4) (.ints 0 t.toNat) yT fuel 0 [some (.int c),some (.int t),some (.int m),some (.int (c / 2)),none,none,none,none] []=.nx [some (.int c),some (.int t),some (.int m),some (.int x),a,none,none,none] []:=by
    refine dY (R:=λr=>∃x a,r=.nx [some (.int c),some (.int t),some (.int m),some (.int x),a,none,none,none] []) (ds:=intsFrom 0 t.toNat) (λ_ o p=>∃x a,o=[some (.int c),some (.int t),some (.int m),some (.int x),a,none,none,none]/\p=[]) (λ_ _ _ _=>rfl) ?_ ?_ fuel 0 _ _ (by rw[bS];unfold fuel;omega) (Nat.zero_le _) ⟨_,_,rfl,rfl⟩
    .rintro i d o p q ⟨x,a,rfl,rfl⟩
     refine⟨_,rfl,?_⟩;have e:yT [some (.int c),some (.int t),some (.int m),some (.int x),some d,none,none,none] []=.nx [some (.int c),some (.int t),some (.int m),some (.int (x / 840)),some d,none,none,none] []:=by simp[yT]
     show uD (yT [some (.int c),some (.int t),some (.int m),some (.int x),some d,none,none,none] []) _ _
     rw[e];exact⟨_,_,rfl,rfl⟩
    .rintro o p ⟨x,a,rfl,rfl⟩
     exact⟨x,a,rfl⟩
   obtain⟨x,a,n⟩:=n;refine⟨x%840%m,[],Int.emod_nonneg _ (by omega),Int.emod_lt_of_pos _ g,?_⟩
   simp[yU,k.1,k.2,l,n,g]
  .obtain⟨d,q,e⟩:=vZ (xs:=[D.int 48271,.int 69621,.int 40692,.int 39373,.int 16807,.int 30323,.int 21403,.int 62089,.int 45742,.int 37907,.int 53611,.int 28411,.int 59393,.int 33391]) (i:=t%14) (Int.emod_nonneg _ (by omega)) (Int.emod_lt_of_pos _ (by omega))
   obtain⟨v,rfl⟩:∃v,d=.int v:=by
    simp only[List.mem_cons,List.not_mem_nil,or_false]at q;rcases q with h|h|h|h|h|h|h|h|h|h|h|h|h|h<;>exact⟨_,h⟩
   have A:([]++[Cell.lst [D.int 48271,.int 69621,.int 40692,.int 39373,.int 16807,.int 30323,.int 21403,.int 62089,.int 45742,.int 37907,.int 53611,.int 28411,.int 59393,.int 33391]]:av)[0]?=some (.lst [D.int 48271,.int 69621,.int 40692,.int 39373,.int 16807,.int 30323,.int 21403,.int 62089,.int 45742,.int 37907,.int 53611,.int 28411,.int 59393,.int 33391]):=rfl;have s:=dn A e;have B:hT (c%1000000007+11)=true:=f_ (by omega) (by omega)
   have C:hT ((c%1000000007+11)*v%2147483629)=true:=f_ (by omega) (by omega)
   have E:hT ((c%1000000007+11)*v%2147483629*((c%1000000007+11)*v%2147483629+t)%1999999973)=true:=f_ (by omega) (by omega)
   have rI:yU [some (.int c),some (.int t),some (.int m),some (.int (c / 2)),none,none,none,none] []=.nx [some (.int c),some (.int t),some (.int m),some (.int (c / 2)),none,none,none,none] []:=by
    by_cases f:c%2=1
    .have F:¬ 1000000000000000000<c:=λz=>k ⟨f,z⟩
     simp[yU,f,F]
    .have G:(c%2==1)=false:=by simpa using f
     simp[yU,G]
   refine⟨(c%1000000007+11)*v%2147483629*((c%1000000007+11)*v%2147483629+t)%1999999973*16807%998244353 / 1000%m,([]++[Cell.lst [D.int 48271,.int 69621,.int 40692,.int 39373,.int 16807,.int 30323,.int 21403,.int 62089,.int 45742,.int 37907,.int 53611,.int 28411,.int 59393,.int 33391]]:av),Int.emod_nonneg _ (by omega),Int.emod_lt_of_pos _ g,?_⟩
   rw[rI,c4];have H:(aK 5 (mN aU (aa (ae (.int 48271)) (aa (ae (.int 69621)) (aa (ae (.int 40692)) (aa (ae (.int 39373)) (aa (ae (.int 16807)) (aa (ae (.int 30323)) (aa (ae (.int 21403)) (aa (ae (.int 62089)) (aa (ae (.int 45742)) (aa (ae (.int 37907)) (aa (ae (.int 53611)) (aa (ae (.int 28411)) (aa (ae (.int 59393)) (aa (ae (.int 33391)) ag)))))))))))))))) [some (.int c),some (.int t),some (.int m),some (.int (c / 2)),none,none,none,none] []=.nx [some (.int c),some (.int t),some (.int m),some (.int (c / 2)),none,some (.ref 0),none,none] ([]++[Cell.lst [D.int 48271,.int 69621,.int 40692,.int 39373,.int 16807,.int 30323,.int 21403,.int 62089,.int 45742,.int 37907,.int 53611,.int 28411,.int 59393,.int 33391]]):=rfl;unfold CS;rw[bc,H,c4];generalize ([]++[Cell.lst [D.int 48271,.int 69621,.int 40692,.int 39373,.int 16807,.int 30323,.int 21403,.int 62089,.int 45742,.int 37907,.int 53611,.int 28411,.int 59393,.int 33391]]:av)=I at s;simp[s,B,C,E,g]
 obtain⟨r,b,J,f,e⟩:=j;exact⟨r,J,f,nL rfl e rfl⟩
section
variable{Ω az:av}{ρ:aF}
def DJ(Ω:av)(j:Nat)(a:List Str):Prop:=Ω[j]?=some (.lst (a.map .str))
def B5(Ω:av)(a:List Nat)(rs:List (List Str)):Prop:=aE (DJ Ω) a rs
structure Rw(Ω:av)(k:Nat)(js:List Nat)(rs:List (List Str)):Prop where
 ce:Ω[k]?=some (.lst (js.map .ref))
 al:B5 Ω js rs
section
variable{k:Nat}{js:List Nat}{rs:List (List Str)}{row:List Str}{n:Str}
theorem B5.len(h:B5 Ω js rs):rs.length=js.length:=aE.length h
theorem Rw.len(R:Rw Ω k js rs):rs.length=js.length:=R.al.len
end
end
open PySem.Spec PyProof.Rows
section
variable{P:Program}{w:World}{K:PySem.W.Frag}{mg:Str->Option Value}{base:Heap}{T:aO}{k:Nat}
end
end Mir
namespace Mir
open PySem PySem.Spec PyProof.Rows L2
section
variable{X:Cx}{pins:List (Addr×Obj)}{σ:L2.St}{s:Shared}
end
variable [aA]
section
variable{κ:Str->Addr->Prop}{α eB:List Addr}{Z Z0:Addr->Prop}{Ω:av}{H H0 H2:Hp}{ρ:aF}{σ:L2.St}
end
section
variable{P:Program}{w:World}{K:PySem.W.Frag}{mg:Str->Option Value}{base:Heap}{T T2:aO}{k:Nat}
end
section
variable{P:Program}{w:World}{K:PySem.W.Frag}{mg:Str->Option Value}{base:Heap}{T:aO}{k:Nat}
end
end Mir
namespace Mir
open PySem L2
variable [aA]
section
variable{Ω az:av}{ρ:aF}{σ:Str->Int}{t kl:Nat}{kvs:List (List Key×D)}{line:List Str}{w x:Str}
theorem tV{ds:List D}{n:Nat}:cf ds none (some (n:Int))=ds.take n:=pU ds n
theorem v_{n:Nat}(h:Ω[kl]?=some (.lst (line.map .str))):hX (.ref kl) none (some (n:Int)) Ω=.ok (.ref Ω.length) (Ω++[.lst ((line.take n).map .str)]):=by
 simp only[hX,aW h,ju,tV,List.map_take]
@[simp] theorem AH{a:Ty}{ds:List D}:dk a (.tup ds) Ω=.ok (.bl (a==.tuple)) Ω:=rfl
@[simp] theorem AI{a:Ty}{z:Str}:dk a (.str z) Ω=.ok (.bl (a==.str)) Ω:=rfl
@[simp] theorem AJ{a:Ty}:dk a .non Ω=.ok (.bl false) Ω:=rfl
@[simp] theorem yW{ds:List D}:b7 .len [.tup ds] Ω=.ok (.int ds.length) Ω:=rfl
end
section
variable{Ω az:av}{ρ:aF}
end
section
variable{Ω az:av}{ρ:aF}{σ:Str->Int}{kl fn b:Nat}{line ys:List Str}{w:Str}{M:List (List D->bE)}{fp:List Nat}{I:List Str->av->Prop}
def wB(M:List (List D->bE)):SM:=(aq (dF (nj (m2 (ax .NotEq) (dw (af 0) false (af 5) false (m2 (aw .Add) (af 5) (ae (.int 1)))) (mN aU (aa (af 6) ag))) (m2 (ax .NotEq) (vS M 2 (aa (af 6) (aa (af 1) ag))) (ae (.int 0))))
 (aq (a_ (af 5))
 au)
 au)
 au)
theorem wa{i:Nat}{us:List Str}(h:Ω[kl]?=some (.lst (us.map .str))):hX (.ref kl) (some (i:Int)) none Ω=.ok (.ref Ω.length) (Ω++[.lst ((us.drop i).map .str)]):=by
 simp only[hX,aW h,ju,pT,List.map_drop]
end
section
variable{Ω az:av}{ρ:aF}{k:Nat}{js:List Nat}{rs:List (List Str)}{row:List Str}{n:Str}
theorem iI{ds:List D}(h:Ω[k]?=some (.lst ds)):b7 .list [.ref k] Ω=.ok (.ref Ω.length) (Ω++[.lst ds]):=by
 show j7 [.ref k] Ω=_
 simp only[j7,cw,aW h];rfl
end
end Mir
namespace Mir
open PySem
section
variable{f:Str->Str}{rs:List (List Str)}
end
abbrev wb:=Str×Str×Nat
structure CT(left:List (List Str))(met:List Str)(steps:List wb)(name:Str):Prop where
 sec:steps.map (·.2.1)=met
 fst:steps.map (·.1)=(met++[name]).tail
 EB:∀s∈steps,∃t,left[s.2.2]?=some (s.1::t)/\s.2.1∈t
 nd:met.Nodup
 hds:∀m∈met++[name],∃r∈left,∃t,r=m::t
section
variable{left:List (List Str)}{met:List Str}{steps:List wb}{name h:Str}{t:List Str}{p:Nat}
theorem CT.len(c:CT left met steps name):steps.length=met.length:=by rw[←c.sec,List.length_map]
end
open PySem.Spec PyProof.Rows L2
variable [aA]
section
variable{P:Program}{w:World}{K:PySem.W.Frag}{mg:Str->Option Value}{base:Heap}{T:aO}{k:Nat}
end
section
variable{P:Program}{w:World}{K:PySem.W.Frag}{mg:Str->Option Value}{base:Heap}{k:Nat}
end
section
variable{P:Program}{w:World}{K:PySem.W.Frag}{mg:Str->Option Value}{base:Heap}{k:Nat}
end
structure yX(K:PySem.W.Frag)(x qual:Str)(st:Stmt)(dV:Value)(f:Addr)(fd:FuncData):Prop where
 ex:∃(oc:Value) (od:Option Addr) (kV doc pm:Value) (an:Option Addr) (cdv ct:Value) (osl:Array (Option Value)),
  fd=PySem.W.fnOf x qual (bu st) (aY st) (ai st) dV kV doc pm an cdv ct/\K.lookup f=some ⟨oc,od,.func fd,osl⟩/\PySem.W.codeIn K cdv qual=true
 kp:PySem.W.keepIn K (.ref f)=true
section
variable{P:Program}{w:World}{K:PySem.W.Frag}{mg:Str->Option Value}{base:Heap}{T:aO}{k:Nat}
theorem jy(W:bP P w K mg base T k){x qual:Str}{st:Stmt}{D:Value}{f:Addr}{y:FuncData}(F:yX K x qual st D f y){N ps td:List Str}{c:SM}(I:cY N ps (ai st)=true)(J:dW T td st N=some c) :
    bO P w K mg base dt (k+1) f y ps (b8 (bf mg) (cD N.length ps.length c)):=by
  obtain⟨oc,od,kV,L,pm,an,n,ct,M,rfl,O,o⟩:=F.ex;have p:=fW I;refine uk O o p (λR H Q E h=>?_) λA outer s H R Q E U h=>?_
  · obtain⟨e,Z,i,l,S,r,g⟩:=h
    rw[r.length];unfold cD at g;split at g
    · rename_i V;exact V
    · exact g.elim
  · obtain⟨e,Z,i,l,S,r,g⟩:=h
    have G:dy (c5 dt P w K mg base N qual (ai st) f n A outer s H E).h8 (bf mg) T k (ai st) N:=
      { scope:=rfl,names:=rfl,calm:=rfl,room:=U,dm:=W.dm,own:=PassesOwn.never,Bp:=λ_ _ _=>.inl rfl,ku:=p.nd,kind:=p.kind,h8:=λ_ _ _ h=>h,fld:=W.fld,cst:=W.cst
        hY:=λx F h=>⟨W.hY x F h⟩,fn:=λx F h=>⟨W.fn x F h⟩,met:=λm C F h=>⟨W.met m C F h⟩,cls:=λC F h=>let ⟨j,X,Y⟩:=W.cls C F h;⟨j,X,⟨Y⟩⟩,clo:=W.clo }
    refine⟨ye (bf mg) eF e Z H c (cm N.length l) i,(fh (mu G 30 60) J e Z H (cm N.length l) i).h8,e,Z,gW S r,?_⟩;unfold cD at g;split at g
    · cases q:c (cm N.length l) i with
      |rt d a=>rw[q]at g;exact λv t b u gr st r=>g v t b u gr st r
      |nx z a=>rw[q]at g;exact λσ t b u B=>g .non t b u B.gr B.st (aM rfl)
      |bk z a=>rw[q]at g;exact g.elim
      |ct z a=>rw[q]at g;exact g.elim
      |exc x a=>rw[q]at g;exact g
      |bad=>rw[q]at g;exact g.elim
    · exact g.elim
end
section
variable{X:Cx}{κ:Str->Addr->Prop}{Φ:dA}{T:aO}{k:Nat}{sc:Scope}{N td:List Str}{hk:Stmt->Option SM}
end
section
variable{P:Program}{w:World}{K:PySem.W.Frag}{mg:Str->Option Value}{base:Heap}{T:aO}{k:Nat}
end
section
variable{X:Cx}{κ:Str->Addr->Prop}{e:Expr}{es:List Expr}{as:AM}{p pos:Pos}
end
section
variable{P:Program}{w:World}{K:PySem.W.Frag}{mg:Str->Option Value}{base:Heap}{T:aO}{k:Nat}
end
end Mir
namespace Mir
open PySem PySem.Spec PyProof.Rows L2
section
variable{prog:Program}{w:World}{A:Around}{E:Value->Shared->Prop}{s:Shared}
end
end Mir
namespace Mir
open PySem PySem.Spec PyProof.Rows L2
open AutoSeq1 (wpAny_loadPart')
section
variable{prog:Program}{w:World}{A:Around}{E:Value->Shared->Prop}{s:Shared}
end
end Mir
namespace Mir
open PySem PySem.Spec PyProof.Rows L2
section
variable{prog:Program}{w:World}{A:Around}{R:Result->Shared->Prop}{I:Addr}{fp wr:List Addr}{G:Array GenState->Array GenState->Prop}{n:Nat}{P:Nat->Value->Prop}{St:Nat->Shared->Prop}
end
section
variable{prog:Program}{w:World}{A:Around}{E:Value->Shared->Prop}{s:Shared}
end
variable [aA]
section
variable{X:Cx}{κ:Str->Addr->Prop}{Φ:dA}{e:Expr}{m:EM}{p p' pos pos':Pos}
end
section
variable{P:Program}{w:World}{K:PySem.W.Frag}{mg:Str->Option Value}{base:Heap}{T:aO}{k:Nat}
end
end Mir
namespace Mir
open PySem L2
variable [aA]
noncomputable def B6(s:wb):D:=.tup [.str s.1,.str s.2.1,.int s.2.2]
section
variable{Ω az:av}{ρ:aF}{k:Nat}{js:List Nat}{rs:List (List Str)}{row:List Str}{n:Str}
def hR:EM:=(m2 aV (m2 aV (af 0) (af 5)) (ae (.int 0)))
end
section
variable{Ω az:av}{ρ:aF}{k:Nat}{js:List Nat}{rs:List (List Str)}{row:List Str}{n:Str}
end
theorem tW:∃e,et e (pureOf (cD 8 3 iH)):=by
 have h:∀c t m:Int,∃r,0<=t->t<100000->0<m->0<=r/\r<m/\pureOf (cD 8 3 iH) [.int c,.int t,.int m]=.ok (false,.int r):=λc t m=>by
  by_cases d:0<=t/\t<100000/\0<m
  .obtain⟨r,f,g,i⟩:=tU (c:=c) d.1 d.2.1 d.2.2
   exact⟨r,λ_ _ _=>⟨f,g,i⟩⟩
  .exact⟨0,λa b c=>absurd ⟨a,b,c⟩ d⟩
 exact⟨λc t m=>(h c t m).choose,λc t m=>(h c t m).choose_spec⟩
def jz:SM:=
 (aq (dF (m2 (ax .Lt) (af 1) (mN (b7 .len) (aa (af 0) ag)))
 (aq (a_ (m2 aV (af 0) (af 1)))
 au)
 au)
 (aq (a_ (ae (.int 0)))
 au))
section
variable{Ω az:av}{ρ:aF}{F:List D->Out Rs}{μ:Int->Int->Int->Int}{c:Int}{m:Nat}
def p_:SM:=(aq (aK 8 (m2 (aw .Add) (af 8) (m2 aV (af 2) (m2 (aw .Mod) (m2 (aw .Add) (m2 aV (af 4) (af 9)) (m2 (aw .Mult) (af 3) (mN (b7 .int) (aa (m2 (ax .Eq) (af 9) (af 6)) ag)))) (ae (.int 26))))))
 au)
def jC:EM:=(cQ (m2 aV (af 1) (af 0)) true (ae .non) (ei (dw (af 4) true (ae .non) false (m2 (aw .Add) (af 3) (ae (.int 1))))) 0 [2])
def jI(F:List D->Out Rs):SM:=(dF (gK (m2 (ax .Eq) (mN (bJ F) (aa (af 0) (aa (ae (.int 10)) (aa (ae (.int 4)) ag)))) (ae (.int 1))) (m2 (ax .Lt) (af 1) (ae (.int 9))))
 (aq (aK 8 (dS ph gQ (ae (.str "")) (aa jC ag)))
 au)
 au)
def ko(F:List D->Out Rs):SM:=
 (aq (aK 8 (ae (.str "")))
 (aq (cS (bD 9) (bp (aa (af 5) ag)) p_)
 (aq (jI F)
 (aq (gS (dS kx cu (af 7) (aa (af 8) ag)))
 au))))
def B7(F:List D->Out Rs):EM:=(cQ (mN (bJ F) (aa (af 1) (aa (af 0) (aa (ae (.int 26)) ag)))) true (ae .non) (bp (aa (ae (.int 8)) ag)) 0 [0])
def tX(F:List D->Out Rs):SM:=
 (aq (aK 2 (ae (.str "abcdefghijklmnopqrstuvwxyz")))
 (aq (aK 4 (B7 F))
 (aq (aK 5 (m2 (aw .Add) (ae (.int 1)) (mN (bJ F) (aa (af 0) (aa (ae (.int 8)) (aa (ae (.int 8)) ag))))))
 (aq (aK 6 (mN (bJ F) (aa (af 0) (aa (ae (.int 9)) (aa (af 5) ag)))))
 (aq (aK 7 (mN aU ag))
 (aq (cS (bD 3) (bp (aa (af 1) ag)) (ko F))
 (aq (aK 10 (mN (bJ F) (aa (af 0) (aa (ae (.int 11)) (aa (af 1) ag)))))
 (aq (a_ (m2 (aw .Add) (dw (af 7) false (af 10) true (ae .non)) (dw (af 7) true (ae .non) false (af 10))))
 au))))))))
abbrev NV(c:Int)(m k b sz a q:Nat)(a8 a9:Option D):aF:=[some (.int c),some (.int m),some (.str abc),some (.int k),some (.ref b),some (.int sz),some (.int a),some (.ref q),a8,a9,none]
theorem wc(l:et μ F){k a sz i b q:Nat}{z:Str}(n:Ω[b]?=some (.lst (bs μ c)))(y:k<1000)(o:i<8)(A:z.length<=100) :
  p_ (NV c m k b sz a q (some (.str z)) (some (.int i))) Ω=.nx (NV c m k b sz a q (some (.str (z++dM (97+((μ c i 26+if i=a then (k:Int)else 0)%26).toNat)))) (some (.int i))) Ω:=by
 have e:L2.ft (bs μ c) (i:Int)=some (.int (μ c i 26)):=L2.eS (by simp[bs,o])
 have f:=dn n e;have g:hT (k:Int)=true:=f_ (by omega) (by omega)
 have p:∀q,small (z.length+(dM q).length)=true:=λq=>b9 (by rw[g_];omega)
 have r:=mx (q:=(μ c i 26+if i=a then (k:Int)else 0)%26) (Int.emod_nonneg _ (by omega)) (Int.emod_lt_of_pos _ (by omega))
 have d:(k:Int)*(if ((i:Int)==(a:Int))=true then 1 else 0)=if i=a then (k:Int)else 0:=by
  by_cases h:i=a
  .subst h;simp
  .have:((i:Int)==(a:Int))=false:=by simp;omega
   rw[this];simp[h]
 have s:(mN (b7 .int) (aa (m2 (ax .Eq) (af 9) (af 6)) ag)) (NV c m k b sz a q (some (.str z)) (some (.int i))) Ω=.ok (.int (if ((i:Int)==(a:Int))=true then 1 else 0)) Ω:=by
  have:b7 .int [.bl ((i:Int)==(a:Int))] Ω=.ok (.int (if ((i:Int)==(a:Int))=true then 1 else 0)) Ω:=by
   show k_ .int [.bl ((i:Int)==(a:Int))] Ω=_
   unfold k_;rw[mz];simp
  simp[NV,-beq_iff_eq]at this ⊢;exact this
 have t:(m2 (aw .Mult) (af 3) (mN (b7 .int) (aa (m2 (ax .Eq) (af 9) (af 6)) ag))) (NV c m k b sz a q (some (.str z)) (some (.int i))) Ω=.ok (.int (if i=a then (k:Int)else 0)) Ω:=by
  rw[iG,show af 3 (NV c m k b sz a q (some (.str z)) (some (.int i))) Ω=.ok (.int k) Ω from rfl,dX,s,dX,←d]
  generalize (if ((i:Int)==(a:Int))=true then (1:Int)else 0)=u
  simp[g]
 have w:(m2 (aw .Add) (m2 aV (af 4) (af 9)) (m2 (aw .Mult) (af 3) (mN (b7 .int) (aa (m2 (ax .Eq) (af 9) (af 6)) ag)))) (NV c m k b sz a q (some (.str z)) (some (.int i))) Ω=.ok (.int (μ c i 26+if i=a then (k:Int)else 0)) Ω:=by
  rw[iG,show m2 aV (af 4) (af 9) (NV c m k b sz a q (some (.str z)) (some (.int i))) Ω=.ok (.int (μ c i 26)) Ω from f,dX,t,dX]
  simp
 generalize (μ c i 26+if i=a then (k:Int)else 0)=u at *
 have x:(m2 aV (af 2) (m2 (aw .Mod) (m2 (aw .Add) (m2 aV (af 4) (af 9)) (m2 (aw .Mult) (af 3) (mN (b7 .int) (aa (m2 (ax .Eq) (af 9) (af 6)) ag)))) (ae (.int 26)))) (NV c m k b sz a q (some (.str z)) (some (.int i))) Ω=.ok (.str (dM (97+(u%26).toNat))) Ω:=by
  rw[iG,show af 2 (NV c m k b sz a q (some (.str z)) (some (.int i))) Ω=.ok (.str abc) Ω from rfl,dX,iG,w]
  simp[r]
 generalize (97+(u%26).toNat)=v at *;have j:=p v;unfold p_;rw[bc,gc,iG,show af 8 (NV c m k b sz a q (some (.str z)) (some (.int i))) Ω=.ok (.str z) Ω from rfl,dX,x,dX]
 simp[j]
theorem qa(l:et μ F){k a sz b q:Nat}{a9:Option D}(p:Ω[b]?=some (.lst (bs μ c)))(s:k<1000)(t:sz<=8)(n:a<sz) :
  ∃(z:Str) (e:Option D),z.length=sz/\z.cps.toList[a]?=some (97+((μ c a 26+k)%26).toNat) /\
   cR (bD 9) (.ints 0 sz) p_ fuel 0 (NV c m k b sz a q (some (.str "")) a9) Ω=.nx (NV c m k b sz a q (some (.str z)) e) Ω:=by
 refine dY (R:=λr=>∃(z:Str) (e:Option D),z.length=sz/\z.cps.toList[a]?=some (97+((μ c a 26+k)%26).toNat)/\r=.nx (NV c m k b sz a q (some (.str z)) e) Ω) (ds:=intsFrom 0 sz)
  (λi o g=>∃(z:Str) (e:Option D),z.length=i/\(a<i->z.cps.toList[a]?=some (97+((μ c a 26+k)%26).toNat))/\o=NV c m k b sz a q (some (.str z)) e/\g=Ω) (λ_ _ _ _=>rfl) ?_ ?_ fuel 0 _ _ (by rw[bS];unfold fuel;omega) (Nat.zero_le _) ⟨"",a9,by decide,λh=>by omega,rfl,rfl⟩
 .rintro i d o g u ⟨z,e,j,f,rfl,rfl⟩
  obtain⟨rfl,w⟩:=c3 u;rw[show(0:Int)+(i:Int)=(i:Int)by omega]
  refine⟨NV c m k b sz a q (some (.str z)) (some (.int i)),rfl,?_⟩;rw[wc l p s (by omega) (by omega)]
  refine⟨_,_,by rw[Str.length_append,g_];omega,λx=>?_,rfl,rfl⟩
  rw[Str.cps_append,Array.toList_append]
  by_cases y:a<i
  .rw[List.getElem?_append_left (by rw[←str_len];omega)]
   exact f y
  .obtain rfl:a=i:=by omega
   rw[List.getElem?_append_right (by rw[←str_len];omega),←str_len,j,Nat.sub_self,if_pos rfl]
   rfl
 .rintro o g ⟨z,e,j,f,rfl,rfl⟩
  rw[bS]at j f;exact⟨z,e,j,f n,rfl⟩
theorem join_ones(f:Nat->Nat)(k:Nat)(o:k<1000):∃S:Str,S.length=k+1/\oo .join (.str "") (.tup [L1 ((List.range (k+1)).map λi=>dM (f i))])=.ok (false,.str S):=by
 let a:List Str:=(List.range (k+1)).map λ(i:Nat)=>dM (f i)
 have e:∀c:List Str,gs (c.map .str)=some c:=λc=>by
  induction c with
  |nil=>rfl
  |cons x c l=>simp[gs,l]
 have g:=e a;have h:a.length=k+1:=by simp[a]
 have d:(a.map (·.length)).sum=k+1:=by
  have:a.map (·.length)=List.replicate a.length 1:=by
   apply List.eq_replicate_iff.mpr;refine⟨by simp,λb m=>?_⟩
   obtain⟨y,n,rfl⟩:=List.mem_map.mp m;obtain⟨i,_,rfl⟩:=List.mem_map.mp n;exact g_
  rw[this,h];simp
 have j:(Txt.join "" a).length=k+1:=by
  show(Builtin.Str.glued "" a).length=_
  rw[size_glued,d,show("":Str).length=0 by decide];simp
 refine⟨Txt.join "" a,j,?_⟩
 show oo .join (.str "") (.tup [.lst (a.map .str)])=_
 unfold oo;simp only[g];rw[if_pos];rw[Bool.and_eq_true,decide_eq_true_eq,decide_eq_true_eq];exact⟨by decide,by omega⟩
theorem yY(r:et μ F){k a sz b q:Nat}{z:Str}{a9:Option D}(w:Ω[b]?=some (.lst (bs μ c)))(hm:m<=24)(hk:k<m)(M:z.length<=8)(s:z.cps.toList[a]?=some (97+((μ c a 26+k)%26).toNat)) :
  ∃(J:Str) (az:av),Nm μ c m a k J/\jI F (NV c m k b sz a q (some (.str z)) a9) Ω=.nx (NV c m k b sz a q (some (.str J)) a9) az/\aC [] Ω az:=by
 obtain⟨w0,w1,f⟩:=r c 10 4 (by omega) (by omega) (by omega)
 by_cases u:μ c 10 4=1/\m<9
 .have l:(m:Int)<9:=by omega
  have t:cf (bs μ c) none (some ((k:Int)+1))=(List.range (k+1)).map λ(i:Nat)=>.int (μ c i 26):=by
   rw[show(k:Int)+1=((k+1:Nat):Int)by omega,pU,bs,←List.map_take,List.take_range,Nat.min_eq_left (by omega)]
  have y:hX (.ref b) none (some ((k:Int)+1)) Ω=.ok (.ref Ω.length) (Ω++[.lst ((List.range (k+1)).map λ(i:Nat)=>.int (μ c i 26))]):=by
   simp only[hX,aW w,ju,t]
  have K:(Ω++[Cell.lst ((List.range (k+1)).map λ(i:Nat)=>D.int (μ c i 26))])[Ω.length]?=some (.lst ((List.range (k+1)).map λ(i:Nat)=>.int (μ c i 26))):=aP
  have N:aC [] Ω (Ω++[Cell.lst ((List.range (k+1)).map λ(i:Nat)=>D.int (μ c i 26))]):=aC.app
  generalize Ω++[Cell.lst ((List.range (k+1)).map λ(i:Nat)=>D.int (μ c i 26))]=e at *
  have A:(ei (dw (af 4) true (ae .non) false (m2 (aw .Add) (af 3) (ae (.int 1))))) (NV c m k b sz a q (some (.str z)) a9) Ω=.ok (.seq (.ref Ω.length)) e:=by
   have:=fA (x:=.ref Ω.length) (Ω:=e) (by rw[cw,aW K])
   simp[y,this]
  have B:=dZ (me:=m2 aV (af 1) (af 0)) (nc:=true) (mc:=ae .non) (cap:=[2]) (p:=λ_=>true) (g:=λd=>match d with|.int j=>.str (dM (97+j.toNat))|_=>.non) A (by rw[jx,cw,aW K]) (λd L=>rfl) (λd L _=>by
   obtain⟨i,O,rfl⟩:=List.mem_map.mp L;have P:i<k+1:=by simpa using O
   have Q:i<8:=by omega
   obtain⟨R,T,_⟩:=r c i 26 (by omega) (by omega) (by omega)
   have C:=mx R T;simp[dU,C]) (by simp;omega)
  rw[List.filter_eq_self.mpr (by simp),List.map_map]at B
  have E:((List.range (k+1)).map ((λd:D=>match d with|.int j=>D.str (dM (97+j.toNat))|_=>.non) ∘ λ(i:Nat)=>D.int (μ c i 26)))=((List.range (k+1)).map λi=>dM (97+(μ c (i:Nat) 26).toNat)).map .str:=by
   rw[List.map_map];rfl
  rw[E]at B;obtain⟨S,U,G⟩:=join_ones (λi=>97+(μ c (i:Nat) 26).toNat) k (by omega)
  have V:(e++[Cell.lst (((List.range (k+1)).map λi=>dM (97+(μ c (i:Nat) 26).toNat)).map .str)])[e.length]?=some (.lst (((List.range (k+1)).map λi=>dM (97+(μ c (i:Nat) 26).toNat)).map .str)):=aP
  have X:aC [] e (e++[Cell.lst (((List.range (k+1)).map λi=>dM (97+(μ c (i:Nat) 26).toNat)).map .str)]):=aC.app
  generalize ((List.range (k+1)).map λi=>dM (97+(μ c (i:Nat) 26).toNat))=Y at *
  generalize e++[Cell.lst (Y.map .str)]=o at *;have Z:=pY (n:=7) V;have H:jC (NV c m k b sz a q (some (.str z)) a9) Ω=.ok (.ref e.length) o:=B;refine⟨S,o,⟨by omega,by rw[if_pos u];exact U⟩,?_,N.trans X⟩
  have ra:(aK 8 (dS ph gQ (ae (.str "")) (aa jC ag))) (NV c m k b sz a q (some (.str z)) a9) Ω=.nx (NV c m k b sz a q (some (.str S)) a9) o:=by
   rw[gc,p8 (x:=.str "") (az:=Ω) rfl rfl,pW,H];simp only[dX,tq,gQ,jv,my,Z,tL,G,tK];rfl
  have rt:(gK (m2 (ax .Eq) (mN (bJ F) (aa (af 0) (aa (ae (.int 10)) (aa (ae (.int 4)) ag)))) (ae (.int 1))) (m2 (ax .Lt) (af 1) (ae (.int 9)))) (NV c m k b sz a q (some (.str z)) a9) Ω=.ok (.bl true) Ω:=by
   simp[f,u.1,l]
  unfold jI;rw[v8,rt];simp only[tD,tE,tB,pV,if_true,bc,ra,c4,p6]
 .refine⟨z,Ω,⟨M,by rw[if_neg u];exact s⟩,?_,aC.refl⟩
  by_cases I:μ c 10 4=1
  .have l:¬ (m:Int)<9:=λh=>u ⟨I,by omega⟩
   simp[jI,f,I,l]
  .have w:(μ c 10 4==1)=false:=by simpa using I
   simp[jI,f,w]
theorem tY(i:et μ F){k a sz b q:Nat}{j:List Str}{a8 a9:Option D}(u:Ω[b]?=some (.lst (bs μ c)))(y:Ω[q]?=some (.lst (j.map .str)))(A:m<=24)(B:k<m)(n:sz<=8)(o:a<sz)(K:j.length<=900) :
  ∃(z:Str) (p f:Option D) (az:av),Nm μ c m a k z/\ko F (NV c m k b sz a q a8 a9) Ω=.nx (NV c m k b sz a q p f) az/\az[q]?=some (.lst ((j++[z]).map .str))/\aC [q] Ω az:=by
 obtain⟨z,f,L,l,e⟩:=qa (m:=m) (q:=q) (a9:=a9) i u (k:=k) (by omega) n o
 obtain⟨h,g,C,E,w⟩:=yY (sz:=sz) (q:=q) (a9:=f) i u A B (by omega) l
 have r:gp (sz:Int)=true:=fi (by omega) (by omega)
 have s:=w.get _ _ y (by simp)
 have t:=hB (d:=.str h) s (by simp;omega)
 have G:=tQ s;refine⟨h,some (.str h),f,g.set q (.lst (j.map .str++[.str h])),C,?_,by rw[hh s];simp,(uE.up w).trans (aC.set (by simp))⟩
 have H:(aK 8 (ae (.str ""))) (NV c m k b sz a q a8 a9) Ω=.nx (NV c m k b sz a q (some (.str "")) a9) Ω:=rfl
 have I:(cS (bD 9) (bp (aa (af 5) ag)) p_) (NV c m k b sz a q (some (.str "")) a9) Ω=.nx (NV c m k b sz a q (some (.str z)) f) Ω:=by
  rw[gd];have:bp (aa (af 5) ag) (NV c m k b sz a q (some (.str "")) a9) Ω=.ok (.ints 0 sz) Ω:=by simp[r]
  rw[this,pV,e]
 have J:(gS (dS kx cu (af 7) (aa (af 8) ag))) (NV c m k b sz a q (some (.str h)) f) g=.nx (NV c m k b sz a q (some (.str h)) f) (g.set q (.lst (j.map .str++[.str h]))):=by
  rw[tM,p8 (x:=.ref q) (az:=g) (by simp) G]
  simp[t]
 unfold ko;rw[bc,H,c4,bc,I,c4,bc,E,c4,bc,J];rfl
def yZ(N:bE):Prop:=∀(d:av) (c:Int) (m:Nat),2<=m->m<=24->∃(b:List Str) (q:Nat) (a:av),b.Nodup/\b.length=m/\N [.int c,.int m] d=.ok (.ref q) a/\a[q]?=some (.lst (b.map .str))/\aC [] d a
def y3(N:bE):Prop:=∀(d:av) (c:Int) (m:Nat),2<=m->m<=24->∃(b:List Str) (q:Nat) (a:av),(b.Nodup/\∀x∈b,x≠"")/\b.length=m/\N [.int c,.int m] d=.ok (.ref q) a/\a[q]?=some (.lst (b.map .str))/\aC [] d a
theorem tZ{a k:Nat}{z:Str}(h:Nm μ c m a k z):z≠"":=by
 rintro rfl;obtain⟨_,h⟩:=h;split at h
 .exact absurd h (Nat.zero_ne_add_one k)
 .rw[show(Str.ofString "").cps.toList=[]from rfl]at h
  simp at h
theorem wd(B:et μ F):y3 (cD 11 2 (tX F)):=by
 intro Ω c m m0 hm;rw[eI (by rfl)]
 have e0:cm 11 [D.int c,.int m]=[some (.int c),some (.int m),none,none,none,none,none,none,none,none,none]:=rfl;rw[e0];obtain⟨a0,a1,ha⟩:=B c 8 8 (by omega) (by omega) (by omega)
 obtain⟨b0,b1,hb⟩:=B c 9 (1+μ c 8 8) (by omega) (by omega) (by omega)
 obtain⟨t0,t1,ht⟩:=B c 11 (m:Int) (by omega) (by omega) (by omega)
 obtain⟨o,I⟩:∃o:Nat,(o:Int)=1+μ c 8 8:=⟨(1+μ c 8 8).toNat,by omega⟩
 obtain⟨f,O⟩:∃f:Nat,(f:Int)=μ c 9 (1+μ c 8 8):=⟨(μ c 9 (1+μ c 8 8)).toNat,by omega⟩
 obtain⟨l,P⟩:∃l:Nat,(l:Int)=μ c 11 (m:Int):=⟨(μ c 11 (m:Int)).toNat,by omega⟩
 have J:gp 8=true:=fi (by omega) (by omega)
 have Q:gp (m:Int)=true:=fi (by omega) (by omega)
 have E:=dZ (Ω:=Ω) (az:=Ω) (ρ:=[some (.int c),some (.int m),some (.str abc),none,none,none,none,none,none,none,none]) (me:=mN (bJ F) (aa (af 1) (aa (af 0) (aa (ae (.int 26)) ag)))) (nc:=true) (mc:=ae .non) (mi:=bp (aa (ae (.int 8)) ag)) (cap:=[0]) (src:=.ints 0 8) (ds:=intsFrom 0 8) (p:=λ_=>true) (g:=λd=>match d with|.int j=>.int (μ c j 26)|_=>.non)
  (by simp[J]) rfl (λd N=>rfl) (λd N _=>by
   obtain⟨i,S⟩:=List.mem_iff_getElem?.mp N;obtain⟨rfl,L⟩:=c3 S;obtain⟨_,_,q⟩:=B c (0+(i:Int)) 26 (by omega) (by omega) (by omega)
   generalize (0+(i:Int))=j at *;simp[dU,q]) (by rw[bS];omega)
 rw[List.filter_eq_self.mpr (by simp),iF,List.map_map]at E
 have E:B7 F [some (.int c),some (.int m),some (.str abc),none,none,none,none,none,none,none,none] Ω=.ok (.ref Ω.length) (Ω++[.lst (bs μ c)]):=E;have g1:(Ω++[Cell.lst (bs μ c)])[Ω.length]?=some (.lst (bs μ c)):=aP;have K1:aC [] Ω (Ω++[Cell.lst (bs μ c)]):=aC.app;have r1:(aK 2 (ae (.str "abcdefghijklmnopqrstuvwxyz"))) [some (.int c),some (.int m),none,none,none,none,none,none,none,none,none] Ω=.nx [some (.int c),some (.int m),some (.str abc),none,none,none,none,none,none,none,none] Ω:=rfl
 have r2:(aK 4 (B7 F)) [some (.int c),some (.int m),some (.str abc),none,none,none,none,none,none,none,none] Ω=.nx [some (.int c),some (.int m),some (.str abc),none,some (.ref Ω.length),none,none,none,none,none,none] (Ω++[Cell.lst (bs μ c)]):=by
  rw[gc,E];rfl
 have n0:=p7 g1;generalize Ω++[Cell.lst (bs μ c)]=a at *
 have r3:(aK 5 (m2 (aw .Add) (ae (.int 1)) (mN (bJ F) (aa (af 0) (aa (ae (.int 8)) (aa (ae (.int 8)) ag)))))) [some (.int c),some (.int m),some (.str abc),none,some (.ref Ω.length),none,none,none,none,none,none] a=.nx [some (.int c),some (.int m),some (.str abc),none,some (.ref Ω.length),some (.int o),none,none,none,none,none] a:=by
  rw[I];simp[ha]
 have r4:(aK 6 (mN (bJ F) (aa (af 0) (aa (ae (.int 9)) (aa (af 5) ag))))) [some (.int c),some (.int m),some (.str abc),none,some (.ref Ω.length),some (.int o),none,none,none,none,none] a=.nx [some (.int c),some (.int m),some (.str abc),none,some (.ref Ω.length),some (.int o),some (.int f),none,none,none,none] a:=by
  rw[O,I];simp[hb]
 have g2:(a++[Cell.lst []])[a.length]?=some (.lst (([]:List Str).map .str)):=aP;have K2:aC [] a (a++[Cell.lst []]):=aC.app;have r5:(aK 7 (mN aU ag)) [some (.int c),some (.int m),some (.str abc),none,some (.ref Ω.length),some (.int o),some (.int f),none,none,none,none] a=.nx [some (.int c),some (.int m),some (.str abc),none,some (.ref Ω.length),some (.int o),some (.int f),some (.ref a.length),none,none,none] (a++[Cell.lst []]):=by simp[b9]
 have T:=K2.get _ _ g1 (by simp)
 have U:=K1.trans K2;generalize l0:a++[Cell.lst []]=s at *
 have hL:∃(k:List Str) (w a8 a9:Option D) (b:av),k.length=m/\(∀j z,k[j]?=some z->Nm μ c m f j z)/\cR (bD 3) (.ints 0 m) (ko F) fuel 0 [some (.int c),some (.int m),some (.str abc),none,some (.ref Ω.length),some (.int o),some (.int f),some (.ref a.length),none,none,none] s=.nx [some (.int c),some (.int m),some (.str abc),w,some (.ref Ω.length),some (.int o),some (.int f),some (.ref a.length),a8,a9,none] b/\b[a.length]?=some (.lst (k.map .str))/\aC [a.length] s b:=by
  refine dY (R:=λr=>∃(k:List Str) (w a8 a9:Option D) (b:av),k.length=m/\(∀j z,k[j]?=some z->Nm μ c m f j z)/\r=.nx [some (.int c),some (.int m),some (.str abc),w,some (.ref Ω.length),some (.int o),some (.int f),some (.ref a.length),a8,a9,none] b/\b[a.length]?=some (.lst (k.map .str))/\aC [a.length] s b) (ds:=intsFrom 0 m)
   (λi ρ b=>∃(k:List Str) (w a8 a9:Option D),k.length=i/\(∀j z,k[j]?=some z->Nm μ c m f j z)/\ρ=[some (.int c),some (.int m),some (.str abc),w,some (.ref Ω.length),some (.int o),some (.int f),some (.ref a.length),a8,a9,none]/\b[a.length]?=some (.lst (k.map .str))/\aC [a.length] s b) (λ_ _ _ _=>rfl) ?_ ?_ fuel 0 _ _ (by rw[bS];unfold fuel;omega) (Nat.zero_le _) ⟨[],none,none,none,rfl,λj z h=>by simp at h,rfl,g2,aC.refl⟩
  .rintro i d ρ b N ⟨k,w,a8,a9,M,t,rfl,H,K⟩
   obtain⟨rfl,L⟩:=c3 N;rw[show(0:Int)+(i:Int)=(i:Int)by omega]
   refine⟨NV c m i Ω.length o f a.length a8 a9,rfl,?_⟩;obtain⟨z,V,X,A,hz,e,Y,K'⟩:=tY (a8:=a8) (a9:=a9) B (K.get _ _ T (by simp;omega)) H hm L (show o<=8 by omega) (show f<o by omega) (by omega)
   rw[e];refine⟨k++[z],some (.int i),V,X,by rw[List.length_append,List.length_singleton];omega,λj y C=>?_,rfl,Y,K.trans K'⟩
   by_cases Z:j<k.length
   .rw[List.getElem?_append_left Z]at C
    exact t j y C
   .rw[List.getElem?_append_right (by omega)]at C
    have d0:j - k.length=0:=by
     have:=(List.getElem?_eq_some_iff.mp C).1;simp at this;omega
    rw[d0]at C;have hy:z=y:=by simpa using C
    subst hy;obtain rfl:j=i:=by omega
    exact hz
  .rintro ρ b ⟨k,w,a8,a9,M,t,rfl,H,K⟩
   rw[bS]at M;exact⟨k,w,a8,a9,b,M,t,rfl,H,K⟩
 obtain⟨k,w,a8,a9,b,M,t,eL,H,K3⟩:=hL
 have f0:k.Nodup:=by
  refine List.pairwise_iff_getElem.mpr λi j S C o0 g0=>?_
  have:=yz (m:=m) (by omega) (by omega) hm (t i _ (List.getElem?_eq_getElem S)) (t j _ (List.getElem?_eq_getElem C)) g0
  omega
 have u:(k.drop l++k.take l).Perm k:=by
  have:=(List.perm_append_comm (l₁:=k.drop l) (l₂:=k.take l));rwa[List.take_append_drop]at this
 have r6:(cS (bD 3) (bp (aa (af 1) ag)) (ko F)) [some (.int c),some (.int m),some (.str abc),none,some (.ref Ω.length),some (.int o),some (.int f),some (.ref a.length),none,none,none] s=.nx [some (.int c),some (.int m),some (.str abc),w,some (.ref Ω.length),some (.int o),some (.int f),some (.ref a.length),a8,a9,none] b:=by
  rw[gd];have:bp (aa (af 1) ag) [some (.int c),some (.int m),some (.str abc),none,some (.ref Ω.length),some (.int o),some (.int f),some (.ref a.length),none,none,none] s=.ok (.ints 0 m) s:=by simp[Q]
  rw[this,pV,eL]
 have r7:(aK 10 (mN (bJ F) (aa (af 0) (aa (ae (.int 11)) (aa (af 1) ag))))) [some (.int c),some (.int m),some (.str abc),w,some (.ref Ω.length),some (.int o),some (.int f),some (.ref a.length),a8,a9,none] b=.nx [some (.int c),some (.int m),some (.str abc),w,some (.ref Ω.length),some (.int o),some (.int f),some (.ref a.length),a8,a9,some (.int l)] b:=by
  rw[P];simp[ht]
 have s1:=wa (i:=l) H;have g3:(b++[Cell.lst ((k.drop l).map .str)])[b.length]?=some (.lst ((k.drop l).map .str)):=aP;have K4:aC [] b (b++[Cell.lst ((k.drop l).map .str)]):=aC.app;have h0:=K4.get _ _ H (by simp)
 generalize b++[Cell.lst ((k.drop l).map .str)]=A at *;have s2:=v_ (n:=l) h0;have g4:(A++[Cell.lst ((k.take l).map .str)])[A.length]?=some (.lst ((k.take l).map .str)):=aP;have K5:aC [] A (A++[Cell.lst ((k.take l).map .str)]):=aC.app;have i0:=K5.get _ _ g3 (by simp)
 generalize A++[Cell.lst ((k.take l).map .str)]=G at *;have j0:small (((k.drop l).map D.str).length+((k.take l).map D.str).length)=true:=b9 (by simp;omega)
 refine⟨k.drop l++k.take l,G.length,G++[.lst ((k.drop l).map .str++(k.take l).map .str)],⟨u.nodup_iff.mpr f0,λx hx=>by
  obtain⟨j,C⟩:=List.mem_iff_getElem?.mp (u.mem_iff.mp hx);exact tZ (t j x C)⟩,by rw[u.length_eq];exact M,?_,by rw[List.map_append];exact aP,aC.new U (K3.trans (uE.up ((K4.trans K5).trans aC.app))) (by simpa using K1.len)⟩
 unfold tX;rw[bc,r1,c4,bc,r2,c4,bc,r3,c4,bc,r4,c4,bc,r5,c4,bc,r6,c4,bc,r7,c4]
 have rr:(m2 (aw .Add) (dw (af 7) false (af 10) true (ae .non)) (dw (af 7) true (ae .non) false (af 10))) [some (.int c),some (.int m),some (.str abc),w,some (.ref Ω.length),some (.int o),some (.int f),some (.ref a.length),a8,a9,some (.int l)] b=.ok (.ref G.length) (G++[.lst ((k.drop l).map .str++(k.take l).map .str)]):=by
  simp only[iG,p9,tw,List.getElem?_cons_zero,List.getElem?_cons_succ,tr,dX,tS,tR,tT,s1,s2,kn,mE,aW i0,aW g4,mD];rw[if_pos j0];rfl
 rw[bc,tN,rr];rfl
theorem y4(a:et μ F):yZ (cD 11 2 (tX F)):=λd c m e f=>by
 obtain⟨g,q,b,h,r⟩:=wd a d c m e f;exact⟨g,q,b,h.1,r⟩
end
section
variable{Ω az:av}{ρ:aF}{F C:List D->Out Rs}{μ:Int->Int->Int->Int}{κ:List Int->Nat->Int}{c:Int}{m:Nat}
theorem nM{k n:Nat}{ds:List D}{d:D}{i:Int}(h:Ω[k]?=some (.lst ds))(b:L2.mV ds.length i=some n)(c:ds[n]?=some d)(a:gp i=true):eE (.ref k) [.int i] Ω=.ok d (Ω.set k (.lst (ds.eraseIdx n))):=by
 simp only[eE,mB h,a,if_true,b,c]
end
section
variable{Ω az:av}{ρ:aF}{k:Nat}{js:List Nat}{rs:List (List Str)}{row:List Str}{n:Str}
end
section
variable{Ω az:av}{ρ:aF}{k:Nat}{js:List Nat}{rs:List (List Str)}{row:List Str}{n:Str}
theorem t4{j:Nat}{t:Ty}{ds:List D}(h:Ω[j]?=some (.lst ds)):dk t (.ref j) Ω=.ok (.bl (t==.list)) Ω:=by
 unfold dk;rw[tF];simp only[vL,h];rfl
end
def AK(O:bE):EM:=cQ (mN (aH O) (aa (af 0) (aa (m2 (aw .Add) (af 1) (ae (.int 1))) ag))) true (ae .non) (ei (af 0)) 0 [1]
def d9(O:bE):SM:=
 (aq (dF (m2 (ax .Eq) (af 1) (ae (.int 8)))
 (aq (a_ (af 0))
 au)
 au)
 (aq (dF (m1 (dk .list) (af 0))
 (aq (a_ (AK O))
 au)
 au)
 (aq (dF (m1 (dk .tuple) (af 0))
 (aq (a_ (mN (b7 .tuple) (aa (AK O) ag)))
 au)
 au)
 (aq (dF (m1 (dk .dict) (af 0))
 (aq jk
 au)
 au)
 (aq (a_ (af 0))
 au)))))
noncomputable def isA:D->Bool
 |.str _=>true
 |.int _=>true
 |_=>false
section
variable{Ω az:av}{O:bE}
theorem t5{d:D}(a:isA d=true):cD 2 2 (d9 O) [d,.int 2] Ω=.ok d Ω:=by
 rw[eI (by rfl)]
 show bX (d9 O [some d,some (.int 2)] Ω)=_
 have b:dk .list d Ω=.ok (.bl false) Ω:=by cases d<;>first|rfl|cases a
 have c:dk .tuple d Ω=.ok (.bl false) Ω:=by cases d<;>first|rfl|cases a
 have e:dk .dict d Ω=.ok (.bl false) Ω:=by cases d<;>first|rfl|cases a
 simp[d9,b,c,e]
theorem we{ds:List D}(h:∀d∈ds,isA d=true)(j:ds.length<=900):cD 2 2 (d9 (cD 2 2 (d9 O))) [.tup ds,.int 1] Ω=.ok (.tup ds) (Ω++[.lst ds]):=by
 rw[eI (by rfl)]
 show bX (d9 (cD 2 2 (d9 O)) [some (.tup ds),some (.int 1)] Ω)=_
 have c:dk .list (.tup ds) Ω=.ok (.bl false) Ω:=rfl;have e:dk .tuple (.tup ds) Ω=.ok (.bl true) Ω:=rfl
 have a:=dZ (ρ:=[some (.tup ds),some (.int 1)]) (Ω:=Ω) (me:=mN (aH (cD 2 2 (d9 O))) (aa (af 0) (aa (m2 (aw .Add) (af 1) (ae (.int 1))) ag))) (nc:=true) (mc:=ae .non) (cap:=[1]) (ds:=ds) (p:=λ_=>true) (g:=λd=>d) (mi:=ei (af 0)) (src:=.seq (.tup ds)) (az:=Ω) rfl rfl (λd b=>rfl) (λd b _=>by
  have:=t5 (Ω:=Ω) (O:=O) (h d b);simp[dU,this]) (by omega)
 rw[List.filter_eq_self.mpr (by simp),List.map_id']at a
 have a:AK (cD 2 2 (d9 O)) [some (.tup ds),some (.int 1)] Ω=.ok (.ref Ω.length) (Ω++[.lst ds]):=a;have f:(Ω++[Cell.lst ds])[Ω.length]?=some (.lst ds):=aP
 have i:b7 .tuple [.ref Ω.length] (Ω++[Cell.lst ds])=.ok (.tup ds) (Ω++[Cell.lst ds]):=by
  show gN [.ref Ω.length] (Ω++[Cell.lst ds])=_
  simp only[gN,cw,aW f]
 generalize cD 2 2 (d9 O)=k at *;simp[d9,c,e,a,i]
theorem nN(s:wb):∀d∈[D.str s.1,.str s.2.1,.int s.2.2],isA d=true:=by simp[isA]
end
end Mir
namespace Mir
open PySem
theorem all1{p:List Value->Prop}(h:∀a,p [a]):∀us:List Value,us.length=1->p us
 |[a],_=>h a
theorem y6{p:List Value->Prop}{n:Nat}(h:∀a us,us.length=n->p (a::us))(us:List Value)(b:us.length=n+1):p us:=by
 cases us with
 |nil=>exact absurd b (Nat.zero_ne_add_one n)
 |cons a r=>exact h a r (Nat.succ.inj b)
theorem all2{p:List Value->Prop}(h:∀a b,p [a,b]):∀us:List Value,us.length=2->p us:=y6 λa=>all1 (h a)
theorem qb{p:List Value->Prop}(h:∀a b c,p [a,b,c]):∀us:List Value,us.length=3->p us:=y6 λa=>all2 (h a)
open PySem.Spec PyProof.Rows L2
structure fN(K:PySem.W.Frag)(x:Str)(st:Stmt)(f:Addr)(fd:FuncData):Prop where
 ns:PySem.W.nsIn K mainGlobals x=some (some (.ref f))
 fn:rg K x x st f fd
theorem kq{K:PySem.W.Frag}{x:Str}{st:Stmt}{f:Addr}{oc:Value}{od g:Option Addr}{e:Array (Option Value)}{kV d h b ct:Value}(a:PySem.W.nsIn K mainGlobals x=some (some (.ref f)))
  (l:K.lookup f=some ⟨oc,od,.func (PySem.W.fnOf x x (bu st) (aY st) (ai st) .none kV d h g b ct),e⟩) (c:PySem.W.codeIn K b x=true) (k:PySem.W.keepIn K (.ref f)=true):fN K x st f (PySem.W.fnOf x x (bu st) (aY st) (ai st) .none kV d h g b ct):=⟨a,kK l c k⟩
variable [aA]
section
variable{X:Cx}{κ:Str->Addr->Prop}{Φ:dA}{e:Expr}{es:List Expr}{as:AM}{p pos:Pos}{T:aO}{k:Nat}{sc:Scope}{N:List Str}
theorem nO{j:Nat}{x:Str}{F:bE}{f:Addr}{k:FuncData}{ps:List Str}{ds:List Value}{lG:List V}{Dd:List D}(l:bO X.prog X.w X.K X.mg X.base dt j f k ps (b8 κ F))(m:bF j X.A)(n:Gl X x)(o:X.mg x=some (.ref f))(q:PySem.W.keepIn X.K (.ref f)=true)(r:Binds X.K k ps ds)(s:Vals lG ds)(t:∀a Z H,aE (aj a Z H) Dd lG)(b:(x==("__debug__":Str))=false)
  (u:starEach (e::es) X.env=(false,eval e X.env)::starEach es X.env) (c:(backTo pos (starEach es X.env)).any (·.1)=false) (y:k7 X κ Φ (e::es) as) :
  aQ X κ Φ (.Call (.Name x p) (e::es) [] pos) (mN (λxs Ω=>aH F (xs++Dd) Ω) as):=by
 intro d z B C Ω;refine PE.imp (iU l m n o q r s lO (y d z B C Ω) b u c) ?_;rintro L H Q ⟨a,Z,S,g⟩;refine⟨a,Z,S,j3.use g λxs h _ M N i E O G I J=>?_⟩
 exact⟨i,E,h,xs++Dd,G,I.append (t _ _ _),ba.ok0 J⟩
end
section
variable{P:Program}{w:World}{K:PySem.W.Frag}{mg:Str->Option Value}{base:Heap}{T:aO}{k:Nat}
end
section
variable{P:Program}{w:World}{K:PySem.W.Frag}{mg:Str->Option Value}{base:Heap}
theorem wg{k:Nat}{f:Addr}{a:FuncData}{ps:List Str}{κ:Str->Addr->Prop}:bO P w K mg base dt k f a ps (b8 κ (λ_ _=>.bad)):=
 ⟨λ_ _ _ _ ⟨_,_,_,_,_,_,g⟩=>g.elim,λ_ _ _ _ _ _ _ _ _ _ _ _ _ ⟨_,_,_,_,_,_,g⟩=>g.elim⟩
end
section
variable{X:Cx}{κ:Str->Addr->Prop}{T:aO}{k j:Nat}{sc:Scope}{N:List Str}{f:Addr}{fd:FuncData}{ps:List Str}{MG:bE}{E':XK}{x a y:Str}{p pa py cpos pos:Pos}
end
end Mir
namespace L2
open PySem PySem.Spec PyProof.Rows
noncomputable def qf(e:DictEntry):Bool:=match e.key with
 |.str _ _=>true
 |_=>false
def AL(K:PySem.W.Frag)(N:Addr)(b:Str):Option (Option Value):=match K.lookup N with
 |some ⟨_,_,.dict a _,_⟩=>if a.toList.all qf=true then some (nsFind a b)else none
 |_=>none
theorem uF{K:PySem.W.Frag}{N:Addr}{f:Str}{r:Option Value}(h:AL K N f=some r)(g:Heap)(X:K.In g):∃mN,g.Ns N mN/\mN f=r:=by
 unfold AL at h;split at h
 .rename_i c d i n m j
  split at h
  .rename_i k
   cases h;refine⟨nsFind i,⟨_,i,n,X _ _ j,rfl,λe l=>?_,λ_=>rfl⟩,rfl⟩
   have:=List.all_eq_true.mp k e (by simpa using l)
   unfold qf at this;split at this
   .rename_i a b q;exact⟨a,b,q⟩
   .cases this
  .cases h
 .cases h
def iJ(K:PySem.W.Frag):List Value->Bool
 |.ref A::tl=>(match K.lookup A with
  |some ⟨_,_,.cls cd,_⟩=>AL K cd.ns "__init__"==some none
  |_=>false)&&iJ K tl
 |l=>l==ey
theorem mH{K:PySem.W.Frag}:∀{l:List Value},iJ K l=true->∀h:Heap,K.In h->OwnTail h ey l
 |[],e,h,X=>by simp[iJ]at e
 |a::r,e,h,X=>by
  cases a with
  |ref A=>
   simp only[iJ,Bool.and_eq_true]at e;obtain⟨b,f⟩:=e;split at b
   .rename_i c d k m g
    obtain⟨mN,i,j⟩:=uF (eq_of_beq b) h X;exact .own (X _ _ g) i j (mH f h X)
   .cases b
  |_=>rw[eq_of_beq (show(_==ey)=true from e)];exact .base
def qh(K:PySem.W.Frag)(C N a:Addr):Bool:=(PySem.W.clsIn K C).any (λb=>cN b.mro&&b.hasDict)&&PySem.W.findIn K (.ref C) "__setattr__"==some (some (.builtin "object.__setattr__"))&&(PySem.W.findIn K (.ref C) "__getattribute__"==some (some (.builtin "BaseException.__getattribute__"))&&PySem.W.findIn K (.ref C) "__getattr__"==some none&&PySem.W.mroIn K C (.type "BaseException")==some true)&&PySem.W.hasDictIn K C &&
 AL K N "__init__"==some (some (.ref a))&&PySem.W.keepIn K (.ref C)&&PySem.W.typeIn K (.ref a)==some (.type "function")
theorem t6{K:PySem.W.Frag}{C N f:Addr}{g q:Str}{bs c:List Value}{i:List Str}{a:List Value}{j:Bool}{b:Option Bool}{k:Option Addr}{l m n o p:Option Value}
  (r:K.lookup C=some (excClassObj g q C N bs c true i a j b k l m n o p "ValueError.__new__")) (s:iJ K c=true) (h:qh K C N f=true):ez K C N f:=by
 unfold qh at h;simp only[Bool.and_eq_true,beq_iff_eq]at h;obtain⟨⟨⟨⟨⟨⟨t,u⟩,⟨w,d⟩,e⟩,x⟩,y⟩,z⟩,A⟩:=h;obtain⟨B,c1,c2⟩:=PySem.W.any_some t;rw[Bool.and_eq_true]at c2;exact⟨⟨g,q,bs,c,i,a,j,b,k,l,m,n,o,p,r,mH s⟩,⟨B,c1,c2.1,c2.2⟩,u,⟨w,d,e⟩,x,uF y,z,A⟩
end L2
namespace Mir
open PySem PySem.Spec PyProof.Rows L2
variable [aA]
structure dH(K:PySem.W.Frag)(cn qual:Str)(st:Stmt)(C:Addr):Prop where
 ns:PySem.W.nsIn K mainGlobals cn=some (some (.ref C))
 ex:∃(N0 fI cI:Addr) (fd:FuncData),ez K C N0 fI/\rg K "__init__" qual st fI fd/\fd.code=.ref cI
 is:zL K C
noncomputable def y8(K:PySem.W.Frag)(C:Addr):Bool:=PySem.W.findIn K (.ref C) "__class__"==some (some (.builtin "object.__class__"))&&PySem.W.specialIn K (.builtin "object.__class__") "__get__"==some (some (.builtin "getset_descriptor.__get__"))&&PySem.W.takesIn K (.builtin "object.__class__")==some true&&PySem.W.mroIn K C (.type "object")==some true
theorem t7{K:PySem.W.Frag}{o qual:Str}{st:Stmt}{C N c d:Addr}{r q:Str}{bs p:List Value}{s:List Str}{e:List Value}{t:Bool}{f:Option Bool}{u g h:Option Addr}{w x y z A:Option Value}{i:Array (Option Value)}{j k l m n:Value}
  (a:PySem.W.nsIn K mainGlobals o=some (some (.ref C))) (B:K.lookup C=some (excClassObj r q C N bs p true s e t f u w x y z A "ValueError.__new__")) (nC:PySem.W.nsIn K N "__init__"=some (some (.ref c))) (tC:iJ K p=true) (D:qh K C N c=true)
  (E:K.lookup c=some ⟨j,g,.func (PySem.W.fnOf "__init__" qual (bu st) (aY st) (ai st) .none k l m h (.ref d) n),i⟩) (F:PySem.W.codeIn K (.ref d) qual=true) (G:PySem.W.keepIn K (.ref c)=true) (b:y8 K C=true):dH K o qual st C:=by
 unfold y8 at b;simp only[Bool.and_eq_true,beq_iff_eq]at b;exact⟨a,⟨N,c,d,_,t6 B tC D,kK E F G,rfl⟩,⟨b.1.1.1,b.1.1.2,b.1.2,b.2⟩⟩
section
variable{P:Program}{w:World}{K:PySem.W.Frag}{mg:Str->Option Value}{base:Heap}{k:Nat}{cn qual:Str}{st:Stmt}{C B0:Addr}{F:bE}
theorem bQ{ps:List Str}{rs:List eW}{ms:List EM}{L:List (Str×Pos×Pos)}{g h m apos pos:Pos}{pl:Env->Sem Bool}(A:dH K cn qual st C)(n:mg cn=some (.ref C))(u:XBase K mg "LookError" B0)
  (x:cY ("self"::ps) ("self"::ps) (ai st)=true)
  (y:∀(kV a i:Value) (j:Option Addr) (b ct:Value) (us:List Value),us.length=ps.length+1->bindArgs (PySem.W.fnOf "__init__" qual (bu st) (aY st) (ai st) .none kV a i j b ct) ⟨us,[]⟩=pure ((("self":Str)::ps).zip us))
  (z:∀r∈rs,PySem.W.findIn K (.ref C) r.fld=some none) (B:(rs.map (·.fld)).Nodup) (D:(ai st).names.lookup ("self":Str)=some NameKind.local) (E:rs.length<900) (G:ps.length<900) (H:(ai st).names.lookup ("LookError":Str)=some NameKind.globalImplicit)
  (I:aY st=rs.map (eW.st "self")++[.Expr (.Call (.Attribute (.Name "LookError" g) "__init__" apos) (.Name "self" h::L.map (eX "self")) [] pos) m]) (J:L.map (·.1)=rs.map (·.fld))
  (M:∀r∈rs,∀env,swapsWith r.ve (some (.Attribute (.Name "self" r.a1) r.fld r.a2)) r.a3.line env=pure false)
  (N:∀env:Env,eval (.Call (.Attribute (.Name "LookError" g) "__init__" apos) (.Name "self" h::L.map (eX "self")) [] pos) env=(do
   let o ←eval (.Name "LookError" g) env
   standAt apos.atName
   let (f,first) ←holding [o] (getMethod o "__init__" (pl env))
   callWith pos f first (backTo pos (starEach (.Name "self" h::L.map (eX "self")) env)) (backToKw pos (keywordEach [] env))))
  (O:F=eo cn ps.length ((rs.map (·.fld)).zip ms)) (l:ms.length=rs.length)
  (Q:∀(c d:Addr) (q:Around) (R:List Env) (s:Shared) (e:Addr) (S:Hp) (T:XK),bF k (q.deeper (envOfC qual (ai st) s.heap.objs.size c (.ref d)))->∀p∈rs.zip ms,aQ ((c5 dt P w K mg base ("self"::ps) qual (ai st) c (.ref d) q R s S T).h8.mk1 e) (bf mg) eF p.1.ve p.2) :
  f7 P w K mg base (bf mg) k cn F:=by
 obtain⟨U,c,d,V,X,t,Y⟩:=A.ex;exact⟨C,U,c,d,V,st,qual,"self",ps,rs,ms,⟨⟨_,t⟩,Y,fW x,X,t.binds (ps:="self"::ps) λkV a i j b ct us l=>y kV a i j b ct us l,z,B,D,rfl,rfl,E,G,⟨"LookError",B0,L,g,h,m,apos,pos,pl,u,rfl,H,I,J,M,N⟩⟩,n,n,O,l,Q c d⟩
theorem cB{U:aO}{N:List Str}{b c d:Addr}{i:FuncData}{l:Tok}{O:bE}{PO:List Str}{a:Expr}{m:EM}{p pos:Pos}(W:bP P w K mg base U k)(s:bO P w K mg base dt k b i PO (b8 (bf mg) O))(t:Binds K i PO [.int 0 l])(u:mg "own_copy"=some (.ref b))(y:PySem.W.keepIn K (.ref b)=true)
    (z:(ai st).names.lookup ("own_copy":Str)=some NameKind.globalImplicit) (A:bL U 60 (ai st) N a=some m) {f:Around}{n:List Env}{g:Shared}{e:Addr}{o:Hp}{q:XK} (r:bF k (f.deeper (envOfC qual (ai st) g.heap.objs.size c (.ref d)))) :
    aQ ((c5 dt P w K mg base N qual (ai st) c (.ref d) f n g o q).h8.mk1 e) (bf mg) eF (.Call (.Name "own_copy" p) [a] [] pos) (mN (λxs Ω=>aH O (xs++[.int 0]) Ω) (aa m ag)):=by
  have G:GoodO ((c5 dt P w K mg base N qual (ai st) c (.ref d) f n g o q).h8.mk1 e) (bf mg) U k (ai st) N:=
    { scope:=rfl,names:=rfl,calm:=rfl,room:=r,dm:=W.dm,fld:=W.fld,cst:=W.cst
      hY:=λx F h=>⟨W.hY x F h⟩,fn:=λx F h=>⟨W.fn x F h⟩,met:=λm C F h=>⟨W.met m C F h⟩,cls:=λC F h=>let ⟨j,B,D⟩:=W.cls C F h;⟨j,B,⟨D⟩⟩,clo:=W.clo }
  have ok:=jq 60 _ (ai st) N _ m G A;exact nO (Dd:=[.int 0]) (lG:=[.int 0]) s r z u y t (.cons ⟨l,rfl⟩ .nil) (λ_ _ _=>.one (by simp only[aj])) rfl (bj ok.2.2) rfl (j5 (ok.1 _) l7 (bj ok.2.2))
def B8(K:PySem.W.Frag)(L:List (Str×Addr))(fl:List (Str×List Str)):Bool:=fl.all λp=>p.2.all λC=>match L.lookup C with
 |some a=>PySem.W.findIn K (.ref a) p.1==some none
 |none=>false
noncomputable def CU(K:PySem.W.Frag)(L:List (Str×Addr))(b:List (Str×Value))(c:List (Str×List (Str×Bool))):Bool:=c.all λp=>match b.lookup p.1 with
 |some d=>p.2.all λq=>match L.lookup q.1 with
  |some a=>PySem.W.kitOne K (.ref a) d==some q.2
  |none=>false
 |none=>false
theorem b_{A B:Type}[BEq A][LawfulBEq A]{x:A}{b:B}:∀{l:List (A×B)},l.lookup x=some b->(x,b)∈l
 |[],h=>by cases h
 | (y,c)::l,h=>by
  rw[List.lookup]at h;split at h
  .rename_i e;cases h;rw[eq_of_beq e];simp
  .exact List.mem_cons_of_mem _ (b_ h)
theorem qj{t:XT}{L:List (Str×Addr)}{c:List (Str×Value)}(n:∀p∈L,mg p.1=some (.ref p.2)/\(∃N s,ez K p.2 N s)/\zL K p.2)(u:∀p∈c,mg p.1=some p.2\/mg p.1=none/\bootBuiltins p.1=some p.2)(y:B8 K L t.fl=true)(z:CU K L c t.is=true)
  (A:∀p∈t.ma,∃j,j+2<=k/\f7 P w K mg base (bf mg) j p.1 p.2):fL P w K mg base (bf mg) k t where
 ma:=λC F h=>A (C,F) (b_ h)
 fl:=λf B h C i D e=>by
  have d:=List.all_eq_true.mp (List.all_eq_true.mp y (f,B) (b_ h)) C (by simpa using D)
  cases q:L.lookup C with
  |none=>rw[q]at d;cases d
  |some a=>
   rw[q]at d;obtain⟨m1,m2,o⟩:=n (C,a) (b_ q);have e:mg C=some (.ref i):=e;rw[e]at m1;cases m1;exact⟨m2,eq_of_beq d⟩
 is:=λx l h=>by
  have d:=List.all_eq_true.mp z (x,l) (b_ h);cases q:c.lookup x with
  |none=>simp only[q]at d;cases d
  |some r=>
   simp only[q]at d;refine⟨r,u (x,r) (b_ q),λC i b E e=>?_⟩
   have g:=List.all_eq_true.mp d (C,b) (b_ E);cases m:L.lookup C with
   |none=>rw[m]at g;cases g
   |some a=>
    rw[m]at g;obtain⟨m1,m2,o⟩:=n (C,a) (b_ m);have e:mg C=some (.ref i):=e;rw[e]at m1;cases m1;exact⟨m2,o,eq_of_beq g⟩
end
end Mir
namespace Mir
open PySem L2
variable [aA]
def c0:EM:=m2 aV (af 1) (ae (.int 0))
def c1:EM:=m2 aV (af 1) (ae (.int 1))
def c2:EM:=m2 aV (af 1) (ae (.int 2))
section
variable{Ω az:av}{k:Nat}{js:List Nat}{rs:List (List Str)}{row:List Str}{s:wb}
end
section
variable{Ω az:av}{ρ:aF}{k:Nat}{js:List Nat}{rs:List (List Str)}{ss:List wb}
theorem qk{j k:Nat}{ds es:List D}(a:Ω[j]?=some (.lst ds))(b:Ω[k]?=some (.lst es))(c:ds.length+es.length<=1000):aw .Add (.ref j) (.ref k) Ω=.ok (.ref Ω.length) (Ω++[.lst (ds++es)]):=by
 rw[kn,mE,aW a,aW b,mD,if_pos (b9 (by omega))]
 rfl
end
end Mir
namespace eJ
open PySem PySem.Spec PyProof.Rows L2 Mir
noncomputable def top(i:Nat):Stmt:=PySem.Challenge.pw_taglook_k19_refusals_apart.main.body.getD i (.Pass ⟨0,0,0,0⟩)
instance clos:aA:=⟨λ_=>⟨"","",bu (top 0),[],ai (top 0),[],[]⟩,λ_=>0⟩
noncomputable def td:List Str:=[]
def AN:aO:=(({}:aO).tj "DEEPEST" (.int 8))
noncomputable def CV:List Str:=["_law_cell_here","_law_turn","_law_many","_law_rest","_law_k","_law_turns","_law_one","_law_two"]
noncomputable def CW:List Str:=["_law_cell_here","_law_turn","_law_many"]
def CY:SM:=
 (aq (aK 3 (m2 (aw .FloorDiv) (af 0) (ae (.int 2))))
 (aq (dF (gK (m2 (ax .Eq) (m2 (aw .Mod) (af 0) (ae (.int 2))) (ae (.int 1))) (m2 (ax .Gt) (af 0) (m2 (aw .Pow) (ae (.int 10)) (ae (.int 18)))))
 (aq (cS (bD 4) (bp (aa (af 1) ag))
 (aq (aK 3 (m2 (aw .FloorDiv) (af 3) (ae (.int 840))))
 au))
 (aq (a_ (m2 (aw .Mod) (m2 (aw .Mod) (af 3) (ae (.int 840))) (af 2)))
 au))
 au)
 (aq (aK 5 (mN aU (aa (ae (.int 48271)) (aa (ae (.int 69621)) (aa (ae (.int 40692)) (aa (ae (.int 39373)) (aa (ae (.int 16807)) (aa (ae (.int 30323)) (aa (ae (.int 21403)) (aa (ae (.int 62089)) (aa (ae (.int 45742)) (aa (ae (.int 37907)) (aa (ae (.int 53611)) (aa (ae (.int 28411)) (aa (ae (.int 59393)) (aa (ae (.int 33391)) ag))))))))))))))))
 (aq (aK 6 (m2 (aw .Mod) (m2 (aw .Mult) (m2 (aw .Add) (m2 (aw .Mod) (af 0) (ae (.int 1000000007))) (ae (.int 11))) (m2 aV (af 5) (m2 (aw .Mod) (af 1) (ae (.int 14))))) (ae (.int 2147483629))))
 (aq (aK 7 (m2 (aw .Mod) (m2 (aw .Mult) (af 6) (m2 (aw .Add) (af 6) (af 1))) (ae (.int 1999999973))))
 (aq (a_ (m2 (aw .Mod) (m2 (aw .FloorDiv) (m2 (aw .Mod) (m2 (aw .Mult) (af 7) (ae (.int 16807))) (ae (.int 998244353))) (ae (.int 1000))) (af 2)))
 au))))))
def DK:bE:=cD 8 3 CY
def F0:List Mir.D->Out Rs:=pureOf DK
def CZ:aO:=AN.ti "_law_mix" F0
theorem DL:cY CV CW (ai (top 22))=true:=by decide +kernel
theorem DM:dW AN td (top 22) CV=some CY:=rfl
def U0:aO:=CZ
noncomputable def C_:List Str:=["thing","depth"]
noncomputable def wh:List Str:=["thing","depth"]
def DN:bE:=cD 2 2 (d9 λ_ _=>.bad)
def DO:bE:=cD 2 2 (d9 DN)
def O0:bE:=cD 2 2 (d9 DO)
def U1:aO:=U0
theorem B9:cY C_ wh (ai (top 2))=true:=by decide +kernel
theorem B_(O:bE):dW (AN.dG "own_copy" O) td (top 2) C_=some (d9 O):=rfl
noncomputable def jA:List Str:=["NoName","Twice","NoKind","TooMany","NoStrength","NotThere","NoRoom","NoThing","NoOwn","NoSite","NoRow","NothingBack","Heired","Loop","Ring","Tangled"]
def cg(x:Str):List (Str×Bool):=jA.map λC=>(C,C==x)
def uG:List (Str×Bool):=jA.map λC=>(C,true)
def d_(O:bE)(i:Nat):EM:=mN (λa b=>aH O (a++[.int 0]) b) (aa (af i) ag)
def qG(O:bE)(i:Nat):EM:=mN (λa b=>aH O (a++[.int 0]) b) (aa (mN (b7 .list) (aa (af i) ag)) ag)
def y9:bE:=eo "NoName" 1 [("name",d_ O0 1)]
def y_:bE:=eo "Twice" 1 [("name",d_ O0 1)]
def za:bE:=eo "NoKind" 1 [("name",d_ O0 1)]
def zb:bE:=eo "TooMany" 1 [("most",d_ O0 1)]
def zc:bE:=eo "NoStrength" 1 [("value",d_ O0 1)]
def zd:bE:=eo "NotThere" 1 [("name",d_ O0 1)]
def ze:bE:=eo "NoRoom" 1 [("value",d_ O0 1)]
def zf:bE:=eo "NoThing" 1 [("name",d_ O0 1)]
def zg:bE:=eo "NoOwn" 1 [("word",d_ O0 1)]
def zh:bE:=eo "NoSite" 1 [("name",d_ O0 1)]
def ql:bE:=eo "NoRow" 1 [("place",d_ O0 1)]
def qm:bE:=eo "NothingBack" 0 []
def qo:bE:=eo "Heired" 2 [("name",d_ O0 1),("heir",d_ O0 2)]
def qq:bE:=eo "Loop" 1 [("ring",qG O0 1)]
def qr:bE:=eo "Ring" 1 [("steps",qG O0 1)]
def qu:bE:=eo "Tangled" 2 [("name",d_ O0 1),("steps",qG O0 2)]
def XS:XT:={ma:=[("NoName",y9),("Twice",y_),("NoKind",za),("TooMany",zb),("NoStrength",zc),("NotThere",zd),("NoRoom",ze),("NoThing",zf),("NoOwn",zg),("NoSite",zh),("NoRow",ql),("NothingBack",qm),("Heired",qo),("Loop",qq),("Ring",qr),("Tangled",qu)],fl:=[("name",["NoName","Twice","NoKind","NotThere","NoThing","NoSite","Heired","Tangled"]),("most",["TooMany"]),("value",["NoStrength","NoRoom"]),("word",["NoOwn"]),("place",["NoRow"]),("heir",["Heired"]),("ring",["Loop"]),("steps",["Ring","Tangled"])],is:=jA.map (λx=>(x,cg x))++[(("LookError":Str),uG),("ValueError",uG)]}
def U2:aO:={U1 with xs:=XS}
noncomputable def Dc:List Str:=["_law_script","_law_k"]
noncomputable def De:List Str:=["_law_script","_law_k"]
def d2:SM:=
 (aq (dF (m2 (ax .Lt) (af 1) (mN (b7 .len) (aa (af 0) ag)))
 (aq (a_ (m2 aV (af 0) (af 1)))
 au)
 au)
 (aq (a_ (ae (.int 0)))
 au))
def O2:bE:=cD 2 2 d2
def U3:aO:=U2.dG "_law_cell" O2
theorem DP:cY Dc De (ai (top 21))=true:=by decide +kernel
theorem DQ:dW U2 td (top 21) Dc=some d2:=rfl
noncomputable def Df:List Str:=["_law_cell_here","_law_many","_law_letters","_law_k","_law_base","_law_size","_law_at","_law_names_here","_law_name","_law_j","_law_turn"]
noncomputable def Dg:List Str:=["_law_cell_here","_law_many"]
def d3:SM:=
 (aq (aK 2 (ae (.str "abcdefghijklmnopqrstuvwxyz")))
 (aq (aK 4 (cQ (mN (bJ F0) (aa (af 1) (aa (af 0) (aa (ae (.int 26)) ag)))) true (ae .non) (bp (aa (ae (.int 8)) ag)) 0 [0]))
 (aq (aK 5 (m2 (aw .Add) (ae (.int 1)) (mN (bJ F0) (aa (af 0) (aa (ae (.int 8)) (aa (ae (.int 8)) ag))))))
 (aq (aK 6 (mN (bJ F0) (aa (af 0) (aa (ae (.int 9)) (aa (af 5) ag)))))
 (aq (aK 7 (mN aU ag))
 (aq (cS (bD 3) (bp (aa (af 1) ag))
 (aq (aK 8 (ae (.str "")))
 (aq (cS (bD 9) (bp (aa (af 5) ag))
 (aq (aK 8 (m2 (aw .Add) (af 8) (m2 aV (af 2) (m2 (aw .Mod) (m2 (aw .Add) (m2 aV (af 4) (af 9)) (m2 (aw .Mult) (af 3) (mN (b7 .int) (aa (m2 (ax .Eq) (af 9) (af 6)) ag)))) (ae (.int 26))))))
 au))
 (aq (dF (gK (m2 (ax .Eq) (mN (bJ F0) (aa (af 0) (aa (ae (.int 10)) (aa (ae (.int 4)) ag)))) (ae (.int 1))) (m2 (ax .Lt) (af 1) (ae (.int 9))))
 (aq (aK 8 (dS ph gQ (ae (.str "")) (aa (cQ (m2 aV (af 1) (af 0)) true (ae .non) (ei (dw (af 4) true (ae .non) false (m2 (aw .Add) (af 3) (ae (.int 1))))) 0 [2]) ag)))
 au)
 au)
 (aq (gS (dS kx cu (af 7) (aa (af 8) ag)))
 au)))))
 (aq (aK 10 (mN (bJ F0) (aa (af 0) (aa (ae (.int 11)) (aa (af 1) ag)))))
 (aq (a_ (m2 (aw .Add) (dw (af 7) false (af 10) true (ae .non)) (dw (af 7) true (ae .non) false (af 10))))
 au))))))))
def O3:bE:=cD 11 2 d3
def U4:aO:=U3.dG "_law_names" O3
theorem DR:cY Df Dg (ai (top 23))=true:=by decide +kernel
theorem DS:dW U3 td (top 23) Df=some d3:=rfl
noncomputable def Dh:List Str:=["_law_way","_law_one","_law_other"]
noncomputable def Di:List Str:=["_law_way","_law_one","_law_other"]
def d4:SM:=
 (aq (dF (m2 (ax .Lt) (af 0) (ae (.int 4)))
 (aq (a_ (m2 aV (mN aU (aa (mN y9 (aa (af 1) ag)) (aa (mN y_ (aa (af 1) ag)) (aa (mN za (aa (af 1) ag)) (aa (mN zb (aa (af 1) ag)) ag))))) (af 0)))
 au)
 au)
 (aq (dF (m2 (ax .Lt) (af 0) (ae (.int 8)))
 (aq (a_ (m2 aV (mN aU (aa (mN zc (aa (af 1) ag)) (aa (mN zd (aa (af 1) ag)) (aa (mN ze (aa (af 1) ag)) (aa (mN zf (aa (af 1) ag)) ag))))) (m2 (aw .Sub) (af 0) (ae (.int 4)))))
 au)
 au)
 (aq (dF (m2 (ax .Lt) (af 0) (ae (.int 12)))
 (aq (a_ (m2 aV (mN aU (aa (mN zg (aa (af 1) ag)) (aa (mN zh (aa (af 1) ag)) (aa (mN ql (aa (af 1) ag)) (aa (mN qm ag) ag))))) (m2 (aw .Sub) (af 0) (ae (.int 8)))))
 au)
 au)
 (aq (dF (m2 (ax .Eq) (af 0) (ae (.int 12)))
 (aq (a_ (mN qo (aa (af 1) (aa (ae (.str "heir")) ag))))
 au)
 au)
 (aq (dF (m2 (ax .Eq) (af 0) (ae (.int 13)))
 (aq (a_ (mN qq (aa (af 2) ag)))
 au)
 au)
 (aq (dF (m2 (ax .Eq) (af 0) (ae (.int 14)))
 (aq (a_ (mN qr (aa (af 2) ag)))
 au)
 au)
 (aq (a_ (mN qu (aa (af 1) (aa (af 2) ag))))
 au)))))))
def O4:bE:=cD 3 3 d4
def U5:aO:=U4.dG "_law_made" O4
theorem DT:cY Dh Di (ai (top 24))=true:=by decide +kernel
theorem DU:dW U4 td (top 24) Dh=some d4:=rfl
noncomputable def Dj:List Str:=["_law_e","_law_some"]
noncomputable def Dk:List Str:=["_law_e"]
def d5:SM:=
 (aq (aK 1 (mN aU (aa (m1 (aR (cg "NoName")) (af 0)) (aa (m1 (aR (cg "Twice")) (af 0)) (aa (m1 (aR (cg "NoKind")) (af 0)) (aa (m1 (aR (cg "TooMany")) (af 0)) ag))))))
 (aq (aK 1 (m2 (aw .Add) (af 1) (mN aU (aa (m1 (aR (cg "NoStrength")) (af 0)) (aa (m1 (aR (cg "NotThere")) (af 0)) (aa (m1 (aR (cg "NoRoom")) (af 0)) (aa (m1 (aR (cg "NoThing")) (af 0)) ag)))))))
 (aq (aK 1 (m2 (aw .Add) (af 1) (mN aU (aa (m1 (aR (cg "NoOwn")) (af 0)) (aa (m1 (aR (cg "NoSite")) (af 0)) (aa (m1 (aR (cg "NoRow")) (af 0)) (aa (m1 (aR (cg "NothingBack")) (af 0)) ag)))))))
 (aq (a_ (m2 (aw .Add) (af 1) (mN aU (aa (m1 (aR (cg "Heired")) (af 0)) (aa (m1 (aR (cg "Loop")) (af 0)) (aa (m1 (aR (cg "Ring")) (af 0)) (aa (m1 (aR (cg "Tangled")) (af 0)) ag)))))))
 au))))
def O5:bE:=cD 2 1 d5
def U6:aO:=U5.dG "_law_classes" O5
theorem DV:cY Dj Dk (ai (top 25))=true:=by decide +kernel
theorem DW:dW U5 td (top 25) Dj=some d5:=rfl
noncomputable def Dl:List Str:=["_law_way","_law_e"]
noncomputable def Dm:List Str:=["_law_way","_law_e"]
def d6:SM:=
 (aq (dF (m2 (ax .In) (af 0) (mN bt (aa (ae (.int 0)) (aa (ae (.int 1)) (aa (ae (.int 2)) (aa (ae (.int 5)) (aa (ae (.int 7)) (aa (ae (.int 9)) ag))))))))
 (aq (a_ (mN aU (aa (m1 (bK ["NoName","Twice","NoKind","NotThere","NoThing","NoSite","Heired","Tangled"] "name") (af 1)) ag)))
 au)
 au)
 (aq (dF (nj (m2 (ax .Eq) (af 0) (ae (.int 4))) (m2 (ax .Eq) (af 0) (ae (.int 6))))
 (aq (a_ (mN aU (aa (m1 (bK ["NoStrength","NoRoom"] "value") (af 1)) ag)))
 au)
 au)
 (aq (dF (m2 (ax .Eq) (af 0) (ae (.int 3)))
 (aq (a_ (mN aU (aa (m1 (bK ["TooMany"] "most") (af 1)) ag)))
 au)
 au)
 (aq (dF (m2 (ax .Eq) (af 0) (ae (.int 8)))
 (aq (a_ (mN aU (aa (m1 (bK ["NoOwn"] "word") (af 1)) ag)))
 au)
 au)
 (aq (dF (m2 (ax .Eq) (af 0) (ae (.int 10)))
 (aq (a_ (mN aU (aa (m1 (bK ["NoRow"] "place") (af 1)) ag)))
 au)
 au)
 (aq (dF (m2 (ax .Eq) (af 0) (ae (.int 12)))
 (aq (a_ (mN aU (aa (m1 (bK ["NoName","Twice","NoKind","NotThere","NoThing","NoSite","Heired","Tangled"] "name") (af 1)) (aa (m1 (bK ["Heired"] "heir") (af 1)) ag))))
 au)
 au)
 (aq (dF (m2 (ax .Eq) (af 0) (ae (.int 13)))
 (aq (a_ (mN aU (aa (m1 (bK ["Loop"] "ring") (af 1)) ag)))
 au)
 au)
 (aq (dF (m2 (ax .Eq) (af 0) (ae (.int 14)))
 (aq (a_ (mN aU (aa (m1 (bK ["Ring","Tangled"] "steps") (af 1)) ag)))
 au)
 au)
 (aq (dF (m2 (ax .Eq) (af 0) (ae (.int 15)))
 (aq (a_ (mN aU (aa (m1 (bK ["NoName","Twice","NoKind","NotThere","NoThing","NoSite","Heired","Tangled"] "name") (af 1)) (aa (m1 (bK ["Ring","Tangled"] "steps") (af 1)) ag))))
 au)
 au)
 (aq (a_ (mN aU ag))
 au))))))))))
def O6:bE:=cD 2 2 d6
def U7:aO:=U6.dG "_law_kept" O6
theorem DX:cY Dl Dm (ai (top 26))=true:=by decide +kernel
theorem DY:dW U6 td (top 26) Dl=some d6:=rfl
noncomputable def Dn:List Str:=["_law_way","_law_one","_law_other"]
noncomputable def Dp:List Str:=["_law_way","_law_one","_law_other"]
def d7:SM:=
 (aq (dF (m2 (ax .Eq) (af 0) (ae (.int 11)))
 (aq (a_ (mN aU ag))
 au)
 au)
 (aq (dF (m2 (ax .Eq) (af 0) (ae (.int 12)))
 (aq (a_ (mN aU (aa (af 1) (aa (ae (.str "heir")) ag))))
 au)
 au)
 (aq (dF (nj (m2 (ax .Eq) (af 0) (ae (.int 13))) (m2 (ax .Eq) (af 0) (ae (.int 14))))
 (aq (a_ (mN aU (aa (af 2) ag)))
 au)
 au)
 (aq (dF (m2 (ax .Eq) (af 0) (ae (.int 15)))
 (aq (a_ (mN aU (aa (af 1) (aa (af 2) ag))))
 au)
 au)
 (aq (a_ (mN aU (aa (af 1) ag)))
 au)))))
def O7:bE:=cD 3 3 d7
def U8:aO:=U7.dG "_law_due" O7
theorem DZ:cY Dn Dp (ai (top 27))=true:=by decide +kernel
theorem D3:dW U7 td (top 27) Dn=some d7:=rfl
noncomputable def Dq:List Str:=["_law_script","_law_names_here","_law_claims","_law_way","_law_cell_here","_law_number","_law_one","_law_other","_law_handed","_law_both","_law_e"]
noncomputable def Cb:List Str:=["_law_script"]
def d8:SM:=
 (aq (aK 1 (mN (aH O3) (aa (mN (aH O2) (aa (af 0) (aa (ae (.int 0)) ag))) (aa (m2 (aw .Add) (ae (.int 2)) (mN (bJ F0) (aa (mN (aH O2) (aa (af 0) (aa (ae (.int 1)) ag))) (aa (ae (.int 0)) (aa (ae (.int 6)) ag))))) ag))))
 (aq (aK 2 (cQ (mN bt (aa (m2 aV (af 1) (m2 (aw .Sub) (af 0) (ae (.int 1)))) (aa (m2 aV (af 1) (af 0)) (aa (af 0) ag)))) true (ae .non) (bp (aa (mN (b7 .len) (aa (af 1) ag)) ag)) 0 [1]))
 (aq (cS (bD 3) (bp (aa (ae (.int 16)) ag))
 (aq (aK 4 (mN (aH O2) (aa (af 0) (aa (m2 (aw .Add) (ae (.int 2)) (af 3)) ag))))
 (aq (aK 5 (mN (bJ F0) (aa (af 4) (aa (ae (.int 1)) (aa (ae (.int 50)) ag)))))
 (aq (aK 6 (m2 aV (mN aU (aa (m2 aV (af 1) (m2 (aw .Mod) (af 5) (mN (b7 .len) (aa (af 1) ag)))) (aa (af 5) (aa (ae .non) (aa (ae (.bl true)) (aa (ae (.str "")) (aa (m2 (aw .Sub) (m1 o9 (ae (.int 1))) (af 5)) (aa (ae (.str "A b")) ag)))))))) (mN (bJ F0) (aa (af 4) (aa (ae (.int 0)) (aa (ae (.int 7)) ag))))))
 (aq (aK 7 (m2 aV (mN aU (aa (af 2) (aa (af 1) ag))) (mN (b7 .int) (aa (m2 (ax .Eq) (af 3) (ae (.int 13))) ag))))
 (aq (aK 8 (mN (b7 .list) (aa (af 7) ag)))
 (aq (aK 9 (mN aU (aa (mN (aH O4) (aa (af 3) (aa (af 6) (aa (af 8) ag)))) (aa (mN (aH O4) (aa (af 3) (aa (af 6) (aa (af 8) ag)))) ag))))
 (aq (gS (dS kx cu (af 8) (aa (ae (.str "x")) ag)))
 (aq (gS (dS kx eE (af 8) (aa (ae (.int 0)) ag)))
 (aq (cS (bD 10) (ei (af 9))
 (aq (dF (nj (jj (m1 (aR uG) (af 10))) (jj (m1 (aR uG) (af 10))))
 (aq (a_ (ae (.bl false)))
 au)
 au)
 (aq (dF (nj (m2 (ax .NotEq) (mN (aH O5) (aa (af 10) ag)) (cQ (m2 (ax .Eq) (af 0) (af 1)) true (ae .non) (bp (aa (ae (.int 16)) ag)) 0 [3])) (m2 (ax .NotEq) (mN (aH O6) (aa (af 3) (aa (af 10) ag))) (mN (aH O7) (aa (af 3) (aa (af 6) (aa (af 7) ag))))))
 (aq (a_ (ae (.bl false)))
 au)
 au)
 au)))
 au))))))))))
 (aq (a_ (ae (.bl true)))
 au))))
def O8:bE:=cD 11 1 d8
theorem D4:cY Dq Cb (ai (top 28))=true:=by decide +kernel
theorem D5:dW U8 td (top 28) Dq=some d8:=rfl
end eJ
namespace eJ
open PySem L2 Mir
noncomputable def iK:Mir.D->Bool
 |.str _=>true
 |.int _=>true
 |.bl _=>true
 |.non=>true
 |_=>false
def kr(d:Mir.D):Prop:=iK d=true\/∃s:wb,d=B6 s
section
variable{Ω az:av}{O:bE}
theorem zi{d:Mir.D}(a:iK d=true){n:Int}(b:n≠8):cD 2 2 (d9 O) [d,.int n] Ω=.ok d Ω:=by
 rw[eI (by rfl)]
 show bX (d9 O [some d,some (.int n)] Ω)=_
 have c:dk .list d Ω=.ok (.bl false) Ω:=by cases d<;>first|rfl|cases a
 have e:dk .tuple d Ω=.ok (.bl false) Ω:=by cases d<;>first|rfl|cases a
 have f:dk .dict d Ω=.ok (.bl false) Ω:=by cases d<;>first|rfl|cases a
 have g:(n==8)=false:=by simpa using b
 simp[d9,c,e,f,g]
theorem zj{d:Mir.D}(a:kr d):∃az,cD 2 2 (d9 (cD 2 2 (d9 O))) [d,.int 1] Ω=.ok d az/\aC [] Ω az:=by
 rcases a with a|⟨s,rfl⟩
 .exact⟨Ω,zi a (by decide),aC.refl⟩
 .exact⟨_,we (nN s) (by simp),aC.app⟩
theorem Cc{k:Nat}{ds:List Mir.D}(b:Ω[k]?=some (.lst ds))(i:∀d∈ds,kr d)(l:ds.length<=900) :
  ∃q az,cD 2 2 (d9 (cD 2 2 (d9 (cD 2 2 (d9 O))))) [.ref k,.int 0] Ω=.ok (.ref q) az/\az[q]?=some (.lst ds)/\Ω.length<=q/\aC [] Ω az:=by
 rw[eI (by rfl)]
 show ∃q az,bX (d9 (cD 2 2 (d9 (cD 2 2 (d9 O)))) [some (.ref k),some (.int 0)] Ω)=_/\_
 have c:=t4 (t:=.list) b;have c:dk .list (.ref k) Ω=.ok (.bl true) Ω:=c
 obtain⟨a,e,K⟩:=v9 (ρ:=[some (.ref k),some (.int 0)]) (Ω:=Ω) (me:=mN (aH (cD 2 2 (d9 (cD 2 2 (d9 O))))) (aa (af 0) (aa (m2 (aw .Add) (af 1) (ae (.int 1))) ag))) (mc:=ae .non) (cap:=[1]) (ds:=ds) (g:=λd=>d) (mi:=ei (af 0)) (src:=.seq (.ref k)) (λa=>aC [] Ω a) (by
  rw[mF];exact fA (by rw[cw,aW b])) aC.refl (λa K=>by rw[jx,cw,aW (K.get _ _ b (by simp))]) (λd f a K=>by
  obtain⟨h,this,j⟩:=zj (Ω:=a) (O:=O) (i d f);refine⟨h,?_,K.trans j⟩;generalize cD 2 2 (d9 (cD 2 2 (d9 O)))=O2 at *;simp[dU,this]) (by omega)
 rw[List.map_id']at e;have e:AK (cD 2 2 (d9 (cD 2 2 (d9 O)))) [some (.ref k),some (.int 0)] Ω=.ok (.ref a.length) (a++[.lst ds]):=e;refine⟨a.length,a++[.lst ds],?_,aP,K.1,K.trans aC.app⟩;generalize cD 2 2 (d9 (cD 2 2 (d9 O)))=O2 at *;simp[d9,c,e]
end
theorem oN{Ω:av}{d:Mir.D}(a:iK d=true):O0 [d,.int 0] Ω=.ok d Ω:=zi a (by decide)
theorem oL{Ω:av}{k:Nat}{ds:List Mir.D}(a:Ω[k]?=some (.lst ds))(b:∀d∈ds,kr d)(c:ds.length<=900):∃q az,O0 [.ref k,.int 0] Ω=.ok (.ref q) az/\az[q]?=some (.lst ds)/\Ω.length<=q/\aC [] Ω az:=Cc a b c
section
variable{Ω az:av}{C f g:Str}{d e:Mir.D}{k:Nat}{ds:List Mir.D}
theorem t8{ρ:aF}{i:Nat}(h:ρ[i]?=some (some d))(a:iK d=true):d_ O0 i ρ Ω=.ok d Ω:=by
 have:=oN (Ω:=Ω) a;unfold d_ mN aa af;rw[h];generalize O0=O at *;simp[ag,ak.bind,aH,this]
theorem zk{ρ:aF}{i:Nat}(h:ρ[i]?=some (some (.ref k)))(c:Ω[k]?=some (.lst ds))(f:∀d∈ds,kr d)(j:ds.length<=900):∃q az,qG O0 i ρ Ω=.ok (.ref q) az/\az[q]?=some (.lst ds)/\Ω.length<=q/\aC [] Ω az:=by
 have m:=iI c;have n:(Ω++[Cell.lst ds])[Ω.length]?=some (.lst ds):=aP;have b:aC [] Ω (Ω++[Cell.lst ds]):=aC.app;have r:Ω.length<=(Ω++[Cell.lst ds]).length:=b.len;generalize Ω++[Cell.lst ds]=o at *;obtain⟨q,a,e,g,l,p⟩:=oL n f j;refine⟨q,a,?_,g,by omega,b.trans p⟩
 unfold qG mN aa af;dsimp only;rw[h];generalize O0=O at *;simp[ag,ak.bind,aH,m,e]
theorem x1(a:iK d=true):eo C 1 [(f,d_ O0 1)] [d] Ω=.ok (.ref Ω.length) (Ω++[.xc C [(f,d)]]):=by
 have:=t8 (Ω:=Ω) (ρ:=[none,some d]) (i:=1) rfl a;simp[eo,en,this,ak.bind,wO]
theorem x0:eo C 0 [] [] Ω=.ok (.ref Ω.length) (Ω++[.xc C []]):=rfl
theorem x2(a:iK d=true)(b:iK e=true):eo C 2 [(f,d_ O0 1),(g,d_ O0 2)] [d,e] Ω=.ok (.ref Ω.length) (Ω++[.xc C [(f,d),(g,e)]]):=by
 have c:=t8 (Ω:=Ω) (ρ:=[none,some d,some e]) (i:=1) rfl a;have h:=t8 (Ω:=Ω) (ρ:=[none,some d,some e]) (i:=2) rfl b;simp[eo,en,c,h,ak.bind,wO]
theorem xl(b:Ω[k]?=some (.lst ds))(c:∀d∈ds,kr d)(h:ds.length<=900):∃q j az,eo C 1 [(f,qG O0 1)] [.ref k] Ω=.ok (.ref q) az/\az[q]?=some (.xc C [(f,.ref j)])/\az[j]?=some (.lst ds)/\Ω.length<=j/\aC [] Ω az:=by
 obtain⟨j,a,e,g,l,K⟩:=zk (Ω:=Ω) (ρ:=[none,some (.ref k)]) (i:=1) rfl b c h;refine⟨a.length,j,a++[.xc C [(f,.ref j)]],?_,aP,gf g,l,K.trans aC.app⟩;simp[eo,en,e,ak.bind,wO]
theorem D6(b:iK d=true)(c:Ω[k]?=some (.lst ds))(h:∀d∈ds,kr d)(m:ds.length<=900):∃q j az,eo C 2 [(f,d_ O0 1),(g,qG O0 2)] [d,.ref k] Ω=.ok (.ref q) az/\az[q]?=some (.xc C [(f,d),(g,.ref j)])/\az[j]?=some (.lst ds)/\Ω.length<=j/\aC [] Ω az:=by
 have n:=t8 (Ω:=Ω) (ρ:=[none,some d,some (.ref k)]) (i:=1) rfl b;obtain⟨j,a,e,o,l,K⟩:=zk (Ω:=Ω) (ρ:=[none,some d,some (.ref k)]) (i:=2) rfl c h m;refine⟨a.length,j,a++[.xc C [(f,d),(g,.ref j)]],?_,aP,gf o,l,K.trans aC.app⟩;simp[eo,en,n,e,ak.bind,wO]
end
def cV(w:Nat):Str:=jA.getD w ""
noncomputable def AO(w:Nat):List Str:=([["name"],["name"],["name"],["most"],["value"],["name"],["value"],["name"],["word"],["name"],["place"],[],["name","heir"],["ring"],["steps"],["name","steps"]]:List (List Str)).getD w []
noncomputable def iL(w:Nat)(d r:Mir.D):List Mir.D:=if w=11 then []else if w=12 then [d,.str "heir"]else if w=13\/w=14 then [r]else if w=15 then [d,r]else [d]
def Cd(M:bE):Prop:=∀(b:av) (w:Nat) (d:Mir.D) (k:Nat) (c:List Mir.D),w<16->iK d=true->b[k]?=some (.lst c)->(∀d∈c,kr d)->c.length<=900 ->
 ∃q j a,M [.int w,d,.ref k] b=.ok (.ref q) a/\a[q]?=some (.xc (cV w) ((AO w).zip (iL w d (.ref j))))/\aC [] b a/\(13<=w->a[j]?=some (.lst c)/\b.length<=j)
theorem pick{ρ:aF}{Ω a:av}{b:AM}{mi:EM}{rs:List Mir.D}{r:Mir.D}{i:Nat}(c:b ρ Ω=.ok rs a)(h:rs.length<=900)(d:∀az,mi ρ az=.ok (.int i) az)(e:rs[i]?=some r):m2 aV (mN aU b) mi ρ Ω=.ok r (a++[.lst rs]):=by
 have f:small rs.length=true:=b9 (by omega)
 have g:aV (.ref a.length) (.int i) (a++[.lst rs])=.ok r (a++[.lst rs]):=dn aP (L2.eS e);simp[c,f,g,d]
theorem four{ρ:aF}{Ω:av}{d:Mir.D}{m0 m1 m2' m3:bE}{a b c e:List (Str×Mir.D)}{f g h j:Str}{wj:AM}{mi:EM}{i:Nat}(k:ρ[1]?=some (some d))(l:∀az,m0 [d] az=.ok (.ref az.length) (az++[.xc f a]))(m:∀az,m1 [d] az=.ok (.ref az.length) (az++[.xc g b]))(n:∀az,m2' [d] az=.ok (.ref az.length) (az++[.xc h c]))(o:∀az,mN m3 wj ρ az=.ok (.ref az.length) (az++[.xc j e]))
  (p:∀az,mi ρ az=.ok (.int i) az) (t:i<4):∃q az,m2 aV (mN aU (aa (mN m0 (aa (af 1) ag)) (aa (mN m1 (aa (af 1) ag)) (aa (mN m2' (aa (af 1) ag)) (aa (mN m3 wj) ag))))) mi ρ Ω=.ok (.ref q) az/\az[q]?=[Cell.xc f a,.xc g b,.xc h c,.xc j e][i]?/\aC [] Ω az:=by
 have r:(aa (mN m0 (aa (af 1) ag)) (aa (mN m1 (aa (af 1) ag)) (aa (mN m2' (aa (af 1) ag)) (aa (mN m3 wj) ag)))) ρ Ω=.ok [.ref Ω.length,.ref (Ω.length+1),.ref (Ω.length+2),.ref (Ω.length+3)] (Ω++[.xc f a,.xc g b,.xc h c,.xc j e]):=by
  generalize mN m3 wj=s at *;simp[k,l,m,n,o]
 refine⟨Ω.length+i,_,pick r (by simp) p (by rcases(by omega:i=0\/i=1\/i=2\/i=3)with rfl|rfl|rfl|rfl<;>rfl),?_,?_⟩
 .rw[List.append_assoc,List.getElem?_append_right (by omega),Nat.add_sub_cancel_left,List.getElem?_append_left (by simp;omega)]
 .exact aC.app.trans aC.app
theorem mI:Cd O4:=by
 intro Ω w d k y z c m n o;have t:O4 [.int w,d,.ref k] Ω=bX (d4 [some (.int w),some d,some (.ref k)] Ω):=rfl;rw[t];have L1:∀{C f:Str},∀a,eo C 1 [(f,d_ O0 1)] [d] a=.ok (.ref a.length) (a++[.xc C [(f,d)]]):=λa=>x1 c
 by_cases u:w<4
 .obtain⟨q,a,e,g,K⟩:=four (ρ:=[some (.int w),some d,some (.ref k)]) (Ω:=Ω) (m0:=y9) (m1:=y_) (m2':=za) (m3:=zb) (wj:=aa (af 1) ag) (mi:=af 0) (i:=w) (d:=d) rfl (λ_=>L1 _) (λ_=>L1 _) (λ_=>L1 _) (λ_=>L1 _) (λ_=>rfl) u
  refine⟨q,0,a,?_,?_,K,λh=>by omega⟩
  .unfold d4
   generalize m2 aV (mN aU (aa (mN y9 (aa (af 1) ag)) (aa (mN y_ (aa (af 1) ag)) (aa (mN za (aa (af 1) ag)) (aa (mN zb (aa (af 1) ag)) ag))))) (af 0)=s at *;have:(w:Int)<4:=by omega
   simp[e,this]
  .rw[g]
   rcases(by omega:w=0\/w=1\/w=2\/w=3)with rfl|rfl|rfl|rfl<;>rfl
 by_cases A:w<8
 .obtain⟨q,a,e,g,K⟩:=four (ρ:=[some (.int w),some d,some (.ref k)]) (Ω:=Ω) (m0:=zc) (m1:=zd) (m2':=ze) (m3:=zf) (wj:=aa (af 1) ag) (mi:=m2 (aw .Sub) (af 0) (ae (.int 4))) (i:=w - 4) (d:=d) rfl (λ_=>L1 _) (λ_=>L1 _) (λ_=>L1 _) (λ_=>L1 _) (λ_=>by simp;omega) (by omega)
  refine⟨q,0,a,?_,?_,K,λh=>by omega⟩
  .unfold d4
   generalize m2 aV (mN aU (aa (mN zc (aa (af 1) ag)) (aa (mN zd (aa (af 1) ag)) (aa (mN ze (aa (af 1) ag)) (aa (mN zf (aa (af 1) ag)) ag))))) (m2 (aw .Sub) (af 0) (ae (.int 4)))=s at *;have p:¬ (w:Int)<4:=by omega
   have r:(w:Int)<8:=by omega
   simp[e,p,r]
  .rw[g]
   rcases(by omega:w=4\/w=5\/w=6\/w=7)with rfl|rfl|rfl|rfl<;>rfl
 by_cases B:w<12
 .obtain⟨q,a,e,g,K⟩:=four (ρ:=[some (.int w),some d,some (.ref k)]) (Ω:=Ω) (m0:=zg) (m1:=zh) (m2':=ql) (m3:=qm) (wj:=ag) (mi:=m2 (aw .Sub) (af 0) (ae (.int 8))) (i:=w - 8) (d:=d) rfl (λ_=>L1 _) (λ_=>L1 _) (λ_=>L1 _) (λ_=>x0) (λ_=>by simp;omega) (by omega)
  refine⟨q,0,a,?_,?_,K,λh=>by omega⟩
  .unfold d4
   generalize m2 aV (mN aU (aa (mN zg (aa (af 1) ag)) (aa (mN zh (aa (af 1) ag)) (aa (mN ql (aa (af 1) ag)) (aa (mN qm ag) ag))))) (m2 (aw .Sub) (af 0) (ae (.int 8)))=s at *;have p:¬ (w:Int)<4:=by omega
   have r:¬ (w:Int)<8:=by omega
   have x:(w:Int)<12:=by omega
   simp[e,p,r,x]
  .rw[g]
   rcases(by omega:w=8\/w=9\/w=10\/w=11)with rfl|rfl|rfl|rfl<;>rfl
 rcases(by omega:w=12\/w=13\/w=14\/w=15)with rfl|rfl|rfl|rfl
 .have e:qo [d,.str "heir"] Ω=.ok (.ref Ω.length) (Ω++[.xc "Heired" [("name",d),("heir",.str "heir")]]):=x2 c rfl
  refine⟨Ω.length,0,Ω++[.xc "Heired" [("name",d),("heir",.str "heir")]],?_,aP,aC.app,λh=>by omega⟩
  unfold d4;generalize qo=M at *;simp[e]
 .obtain⟨q,j,a,e,g,b,l,K⟩:=xl (C:="Loop") (f:="ring") m n o
  have e:qq [.ref k] Ω=.ok (.ref q) a:=e;refine⟨q,j,a,?_,g,K,λ_=>⟨b,l⟩⟩
  unfold d4;generalize qq=M at *;simp[e]
 .obtain⟨q,j,a,e,g,b,l,K⟩:=xl (C:="Ring") (f:="steps") m n o
  have e:qr [.ref k] Ω=.ok (.ref q) a:=e;refine⟨q,j,a,?_,g,K,λ_=>⟨b,l⟩⟩
  unfold d4;generalize qr=M at *;simp[e]
 .obtain⟨q,j,a,e,g,b,l,K⟩:=D6 (C:="Tangled") (f:="name") (g:="steps") c m n o
  have e:qu [d,.ref k] Ω=.ok (.ref q) a:=e;refine⟨q,j,a,?_,g,K,λ_=>⟨b,l⟩⟩
  unfold d4;generalize qu=M at *;simp[e]
theorem hE{A:Type}{g:Str->A}{y:Str}:∀{l:List Str},y∈l->(l.map λC=>(C,g C)).lookup y=some (g y)
 |a::l,h=>by
  rw[List.map_cons,List.lookup]
  by_cases e:y=a
  .subst e;simp
  .have:(y==a)=false:=by simpa using e
   rw[this];exact hE ((List.mem_cons.mp h).resolve_left e)
theorem qv{w:Nat}(a:w<16):cV w∈jA:=by
 unfold cV;rw[List.getD_eq_getElem?_getD,List.getElem?_eq_getElem (show w<jA.length from a)]
 exact List.getElem_mem _
section
variable{Ω az:av}{q w:Nat}{fs:List (Str×Mir.D)}
theorem zl(a:w<16)(h:Ω[q]?=some (.xc (cV w) fs)){x:Str}:aR (cg x) (.ref q) Ω=.ok (.bl (cV w==x)) Ω:=by
 unfold aR cg;simp only[h,hE (g:=λC=>C==x) (qv a)]
theorem zm(a:w<16)(h:Ω[q]?=some (.xc (cV w) fs)):aR uG (.ref q) Ω=.ok (.bl true) Ω:=by
 unfold aR uG;simp only[h,hE (g:=λ_=>true) (qv a)]
theorem zo{ρ:aF}{a b c d:Str}(f:w<16)(e:ρ[0]?=some (some (.ref q)))(h:Ω[q]?=some (.xc (cV w) fs)):mN aU (aa (m1 (aR (cg a)) (af 0)) (aa (m1 (aR (cg b)) (af 0)) (aa (m1 (aR (cg c)) (af 0)) (aa (m1 (aR (cg d)) (af 0)) ag)))) ρ Ω=.ok (.ref Ω.length) (Ω++[.lst [.bl (cV w==a),.bl (cV w==b),.bl (cV w==c),.bl (cV w==d)]]):=by
 have g:small 4=true:=by decide
 simp[e,zl f h,g]
theorem zp{j k:Nat}{ds es:List Mir.D}(a:Ω[j]?=some (.lst ds))(b:Ω[k]?=some (.lst es))(c:ds.length+es.length<=1000):aw .Add (.ref j) (.ref k) Ω=.ok (.ref Ω.length) (Ω++[.lst (ds++es)]):=qk a b c
theorem qw{a b c d:Str}{p:Nat}{bs:List Mir.D}(e:w<16)(h:Ω[q]?=some (.xc (cV w) fs))(f:Ω[p]?=some (.lst bs))(i:bs.length<=100) :
  ∃n az,m2 (aw .Add) (af 1) (mN aU (aa (m1 (aR (cg a)) (af 0)) (aa (m1 (aR (cg b)) (af 0)) (aa (m1 (aR (cg c)) (af 0)) (aa (m1 (aR (cg d)) (af 0)) ag))))) [some (.ref q),some (.ref p)] Ω=.ok (.ref n) az/\az[n]?=some (.lst (bs++[.bl (cV w==a),.bl (cV w==b),.bl (cV w==c),.bl (cV w==d)]))/\aC [] Ω az:=by
 have r:=zo (ρ:=[some (.ref q),some (.ref p)]) (a:=a) (b:=b) (c:=c) (d:=d) e rfl h;have c2:=zp (Ω:=Ω++[.lst [.bl (cV w==a),.bl (cV w==b),.bl (cV w==c),.bl (cV w==d)]]) (gf f) aP (by simp;omega)
 refine⟨(Ω++[Cell.lst [.bl (cV w==a),.bl (cV w==b),.bl (cV w==c),.bl (cV w==d)]]).length,(Ω++[Cell.lst [.bl (cV w==a),.bl (cV w==b),.bl (cV w==c),.bl (cV w==d)]])++[.lst (bs++[.bl (cV w==a),.bl (cV w==b),.bl (cV w==c),.bl (cV w==d)])],?_,aP,aC.app.trans aC.app⟩;generalize mN aU (aa (m1 (aR (cg a)) (af 0)) (aa (m1 (aR (cg b)) (af 0)) (aa (m1 (aR (cg c)) (af 0)) (aa (m1 (aR (cg d)) (af 0)) ag))))=g at *
 show ak.bind (g _ Ω) _=_
 rw[r];exact c2
theorem wk(e:w<16)(h:Ω[q]?=some (.xc (cV w) fs)):∃n az,O5 [.ref q] Ω=.ok (.ref n) az/\az[n]?=some (.lst (jA.map λx=>.bl (cV w==x)))/\aC [] Ω az:=by
 have k:O5 [.ref q] Ω=bX (d5 [some (.ref q),none] Ω):=rfl;have l:=zo (ρ:=[some (.ref q),none]) (a:="NoName") (b:="Twice") (c:="NoKind") (d:="TooMany") e rfl h;have f:aC [] Ω (Ω++[Cell.lst [.bl (cV w=="NoName"),.bl (cV w=="Twice"),.bl (cV w=="NoKind"),.bl (cV w=="TooMany")]]):=aC.app;obtain⟨C,m,o,r,g⟩:=qw (a:="NoStrength") (b:="NotThere") (c:="NoRoom") (d:="NoThing") e (f.get _ _ h (by simp)) (p:=Ω.length) aP (by simp)
 obtain⟨D,s,t,u,j⟩:=qw (a:="NoOwn") (b:="NoSite") (c:="NoRow") (d:="NothingBack") e ((f.trans g).get _ _ h (by simp)) r (by simp)
 obtain⟨y,i,z,A,B⟩:=qw (a:="Heired") (b:="Loop") (c:="Ring") (d:="Tangled") e (((f.trans g).trans j).get _ _ h (by simp)) u (by simp)
 refine⟨y,i,?_,A,((f.trans g).trans j).trans B⟩;rw[k];unfold d5;generalize mN aU (aa (m1 (aR (cg "NoName")) (af 0)) (aa (m1 (aR (cg "Twice")) (af 0)) (aa (m1 (aR (cg "NoKind")) (af 0)) (aa (m1 (aR (cg "TooMany")) (af 0)) ag))))=E at *;generalize m2 (aw .Add) (af 1) (mN aU (aa (m1 (aR (cg "NoStrength")) (af 0)) (aa (m1 (aR (cg "NotThere")) (af 0)) (aa (m1 (aR (cg "NoRoom")) (af 0)) (aa (m1 (aR (cg "NoThing")) (af 0)) ag)))))=F at *;generalize m2 (aw .Add) (af 1) (mN aU (aa (m1 (aR (cg "NoOwn")) (af 0)) (aa (m1 (aR (cg "NoSite")) (af 0)) (aa (m1 (aR (cg "NoRow")) (af 0)) (aa (m1 (aR (cg "NothingBack")) (af 0)) ag)))))=G at *;generalize m2 (aw .Add) (af 1) (mN aU (aa (m1 (aR (cg "Heired")) (af 0)) (aa (m1 (aR (cg "Loop")) (af 0)) (aa (m1 (aR (cg "Ring")) (af 0)) (aa (m1 (aR (cg "Tangled")) (af 0)) ag)))))=H at *;simp[l,o,t,z]
theorem t9(b:w<16):(jA.map λx=>Mir.D.bl (cV w==x))=(List.range 16).map λi=>Mir.D.bl (decide (i=w)):=by
 have a:∀w,w<16->(jA.map λx=>cV w==x)=(List.range 16).map λi=>decide (i=w):=by decide +kernel
 have:=congrArg (List.map Mir.D.bl) (a w b);rw[List.map_map,List.map_map]at this;exact this
theorem bI{a:List Str}{f:Str}{v:Mir.D}(h:Ω[q]?=some (.xc (cV w) fs))(b:a.contains (cV w)=true)(c:fs.lookup f=some v):bK a f (.ref q) Ω=.ok v Ω:=by
 unfold bK;simp only[h,b,c,if_true]
end
section
variable{Ω az:av}{q w:Nat}{d r:Mir.D}
theorem t_(u:w<16)(h:Ω[q]?=some (.xc (cV w) ((AO w).zip (iL w d r)))):O6 [.int w,.ref q] Ω=.ok (.ref Ω.length) (Ω++[.lst (iL w d r)]):=by
 have t:O6 [.int w,.ref q] Ω=bX (d6 [some (.int w),some (.ref q)] Ω):=rfl;rw[t];have f:small 0=true:=by decide
 have g:small 1=true:=by decide
 have i:small 2=true:=by decide
 have j:small 6=true:=by decide
 rcases(by omega:w=0\/w=1\/w=2\/w=3\/w=4\/w=5\/w=6\/w=7\/w=8\/w=9\/w=10\/w=11\/w=12\/w=13\/w=14\/w=15)with rfl|rfl|rfl|rfl|rfl|rfl|rfl|rfl|rfl|rfl|rfl|rfl|rfl|rfl|rfl|rfl
 .have k:Ω[q]?=some (.xc "NoName" [("name",d)]):=h
  have a:bK ["NoName","Twice","NoKind","NotThere","NoThing","NoSite","Heired","Tangled"] "name" (.ref q) Ω=.ok (d) Ω:=bI (w:=0) h rfl rfl;have b:(m2 (ax .In) (af 0) (mN bt (aa (ae (.int 0)) (aa (ae (.int 1)) (aa (ae (.int 2)) (aa (ae (.int 5)) (aa (ae (.int 7)) (aa (ae (.int 9)) ag)))))))) [some (.int 0),some (.ref q)] Ω=.ok (.bl true) Ω:=rfl
  show bX (d6 [some (.int 0),some (.ref q)] Ω)=.ok (.ref Ω.length) (Ω++[.lst [d]])
  unfold d6;generalize (m2 (ax .In) (af 0) (mN bt (aa (ae (.int 0)) (aa (ae (.int 1)) (aa (ae (.int 2)) (aa (ae (.int 5)) (aa (ae (.int 7)) (aa (ae (.int 9)) ag))))))))=l at *;simp[b,a,f,g,i,j]
 .have k:Ω[q]?=some (.xc "Twice" [("name",d)]):=h
  have a:bK ["NoName","Twice","NoKind","NotThere","NoThing","NoSite","Heired","Tangled"] "name" (.ref q) Ω=.ok (d) Ω:=bI (w:=1) h rfl rfl;have b:(m2 (ax .In) (af 0) (mN bt (aa (ae (.int 0)) (aa (ae (.int 1)) (aa (ae (.int 2)) (aa (ae (.int 5)) (aa (ae (.int 7)) (aa (ae (.int 9)) ag)))))))) [some (.int 1),some (.ref q)] Ω=.ok (.bl true) Ω:=rfl
  show bX (d6 [some (.int 1),some (.ref q)] Ω)=.ok (.ref Ω.length) (Ω++[.lst [d]])
  unfold d6;generalize (m2 (ax .In) (af 0) (mN bt (aa (ae (.int 0)) (aa (ae (.int 1)) (aa (ae (.int 2)) (aa (ae (.int 5)) (aa (ae (.int 7)) (aa (ae (.int 9)) ag))))))))=l at *;simp[b,a,f,g,i,j]
 .have k:Ω[q]?=some (.xc "NoKind" [("name",d)]):=h
  have a:bK ["NoName","Twice","NoKind","NotThere","NoThing","NoSite","Heired","Tangled"] "name" (.ref q) Ω=.ok (d) Ω:=bI (w:=2) h rfl rfl;have b:(m2 (ax .In) (af 0) (mN bt (aa (ae (.int 0)) (aa (ae (.int 1)) (aa (ae (.int 2)) (aa (ae (.int 5)) (aa (ae (.int 7)) (aa (ae (.int 9)) ag)))))))) [some (.int 2),some (.ref q)] Ω=.ok (.bl true) Ω:=rfl
  show bX (d6 [some (.int 2),some (.ref q)] Ω)=.ok (.ref Ω.length) (Ω++[.lst [d]])
  unfold d6;generalize (m2 (ax .In) (af 0) (mN bt (aa (ae (.int 0)) (aa (ae (.int 1)) (aa (ae (.int 2)) (aa (ae (.int 5)) (aa (ae (.int 7)) (aa (ae (.int 9)) ag))))))))=l at *;simp[b,a,f,g,i,j]
 .have k:Ω[q]?=some (.xc "TooMany" [("most",d)]):=h
  have n:bK ["TooMany"] "most" (.ref q) Ω=.ok (d) Ω:=bI (w:=3) h rfl rfl;have b:(m2 (ax .In) (af 0) (mN bt (aa (ae (.int 0)) (aa (ae (.int 1)) (aa (ae (.int 2)) (aa (ae (.int 5)) (aa (ae (.int 7)) (aa (ae (.int 9)) ag)))))))) [some (.int 3),some (.ref q)] Ω=.ok (.bl false) Ω:=rfl
  show bX (d6 [some (.int 3),some (.ref q)] Ω)=.ok (.ref Ω.length) (Ω++[.lst [d]])
  unfold d6;generalize (m2 (ax .In) (af 0) (mN bt (aa (ae (.int 0)) (aa (ae (.int 1)) (aa (ae (.int 2)) (aa (ae (.int 5)) (aa (ae (.int 7)) (aa (ae (.int 9)) ag))))))))=l at *;simp[b,n,f,g,i,j]
 .have k:Ω[q]?=some (.xc "NoStrength" [("value",d)]):=h
  have c:bK ["NoStrength","NoRoom"] "value" (.ref q) Ω=.ok (d) Ω:=bI (w:=4) h rfl rfl;have b:(m2 (ax .In) (af 0) (mN bt (aa (ae (.int 0)) (aa (ae (.int 1)) (aa (ae (.int 2)) (aa (ae (.int 5)) (aa (ae (.int 7)) (aa (ae (.int 9)) ag)))))))) [some (.int 4),some (.ref q)] Ω=.ok (.bl false) Ω:=rfl
  show bX (d6 [some (.int 4),some (.ref q)] Ω)=.ok (.ref Ω.length) (Ω++[.lst [d]])
  unfold d6;generalize (m2 (ax .In) (af 0) (mN bt (aa (ae (.int 0)) (aa (ae (.int 1)) (aa (ae (.int 2)) (aa (ae (.int 5)) (aa (ae (.int 7)) (aa (ae (.int 9)) ag))))))))=l at *;simp[b,c,f,g,i,j]
 .have k:Ω[q]?=some (.xc "NotThere" [("name",d)]):=h
  have a:bK ["NoName","Twice","NoKind","NotThere","NoThing","NoSite","Heired","Tangled"] "name" (.ref q) Ω=.ok (d) Ω:=bI (w:=5) h rfl rfl;have b:(m2 (ax .In) (af 0) (mN bt (aa (ae (.int 0)) (aa (ae (.int 1)) (aa (ae (.int 2)) (aa (ae (.int 5)) (aa (ae (.int 7)) (aa (ae (.int 9)) ag)))))))) [some (.int 5),some (.ref q)] Ω=.ok (.bl true) Ω:=rfl
  show bX (d6 [some (.int 5),some (.ref q)] Ω)=.ok (.ref Ω.length) (Ω++[.lst [d]])
  unfold d6;generalize (m2 (ax .In) (af 0) (mN bt (aa (ae (.int 0)) (aa (ae (.int 1)) (aa (ae (.int 2)) (aa (ae (.int 5)) (aa (ae (.int 7)) (aa (ae (.int 9)) ag))))))))=l at *;simp[b,a,f,g,i,j]
 .have k:Ω[q]?=some (.xc "NoRoom" [("value",d)]):=h
  have c:bK ["NoStrength","NoRoom"] "value" (.ref q) Ω=.ok (d) Ω:=bI (w:=6) h rfl rfl;have b:(m2 (ax .In) (af 0) (mN bt (aa (ae (.int 0)) (aa (ae (.int 1)) (aa (ae (.int 2)) (aa (ae (.int 5)) (aa (ae (.int 7)) (aa (ae (.int 9)) ag)))))))) [some (.int 6),some (.ref q)] Ω=.ok (.bl false) Ω:=rfl
  show bX (d6 [some (.int 6),some (.ref q)] Ω)=.ok (.ref Ω.length) (Ω++[.lst [d]])
  unfold d6;generalize (m2 (ax .In) (af 0) (mN bt (aa (ae (.int 0)) (aa (ae (.int 1)) (aa (ae (.int 2)) (aa (ae (.int 5)) (aa (ae (.int 7)) (aa (ae (.int 9)) ag))))))))=l at *;simp[b,c,f,g,i,j]
 .have k:Ω[q]?=some (.xc "NoThing" [("name",d)]):=h
  have a:bK ["NoName","Twice","NoKind","NotThere","NoThing","NoSite","Heired","Tangled"] "name" (.ref q) Ω=.ok (d) Ω:=bI (w:=7) h rfl rfl;have b:(m2 (ax .In) (af 0) (mN bt (aa (ae (.int 0)) (aa (ae (.int 1)) (aa (ae (.int 2)) (aa (ae (.int 5)) (aa (ae (.int 7)) (aa (ae (.int 9)) ag)))))))) [some (.int 7),some (.ref q)] Ω=.ok (.bl true) Ω:=rfl
  show bX (d6 [some (.int 7),some (.ref q)] Ω)=.ok (.ref Ω.length) (Ω++[.lst [d]])
  unfold d6;generalize (m2 (ax .In) (af 0) (mN bt (aa (ae (.int 0)) (aa (ae (.int 1)) (aa (ae (.int 2)) (aa (ae (.int 5)) (aa (ae (.int 7)) (aa (ae (.int 9)) ag))))))))=l at *;simp[b,a,f,g,i,j]
 .have k:Ω[q]?=some (.xc "NoOwn" [("word",d)]):=h
  have o:bK ["NoOwn"] "word" (.ref q) Ω=.ok (d) Ω:=bI (w:=8) h rfl rfl;have b:(m2 (ax .In) (af 0) (mN bt (aa (ae (.int 0)) (aa (ae (.int 1)) (aa (ae (.int 2)) (aa (ae (.int 5)) (aa (ae (.int 7)) (aa (ae (.int 9)) ag)))))))) [some (.int 8),some (.ref q)] Ω=.ok (.bl false) Ω:=rfl
  show bX (d6 [some (.int 8),some (.ref q)] Ω)=.ok (.ref Ω.length) (Ω++[.lst [d]])
  unfold d6;generalize (m2 (ax .In) (af 0) (mN bt (aa (ae (.int 0)) (aa (ae (.int 1)) (aa (ae (.int 2)) (aa (ae (.int 5)) (aa (ae (.int 7)) (aa (ae (.int 9)) ag))))))))=l at *;simp[b,o,f,g,i,j]
 .have k:Ω[q]?=some (.xc "NoSite" [("name",d)]):=h
  have a:bK ["NoName","Twice","NoKind","NotThere","NoThing","NoSite","Heired","Tangled"] "name" (.ref q) Ω=.ok (d) Ω:=bI (w:=9) h rfl rfl;have b:(m2 (ax .In) (af 0) (mN bt (aa (ae (.int 0)) (aa (ae (.int 1)) (aa (ae (.int 2)) (aa (ae (.int 5)) (aa (ae (.int 7)) (aa (ae (.int 9)) ag)))))))) [some (.int 9),some (.ref q)] Ω=.ok (.bl true) Ω:=rfl
  show bX (d6 [some (.int 9),some (.ref q)] Ω)=.ok (.ref Ω.length) (Ω++[.lst [d]])
  unfold d6;generalize (m2 (ax .In) (af 0) (mN bt (aa (ae (.int 0)) (aa (ae (.int 1)) (aa (ae (.int 2)) (aa (ae (.int 5)) (aa (ae (.int 7)) (aa (ae (.int 9)) ag))))))))=l at *;simp[b,a,f,g,i,j]
 .have k:Ω[q]?=some (.xc "NoRow" [("place",d)]):=h
  have m:bK ["NoRow"] "place" (.ref q) Ω=.ok (d) Ω:=bI (w:=10) h rfl rfl;have b:(m2 (ax .In) (af 0) (mN bt (aa (ae (.int 0)) (aa (ae (.int 1)) (aa (ae (.int 2)) (aa (ae (.int 5)) (aa (ae (.int 7)) (aa (ae (.int 9)) ag)))))))) [some (.int 10),some (.ref q)] Ω=.ok (.bl false) Ω:=rfl
  show bX (d6 [some (.int 10),some (.ref q)] Ω)=.ok (.ref Ω.length) (Ω++[.lst [d]])
  unfold d6;generalize (m2 (ax .In) (af 0) (mN bt (aa (ae (.int 0)) (aa (ae (.int 1)) (aa (ae (.int 2)) (aa (ae (.int 5)) (aa (ae (.int 7)) (aa (ae (.int 9)) ag))))))))=l at *;simp[b,m,f,g,i,j]
 .have k:Ω[q]?=some (.xc "NothingBack" []):=h
  have b:(m2 (ax .In) (af 0) (mN bt (aa (ae (.int 0)) (aa (ae (.int 1)) (aa (ae (.int 2)) (aa (ae (.int 5)) (aa (ae (.int 7)) (aa (ae (.int 9)) ag)))))))) [some (.int 11),some (.ref q)] Ω=.ok (.bl false) Ω:=rfl
  show bX (d6 [some (.int 11),some (.ref q)] Ω)=.ok (.ref Ω.length) (Ω++[.lst []])
  unfold d6;generalize (m2 (ax .In) (af 0) (mN bt (aa (ae (.int 0)) (aa (ae (.int 1)) (aa (ae (.int 2)) (aa (ae (.int 5)) (aa (ae (.int 7)) (aa (ae (.int 9)) ag))))))))=l at *;simp[b,f,g,i,j]
 .have k:Ω[q]?=some (.xc "Heired" [("name",d),("heir",.str "heir")]):=h
  have a:bK ["NoName","Twice","NoKind","NotThere","NoThing","NoSite","Heired","Tangled"] "name" (.ref q) Ω=.ok (d) Ω:=bI (w:=12) h rfl rfl;have p:bK ["Heired"] "heir" (.ref q) Ω=.ok (.str "heir") Ω:=bI (w:=12) h rfl rfl;have b:(m2 (ax .In) (af 0) (mN bt (aa (ae (.int 0)) (aa (ae (.int 1)) (aa (ae (.int 2)) (aa (ae (.int 5)) (aa (ae (.int 7)) (aa (ae (.int 9)) ag)))))))) [some (.int 12),some (.ref q)] Ω=.ok (.bl false) Ω:=rfl
  show bX (d6 [some (.int 12),some (.ref q)] Ω)=.ok (.ref Ω.length) (Ω++[.lst [d,.str "heir"]])
  unfold d6;generalize (m2 (ax .In) (af 0) (mN bt (aa (ae (.int 0)) (aa (ae (.int 1)) (aa (ae (.int 2)) (aa (ae (.int 5)) (aa (ae (.int 7)) (aa (ae (.int 9)) ag))))))))=l at *;simp[b,a,p,f,g,i,j]
 .have k:Ω[q]?=some (.xc "Loop" [("ring",r)]):=h
  have s:bK ["Loop"] "ring" (.ref q) Ω=.ok (r) Ω:=bI (w:=13) h rfl rfl;have b:(m2 (ax .In) (af 0) (mN bt (aa (ae (.int 0)) (aa (ae (.int 1)) (aa (ae (.int 2)) (aa (ae (.int 5)) (aa (ae (.int 7)) (aa (ae (.int 9)) ag)))))))) [some (.int 13),some (.ref q)] Ω=.ok (.bl false) Ω:=rfl
  show bX (d6 [some (.int 13),some (.ref q)] Ω)=.ok (.ref Ω.length) (Ω++[.lst [r]])
  unfold d6;generalize (m2 (ax .In) (af 0) (mN bt (aa (ae (.int 0)) (aa (ae (.int 1)) (aa (ae (.int 2)) (aa (ae (.int 5)) (aa (ae (.int 7)) (aa (ae (.int 9)) ag))))))))=l at *;simp[b,s,f,g,i,j]
 .have k:Ω[q]?=some (.xc "Ring" [("steps",r)]):=h
  have e:bK ["Ring","Tangled"] "steps" (.ref q) Ω=.ok (r) Ω:=bI (w:=14) h rfl rfl;have b:(m2 (ax .In) (af 0) (mN bt (aa (ae (.int 0)) (aa (ae (.int 1)) (aa (ae (.int 2)) (aa (ae (.int 5)) (aa (ae (.int 7)) (aa (ae (.int 9)) ag)))))))) [some (.int 14),some (.ref q)] Ω=.ok (.bl false) Ω:=rfl
  show bX (d6 [some (.int 14),some (.ref q)] Ω)=.ok (.ref Ω.length) (Ω++[.lst [r]])
  unfold d6;generalize (m2 (ax .In) (af 0) (mN bt (aa (ae (.int 0)) (aa (ae (.int 1)) (aa (ae (.int 2)) (aa (ae (.int 5)) (aa (ae (.int 7)) (aa (ae (.int 9)) ag))))))))=l at *;simp[b,e,f,g,i,j]
 .have k:Ω[q]?=some (.xc "Tangled" [("name",d),("steps",r)]):=h
  have a:bK ["NoName","Twice","NoKind","NotThere","NoThing","NoSite","Heired","Tangled"] "name" (.ref q) Ω=.ok (d) Ω:=bI (w:=15) h rfl rfl;have e:bK ["Ring","Tangled"] "steps" (.ref q) Ω=.ok (r) Ω:=bI (w:=15) h rfl rfl;have b:(m2 (ax .In) (af 0) (mN bt (aa (ae (.int 0)) (aa (ae (.int 1)) (aa (ae (.int 2)) (aa (ae (.int 5)) (aa (ae (.int 7)) (aa (ae (.int 9)) ag)))))))) [some (.int 15),some (.ref q)] Ω=.ok (.bl false) Ω:=rfl
  show bX (d6 [some (.int 15),some (.ref q)] Ω)=.ok (.ref Ω.length) (Ω++[.lst [d,r]])
  unfold d6;generalize (m2 (ax .In) (af 0) (mN bt (aa (ae (.int 0)) (aa (ae (.int 1)) (aa (ae (.int 2)) (aa (ae (.int 5)) (aa (ae (.int 7)) (aa (ae (.int 9)) ag))))))))=l at *;simp[b,a,e,f,g,i,j]
end
section
variable{Ω az:av}{q w:Nat}{d r:Mir.D}
theorem wm:O7 [.int w,d,r] Ω=.ok (.ref Ω.length) (Ω++[.lst (iL w d r)]):=by
 have i:O7 [.int w,d,r] Ω=bX (d7 [some (.int w),some d,some r] Ω):=rfl;rw[i];have j:small 0=true:=by decide
 have a:small 1=true:=by decide
 have b:small 2=true:=by decide
 unfold d7 iL
 by_cases c:w=11
 .subst c;simp[j]
 by_cases e:w=12
 .subst e;simp[b]
 by_cases f:w=13
 .subst f;simp[a]
 by_cases g:w=14
 .subst g;simp[a]
 by_cases h:w=15
 .subst h;simp[b]
 have k:¬ (w:Int)=11:=by omega
 have l:¬ (w:Int)=12:=by omega
 have m:¬ (w:Int)=13:=by omega
 have n:¬ (w:Int)=14:=by omega
 have o:¬ (w:Int)=15:=by omega
 have p:((w:Int)==13)=false:=by simpa using m
 have q:((w:Int)==14)=false:=by simpa using n
 simp[c,e,f,g,h,k,l,p,q,o,a]
end
def dep:Nat->Mir.D->Prop
 |0,d=>iK d=true
 |n+1,d=>iK d=true\/∃ds,(d=.lst ds\/d=.tup ds)/\∀x∈ds,dep n x
theorem bU:∀{ds:List Mir.D},(∀d∈ds,c6 d d=true)->c7 ds ds=true
 |[],_=>rfl
 |d::ds,h=>by rw[pS,h d (by simp),bU λx a=>h x (List.mem_cons_of_mem _ a)];rfl
theorem qx{d:Mir.D}(h:iK d=true):c6 d d=true:=by
 cases d<;>first|rfl | (cases h;done)|simp
theorem qy:∀(n:Nat) (d:Mir.D),dep n d->c6 d d=true
 |0,d,h=>qx h
 |n+1,d,h=>by
  rcases h with h|⟨ds,h1,h2⟩
  .exact qx h
  .have:=bU λx a=>qy n x (h2 x a)
   rcases h1 with rfl|rfl
   .rw[vX];exact this
   .rw[vY];exact this
theorem qz:∀(n:Nat) (d:Mir.D),dep n d->aD n d=true
 |0,d,h=>by cases d<;>first|rfl|cases h
 |n+1,d,h=>by
  rcases h with h|⟨ds,h1,h2⟩
  .cases d<;>first|rfl|cases h
  .have:ds.all (aD n)=true:=List.all_eq_true.mpr λx a=>qz n x (h2 x a)
   rcases h1 with rfl|rfl<;>exact this
theorem fB:∀(n:Nat) (d:Mir.D),dep n d->dep (n+1) d
 |0,d,h=>.inl h
 |n+1,d,h=>by
  rcases h with h|⟨ds,h1,h2⟩
  .exact .inl h
  .exact .inr ⟨ds,h1,λx a=>fB n x (h2 x a)⟩
theorem eg{f:Mir.D->Option Mir.D}:∀{ds:List Mir.D},(∀d∈ds,f d=some d)->aT f ds=some ds
 |[],_=>rfl
 |d::ds,h=>by
  have h1:=h d (by simp)
  have a:=eg λx b=>h x (List.mem_cons_of_mem _ b)
  simp only[aT,h1,a]
theorem jB{Ω:av}:∀(n m:Nat) (d:Mir.D),dep n d->n<=m->cT Ω m d=some d
 |0,m,d,h,_=>by cases d<;>first | (cases h;done)|simp
 |n+1,0,d,h,a=>by omega
 |n+1,m+1,d,h,a=>by
  rcases h with h|⟨ds,h1,h2⟩
  .cases d<;>first | (cases h;done)|simp
  .have:=eg λx b=>jB (Ω:=Ω) n m x (h2 x b) (by omega)
   rcases h1 with rfl|rfl
   .exact tI this
   .exact tJ this
theorem mJ{d:Mir.D}(h:kr d):dep 1 d:=by
 rcases h with h|⟨s,rfl⟩
 .exact .inl h
 .exact .inr ⟨_,.inr rfl,λx a=>by
   simp at a;rcases a with rfl|rfl|rfl<;>rfl⟩
section
variable{Ω:av}{a b j o w:Nat}{d e:Mir.D}{ds:List Mir.D}
theorem uH(k:Ω[a]?=some (.lst (iL w d (.ref j))))(l:13<=w->Ω[j]?=some (.lst ds))(m:iK d=true)(n:∀x∈ds,kr x):cT Ω 8 (.ref a)=some (.lst (iL w d (.lst ds))):=by
 refine gb k ?_;have b:cT Ω 7 d=some d:=jB 0 7 d m (by omega)
 have f:13<=w->cT Ω 7 (.ref j)=some (.lst ds):=λh=>gb (l h) (eg λx o=>jB 1 6 x (mJ (n x o)) (by omega))
 unfold iL
 by_cases c:w=11
 .simp[c,aT]
 by_cases e:w=12
 .simp[e,aT,b]
 by_cases g:w=13\/w=14
 .simp[c,e,g,aT,f (by omega)]
 by_cases i:w=15
 .simp[i,aT,b,f (by omega)]
 simp[c,e,g,i,aT,b]
theorem wo(b:iK d=true)(c:∀x∈ds,kr x):dep 3 (.lst (iL w d (.lst ds))):=by
 refine .inr ⟨_,.inl rfl,λx a=>?_⟩
 have e:dep 2 d:=.inl b;have f:dep 2 (.lst ds):=.inr ⟨ds,.inl rfl,λy g=>mJ (c y g)⟩
 have h:dep 2 (.str "heir"):=.inl rfl;unfold iL at a;split at a
 .cases a
 split at a
 .simp at a;rcases a with rfl|rfl<;>assumption
 split at a
 .simp at a;subst a;exact f
 split at a
 .simp at a;rcases a with rfl|rfl<;>assumption
 .simp at a;subst a;exact e
theorem mK{e:Mir.D}(d:cT Ω 8 (.ref a)=some e)(f:cT Ω 8 (.ref b)=some e)(c:dep 3 e):ax .NotEq (.ref a) (.ref b) Ω=.ok (.bl false) Ω:=by
 have g:aD 8 e=true:=qz 8 e (fB _ _ (fB _ _ (fB _ _ (fB _ _ (fB _ _ c)))));have o2:=qy 3 e c;simp[d,f,g,o2]
end
section
variable{Ω az:av}{ρ:aF}{q o j w:Nat}{d:Mir.D}{ds:List Mir.D}
def wW:EM:=cQ (m2 (ax .Eq) (af 0) (af 1)) true (ae .non) (bp (aa (ae (.int 16)) ag)) 0 [3]
theorem wq(c:ρ[3]?=some (some (.int w))):wW ρ Ω=.ok (.ref Ω.length) (Ω++[.lst ((List.range 16).map λi=>Mir.D.bl (decide (i=w)))]):=by
 have a:=dZ (Ω:=Ω) (az:=Ω) (ρ:=ρ) (me:=m2 (ax .Eq) (af 0) (af 1)) (nc:=true) (mc:=ae .non) (mi:=bp (aa (ae (.int 16)) ag)) (cap:=[3]) (src:=.ints 0 16) (ds:=intsFrom 0 16) (p:=λ_=>true) (g:=λd=>match d with|.int i=>.bl (i==(w:Int))|_=>.non) rfl rfl (λd b=>rfl) (λd b _=>by
  obtain⟨i,f⟩:=List.mem_iff_getElem?.mp b;obtain⟨rfl,h⟩:=c3 f;generalize (0+(i:Int))=z at *;simp[dU,c]) (by rw[bS];omega)
 rw[List.filter_eq_self.mpr (by simp),iF,List.map_map]at a
 have e:wW ρ Ω=_:=a;rw[e];refine congrArg (λl=>ak.ok (Mir.D.ref Ω.length) (Ω++[Cell.lst l])) (List.map_congr_left λi _=>?_)
 show Mir.D.bl ((i:Int)==(w:Int))=_
 congr 1
 rw[Bool.eq_iff_iff];simp;omega
def AQ:EM:=nj (jj (m1 (aR uG) (af 10))) (jj (m1 (aR uG) (af 10)))
def AR:EM:=nj (m2 (ax .NotEq) (mN (aH O5) (aa (af 10) ag)) wW) (m2 (ax .NotEq) (mN (aH O6) (aa (af 3) (aa (af 10) ag))) (mN (aH O7) (aa (af 3) (aa (af 6) (aa (af 7) ag)))))
def wX:SM:=aq (dF AQ (aq (a_ (ae (.bl false))) au) au) (aq (dF AR (aq (a_ (ae (.bl false))) au) au) au)
theorem ua{l:List Bool}:dep 3 (.lst (l.map Mir.D.bl)):=.inr ⟨_,.inl rfl,λx a=>by
 obtain⟨b,_,rfl⟩:=List.mem_map.mp a;exact .inl rfl⟩
theorem mL{l:List Bool}{a:Nat}(h:Ω[a]?=some (.lst (l.map Mir.D.bl))):cT Ω 8 (.ref a)=some (.lst (l.map .bl)):=gb h (eg λx c=>by
 obtain⟨b,_,rfl⟩:=List.mem_map.mp c;simp)
theorem wt(l:w<16)(m:ρ[3]?=some (some (.int w)))(F:ρ[6]?=some (some d))(G:ρ[7]?=some (some (.ref o)))(f:ρ[10]?=some (some (.ref q)))(n:iK d=true)(p:∀x∈ds,kr x)
  (s:Ω[q]?=some (.xc (cV w) ((AO w).zip (iL w d (.ref j))))) (H:13<=w->Ω[j]?=some (.lst ds)) (I:Ω[o]?=some (.lst ds)):∃az,wX ρ Ω=.nx ρ az/\aC [] Ω az:=by
 have J:AQ ρ Ω=.ok (.bl false) Ω:=by
  have:=zm l s;simp[AQ,f,this]
 obtain⟨K,c,L,t,M⟩:=wk l s;rw[t9 l]at t;have N:=wq (Ω:=c) m;have A:aC [] c (c++[Cell.lst ((List.range 16).map λi=>Mir.D.bl (decide (i=w)))]):=aC.app
 have B:(c++[Cell.lst ((List.range 16).map λi=>Mir.D.bl (decide (i=w)))])[c.length]?=some (.lst ((List.range 16).map λi=>Mir.D.bl (decide (i=w)))):=aP
 generalize c++[Cell.lst ((List.range 16).map λi=>Mir.D.bl (decide (i=w)))]=a at *
 have O:((List.range 16).map λi=>Mir.D.bl (decide (i=w)))=((List.range 16).map λi=>decide (i=w)).map .bl:=by rw[List.map_map];rfl
 rw[O]at t B;have u:=mK (mL (A.get _ _ t (by simp))) (mL B) ua
 have k:=M.trans A;have P:=t_ l (k.get _ _ s (by simp))
 have Q:aC [] a (a++[Cell.lst (iL w d (.ref j))]):=aC.app;have R:(a++[Cell.lst (iL w d (.ref j))])[a.length]?=some (.lst (iL w d (.ref j))):=aP;generalize a++[Cell.lst (iL w d (.ref j))]=b at *;have S:=wm (Ω:=b) (w:=w) (d:=d) (r:=.ref o);have C:aC [] b (b++[Cell.lst (iL w d (.ref o))]):=aC.app;have T:(b++[Cell.lst (iL w d (.ref o))])[b.length]?=some (.lst (iL w d (.ref o))):=aP;generalize b++[Cell.lst (iL w d (.ref o))]=e at *;have g:=(k.trans Q).trans C;have y:=mK (uH (C.get _ _ R (by simp)) (λh=>g.get _ _ (H h) (by simp)) n p) (uH T (λh=>g.get _ _ I (by simp)) n p) (wo n p)
 refine⟨e,?_,g⟩
 have c1:m2 (ax .NotEq) (mN (aH O5) (aa (af 10) ag)) wW ρ Ω=.ok (.bl false) a:=by
  have z:mN (aH O5) (aa (af 10) ag) ρ Ω=.ok (.ref K) c:=by
   generalize O5=E at *;simp[f,L]
  show ak.bind (mN (aH O5) (aa (af 10) ag) ρ Ω) _=_
  rw[z]
  show ak.bind (wW ρ c) _=_
  rw[N];exact u
 have c2:m2 (ax .NotEq) (mN (aH O6) (aa (af 3) (aa (af 10) ag))) (mN (aH O7) (aa (af 3) (aa (af 6) (aa (af 7) ag)))) ρ a=.ok (.bl false) e:=by
  have z:mN (aH O6) (aa (af 3) (aa (af 10) ag)) ρ a=.ok (.ref a.length) b:=by
   generalize O6=E at *;simp[m,f,P]
  have U:mN (aH O7) (aa (af 3) (aa (af 6) (aa (af 7) ag))) ρ b=.ok (.ref b.length) e:=by
   generalize O7=E at *;simp[m,F,G,S]
  show ak.bind (mN (aH O6) (aa (af 3) (aa (af 10) ag)) ρ a) _=_
  rw[z]
  show ak.bind (mN (aH O7) (aa (af 3) (aa (af 6) (aa (af 7) ag))) ρ b) _=_
  rw[U];exact y
 have V:AR ρ Ω=.ok (.bl false) e:=by
  unfold AR;generalize m2 (ax .NotEq) (mN (aH O5) (aa (af 10) ag)) wW=x1,m2 (ax .NotEq) (mN (aH O6) (aa (af 3) (aa (af 10) ag))) (mN (aH O7) (aa (af 3) (aa (af 6) (aa (af 7) ag))))=x2 at *;simp[c1,c2]
 unfold wX;generalize AQ=X,AR=Y at *;simp[J,V]
end
section
variable{Ω az:av}{ρ:aF}{q o j w h:Nat}{d:Mir.D}{ds:List Mir.D}
def qA:EM:=mN (aH O4) (aa (af 3) (aa (af 6) (aa (af 8) ag)))
def Rf(w:Nat)(d:Mir.D)(ds:List Mir.D)(a:Nat)(Ω:av)(q:Nat):Prop:=∃j,Ω[q]?=some (.xc (cV w) ((AO w).zip (iL w d (.ref j))))/\(13<=w->Ω[j]?=some (.lst ds)/\a<=j)
theorem ub(j:w<16)(k:ρ[3]?=some (some (.int w)))(l:ρ[6]?=some (some d))(m:ρ[8]?=some (some (.ref h)))(o:iK d=true)(p:∀x∈ds,kr x)(q:ds.length<=900)(r:Ω[h]?=some (.lst ds)) :
  ∃n b c az,mN aU (aa qA (aa qA ag)) ρ Ω=.ok (.ref n) az/\az[n]?=some (.lst [.ref b,.ref c])/\Rf w d ds Ω.length az b/\Rf w d ds Ω.length az c/\aC [] Ω az:=by
 obtain⟨b,u,e,y,z,g,s⟩:=mI Ω w d h ds j o r p q;obtain⟨c,A,a,B,C,i,t⟩:=mI e w d h ds j o (g.get _ _ r (by simp)) p q
 have D:qA ρ Ω=.ok (.ref b) e:=by
  unfold qA;generalize O4=E at *;simp[k,l,m,y]
 have F:qA ρ e=.ok (.ref c) a:=by
  unfold qA;generalize O4=E at *;simp[k,l,m,B]
 have G:small 2=true:=by decide
 have f:aC [] a (a++[Cell.lst [.ref b,.ref c]]):=aC.app;refine⟨a.length,b,c,a++[.lst [.ref b,.ref c]],?_,aP,?_,?_,(g.trans i).trans f⟩
 .generalize qA=H at *
  simp[D,F,G]
 .exact⟨u,(i.trans f).get _ _ z (by simp),λh=>⟨(i.trans f).get _ _ (s h).1 (by simp),(s h).2⟩⟩
 .have:=g.len
  exact⟨A,f.get _ _ C (by simp),λh=>⟨f.get _ _ (t h).1 (by simp),by have:=(t h).2;omega⟩⟩
end
section
variable{Ω az:av}{q o w n:Nat}{d:Mir.D}{ds:List Mir.D}{a0 a1 a2 a4 a5 a8 a10:Option Mir.D}{q1 q2 lo:Nat}
theorem uc(g:w<16)(k:iK d=true)(l:∀x∈ds,kr x)(f:Ω[n]?=some (.lst [.ref q1,.ref q2]))(m:Ω[o]?=some (.lst ds))(p:Rf w d ds lo Ω q1)(s:Rf w d ds lo Ω q2) :
  ∃a az,cS (bD 10) (ei (af 9)) wX [a0,a1,a2,some (.int w),a4,a5,some d,some (.ref o),a8,some (.ref n),a10] Ω=.nx [a0,a1,a2,some (.int w),a4,a5,some d,some (.ref o),a8,some (.ref n),a] az/\aC [] Ω az:=by
 have t:cU Ω (.ref n)=some [.ref q1,.ref q2]:=by rw[cw,aW f]
 have e:ei (af 9) [a0,a1,a2,some (.int w),a4,a5,some d,some (.ref o),a8,some (.ref n),a10] Ω=.ok (.seq (.ref n)) Ω:=by
  rw[mF];exact fA t
 rw[gd,e]
 show ∃a az,cR (bD 10) (.seq (.ref n)) wX fuel 0 _ Ω=_/\_
 refine dY (R:=λr=>∃a az,r=.nx [a0,a1,a2,some (.int w),a4,a5,some d,some (.ref o),a8,some (.ref n),a] az/\aC [] Ω az) (ds:=[.ref q1,.ref q2])
  (λ_ ρ b=>∃a,ρ=[a0,a1,a2,some (.int w),a4,a5,some d,some (.ref o),a8,some (.ref n),a]/\aC [] Ω b) (λi ρ b ⟨a,_,K⟩=>by rw[jx,cw,aW (K.get _ _ f (by simp))]) (λi x ρ b c ⟨a,Ce,K⟩=>?_) (λρ b ⟨a,Ce,K⟩=>⟨a,b,by rw[Ce],K⟩) fuel 0 _ Ω (by show 2<fuel;decide) (by simp) ⟨a10,rfl,aC.refl⟩
 subst Ce
 obtain⟨q,rfl,j,u,y⟩:∃q,x=.ref q/\Rf w d ds lo Ω q:=by
  match i,c with
  |0,c=>cases c;exact⟨q1,rfl,p⟩
  |1,c=>cases c;exact⟨q2,rfl,s⟩
 refine⟨[a0,a1,a2,some (.int w),a4,a5,some d,some (.ref o),a8,some (.ref n),some (.ref q)],rfl,?_⟩;obtain⟨z,A,B⟩:=wt (ρ:=[a0,a1,a2,some (.int w),a4,a5,some d,some (.ref o),a8,some (.ref n),some (.ref q)]) (Ω:=b) g rfl rfl rfl rfl k l (K.get _ _ u (by simp)) (λh=>K.get _ _ (y h).1 (by simp)) (K.get _ _ m (by simp))
 rw[A];exact⟨_,rfl,K.trans B⟩
end
section
variable{Ω az:av}{o w:Nat}{d x0:Mir.D}{ds:List Mir.D}{a0 a1 a2 a4 a5 a8 a9 a10:Option Mir.D}
def rest:SM:=(aq (aK 8 (mN (b7 .list) (aa (af 7) ag))) (aq (aK 9 (mN aU (aa qA (aa qA ag)))) (aq (gS (dS kx cu (af 8) (aa (ae (.str "x")) ag))) (aq (gS (dS kx eE (af 8) (aa (ae (.int 0)) ag))) (aq (cS (bD 10) (ei (af 9)) wX) au)))))
theorem ud(C:w<16)(E:iK d=true)(l:∀x∈ds,kr x)(K:ds.length<=900)(m:Ω[o]?=some (.lst ds)) :
  ∃L M p az,rest [a0,a1,a2,some (.int w),a4,a5,some d,some (.ref o),a8,a9,a10] Ω=.nx [a0,a1,a2,some (.int w),a4,a5,some d,some (.ref o),L,M,p] az/\aC [] Ω az:=by
 have N:=iI m;have F:aC [] Ω (Ω++[Cell.lst ds]):=aC.app;have G:(Ω++[Cell.lst ds])[Ω.length]?=some (.lst ds):=aP;have l8:(Ω++[Cell.lst ds]).length=Ω.length+1:=by simp
 generalize Ω++[Cell.lst ds]=g at *;obtain⟨n,H,O,b,P,r,Q,R,t⟩:=ub (ρ:=[a0,a1,a2,some (.int w),a4,a5,some d,some (.ref o),some (.ref Ω.length),a9,a10]) C rfl rfl rfl E l K G;have c:=t.get _ _ G (by simp)
 have S:=hB (d:=.str "x") c (by omega)
 have I:(b.set Ω.length (.lst (ds++[Mir.D.str "x"])))[Ω.length]?=some (.lst (ds++[Mir.D.str "x"])):=hh c;obtain⟨y,T⟩:∃y,(ds++[Mir.D.str "x"])[0]?=some y:=by cases ds<;>exact⟨_,rfl⟩
 have U:=nM (i:=0) (n:=0) I (by simp[L2.mV]) T (by decide)
 have V:aC [Ω.length] b (b.set Ω.length (.lst (ds++[Mir.D.str "x"]))):=aC.set (by simp)
 generalize b.set Ω.length (.lst (ds++[Mir.D.str "x"]))=f at *;have X:aC [Ω.length] f (f.set Ω.length (.lst ((ds++[Mir.D.str "x"]).eraseIdx 0))):=aC.set (by simp)
 have Y:kx f (.ref Ω.length)=true:=by simp[kx,aW I]
 have Z:kx b (.ref Ω.length)=true:=by simp[kx,aW c]
 generalize f.set Ω.length (.lst ((ds++[Mir.D.str "x"]).eraseIdx 0))=u at *;have e:=V.trans X;have lo:Ω.length<g.length:=by omega
 have ro:o<Ω.length:=(List.getElem?_eq_some_iff.mp m).1
 have J:∀q,Rf w d ds g.length b q->Rf w d ds g.length u q:=λq ⟨j,A,h2⟩=>by
  refine⟨j,e.get _ _ A λz=>?_,λh=>⟨e.get _ _ (h2 h).1 λz=>?_,(h2 h).2⟩⟩
  .rw[List.mem_singleton.mp z,c]at A;cases A
  .have:=(h2 h).2;rw[List.mem_singleton.mp z]at this;omega
 obtain⟨a,B,e5,K5⟩:=uc (a0:=a0) (a1:=a1) (a2:=a2) (a4:=a4) (a5:=a5) (a8:=some (.ref Ω.length)) (a10:=a10) C E l (e.get _ _ r λz=>by
  rw[List.mem_singleton.mp z,c]at r;cases r;have k:=l (.ref H) (by simp)
  rcases k with k|⟨s,k⟩<;>cases k) (e.get _ _ ((F.trans t).get _ _ m (by simp)) λz=>by rw[List.mem_singleton.mp z]at ro;omega) (J H Q) (J O R)
 refine⟨some (.ref Ω.length),some (.ref n),a,B,?_,aC.new (F.trans t) (e.trans (K5.sub (by simp))) (by simp)⟩
 unfold rest;generalize cS (bD 10) (ei (af 9)) wX=lp,mN aU (aa qA (aa qA ag))=bo at *;simp[dS,N,P,Z,Y,S,U,e5]
end
theorem D7:F0=pureOf (cD 8 3 iH):=rfl
theorem o2:O2=cD 2 2 jz:=rfl
theorem o3:O3=cD 11 2 (tX F0):=rfl
section
variable{Ω az:av}{ρ:aF}{ns:List Int}{xs:List Str}{μ:Int->Int->Int->Int}
theorem ue{k:Nat}:O2 [SC ns,.int k] Ω=.ok (.int (ns.getD k 0)) Ω:=by
 rw[o2,eI (by rfl)]
 show bX (jz [some (SC ns),some (.int k)] Ω)=_
 have a:b7 .len [SC ns] Ω=.ok (.int ns.length) Ω:=by
  show ak.ok (Mir.D.int ((ns.map Mir.D.int).length:Nat)) Ω=_
  rw[List.length_map]
 by_cases h:k<ns.length
 .have b:(k:Int)<(ns.length:Int):=by omega
  have e:L2.ft (ns.map Mir.D.int) (k:Int)=some (.int (ns.getD k 0)):=L2.eS (by simp[h])
  have c:aV (SC ns) (.int k) Ω=.ok (.int (ns.getD k 0)) Ω:=by
   unfold aV;rw[fj,fj,jw]
   show hF (ixs Ω (some (ns.map Mir.D.int)) (.int k)) _=_
   rw[pZ e];rfl
  simp[jz,a,b,c,-List.getD_eq_getElem?_getD]
 .have b:¬ (k:Int)<(ns.length:Int):=by omega
  have e:ns.getD k 0=0:=by rw[List.getD_eq_getElem?_getD,List.getElem?_eq_none (by omega)];rfl
  rw[e];simp[jz,a,b]
theorem cellQ{me:EM}{k:Nat}(a:ρ[0]?=some (some (SC ns)))(b:me ρ Ω=.ok (.int k) Ω):mN (aH O2) (aa (af 0) (aa me ag)) ρ Ω=.ok (.int (ns.getD k 0)) Ω:=by
 have:=ue (Ω:=Ω) (ns:=ns) (k:=k);generalize O2=o2 at *;generalize ns.getD k 0=v at *;simp[a,b,this]
theorem wu{me:EM}{c t m:Int}(a:et μ F0)(b:me ρ Ω=.ok (.int c) Ω)(d:0<=t)(g:t<100)(e:0<m):mN (bJ F0) (aa me (aa (ae (.int t)) (aa (ae (.int m)) ag))) ρ Ω=.ok (.int (μ c t m)) Ω:=by
 obtain⟨_,_,q⟩:=a c t m d (by omega) e
 generalize F0=f at *;simp[b,q]
def nth(xs:List Str)(z:Int):Str:=(L2.ft xs z).getD ""
theorem lz{z:Int}(a : -(xs.length:Int)<=z)(b:z<xs.length):L2.ft (xs.map Mir.D.str) z=some (.str (nth xs z)):=by
 unfold nth L2.ft;rw[List.length_map]
 obtain⟨j,c,d⟩:∃j,L2.mV xs.length z=some j/\j<xs.length:=by
  unfold L2.mV
  by_cases h:0<=z
  .exact⟨z.toNat,by rw[if_pos h,if_pos b],by omega⟩
  .exact⟨(z+xs.length).toNat,by rw[if_neg h,if_pos a],by omega⟩
 rw[c];simp[d]
def wx:EM:=cQ (mN bt (aa (m2 aV (af 1) (m2 (aw .Sub) (af 0) (ae (.int 1)))) (aa (m2 aV (af 1) (af 0)) (aa (af 0) ag)))) true (ae .non) (bp (aa (mN (b7 .len) (aa (af 1) ag)) ag)) 0 [1]
theorem wy{q:Nat}(h:ρ[1]?=some (some (.ref q)))(b:Ω[q]?=some (.lst (xs.map .str)))(k:xs.length<=900):∃ds,wx ρ Ω=.ok (.ref Ω.length) (Ω++[.lst ds])/\(∀x∈ds,kr x)/\ds.length<=900:=by
 have j:=mG b;rw[List.length_map]at j;have c:gp (xs.length:Int)=true:=fi (by omega) (by omega)
 have l:small 3=true:=by decide
 have m:=dZ (Ω:=Ω) (az:=Ω) (ρ:=ρ) (me:=mN bt (aa (m2 aV (af 1) (m2 (aw .Sub) (af 0) (ae (.int 1)))) (aa (m2 aV (af 1) (af 0)) (aa (af 0) ag)))) (nc:=true) (mc:=ae .non) (mi:=bp (aa (mN (b7 .len) (aa (af 1) ag)) ag)) (cap:=[1]) (src:=.ints 0 xs.length) (ds:=intsFrom 0 xs.length) (p:=λ_=>true) (g:=λd=>match d with|.int i=>.tup [.str (nth xs (i - 1)),.str (nth xs i),.int i]|_=>.non)
  (by simp[h,j,c]) rfl (λd a=>rfl) (λd a _=>by
   obtain⟨i,e⟩:=List.mem_iff_getElem?.mp a;obtain⟨rfl,f⟩:=c3 e;have n:=dn b (lz (xs:=xs) (z:=0+(i:Int) - 1) (by omega) (by omega))
   have o:=dn b (lz (xs:=xs) (z:=0+(i:Int)) (by omega) (by omega))
   generalize (0+(i:Int))=z at *;simp[dU,h,n,o,l]) (by rw[bS];omega)
 refine⟨_,m,λx r=>?_,?_⟩
 .obtain⟨d,a,rfl⟩:=List.mem_map.mp r
  obtain⟨i,e⟩:=List.mem_iff_getElem?.mp (List.mem_filter.mp a).1;obtain⟨rfl,f⟩:=c3 e;refine .inr ⟨(nth xs (0+(i:Int) - 1),nth xs (0+(i:Int)),i),?_⟩
  show Mir.D.tup _=Mir.D.tup _
  rw[show(0+(i:Int))=(i:Int)by omega]
 .rw[List.length_map]
  refine Nat.le_trans (List.length_filter_le _ _) ?_;rw[bS];exact k
end
section
variable{Ω az:av}{ρ:aF}{ns:List Int}{xs:List Str}{μ:Int->Int->Int->Int}{q c w:Nat}{v n:Int}{ds:List Mir.D}
def wz:AM:=aa (m2 aV (af 1) (m2 (aw .Mod) (af 5) (mN (b7 .len) (aa (af 1) ag)))) (aa (af 5) (aa (ae .non) (aa (ae (.bl true)) (aa (ae (.str "")) (aa (m2 (aw .Sub) (m1 o9 (ae (.int 1))) (af 5)) (aa (ae (.str "A b")) ag))))))
def wD:EM:=m2 aV (mN aU wz) (mN (bJ F0) (aa (af 4) (aa (ae (.int 0)) (aa (ae (.int 7)) ag))))
theorem wF(a:et μ F0)(g:ρ[1]?=some (some (.ref q)))(h:ρ[4]?=some (some (.int v)))(j:ρ[5]?=some (some (.int n)))(e:Ω[q]?=some (.lst (xs.map .str)))(B:0<xs.length)(k:xs.length<=900) :
  ∃d l,wD ρ Ω=.ok d (Ω++[.lst l])/\iK d=true:=by
 have f:=mG e;rw[List.length_map]at f;have m:(xs.length:Int)≠0:=by omega
 have o:=dn e (lz (xs:=xs) (z:=n%xs.length) (by have:=Int.emod_nonneg n m;omega) (Int.emod_lt_of_pos _ (by omega)))
 have p:o9 (.int 1) Ω=.ok (.int (-1)) Ω:=rfl;have s:0<(xs.length:Int):=by omega
 have t:wz ρ Ω=.ok [.str (nth xs (n%xs.length)),.int n,.non,.bl true,.str "",.int (-1 - n),.str "A b"] Ω:=by
  unfold wz;generalize (xs.length:Int)=z at *;generalize nth xs (n%z)=y at *;simp[g,j,f,s,o,p]
 obtain⟨C,m1,_⟩:=a v 0 7 (by omega) (by omega) (by omega)
 obtain⟨i,u⟩:∃i:Nat,(i:Int)=μ v 0 7:=⟨(μ v 0 7).toNat,by omega⟩
 obtain⟨r,w,b⟩:∃r,([.str (nth xs (n%xs.length)),.int n,.non,.bl true,.str "",.int (-1 - n),.str "A b"]:List Mir.D)[i]?=some r/\iK r=true:=by
  match i,(show i<7 by omega)with
  |0,_=>exact⟨_,rfl,rfl⟩
  |1,_=>exact⟨_,rfl,rfl⟩
  |2,_=>exact⟨_,rfl,rfl⟩
  |3,_=>exact⟨_,rfl,rfl⟩
  |4,_=>exact⟨_,rfl,rfl⟩
  |5,_=>exact⟨_,rfl,rfl⟩
  |6,_=>exact⟨_,rfl,rfl⟩
 have x:=pick (mi:=mN (bJ F0) (aa (af 4) (aa (ae (.int 0)) (aa (ae (.int 7)) ag)))) t (by simp) (λA=>by
  rw[wu (c:=v) a (by simp[h]) (by omega) (by omega) (by omega),u]) w
 exact⟨r,_,x,b⟩
def wG:EM:=m2 aV (mN aU (aa (af 2) (aa (af 1) ag))) (mN (b7 .int) (aa (m2 (ax .Eq) (af 3) (ae (.int 13))) ag))
theorem wH(f:ρ[1]?=some (some (.ref q)))(g:ρ[2]?=some (some (.ref c)))(i:ρ[3]?=some (some (.int w))) :
  ∃o l,wG ρ Ω=.ok (.ref o) (Ω++[.lst l])/\(o=c\/o=q):=by
 have e:(aa (af 2) (aa (af 1) ag)) ρ Ω=.ok [.ref c,.ref q] Ω:=by simp[f,g]
 have d:∀a,(mN (b7 .int) (aa (m2 (ax .Eq) (af 3) (ae (.int 13))) ag)) ρ a=.ok (.int ((if ((w:Int)==13)=true then 1 else 0:Nat):Int)) a:=λa=>by
  have:b7 .int [.bl ((w:Int)==13)] a=.ok (.int ((if ((w:Int)==13)=true then 1 else 0:Nat):Int)) a:=by
   show k_ .int [.bl ((w:Int)==13)] a=_
   unfold k_;rw[mz];generalize ((w:Int)==13)=b;cases b<;>simp
  generalize (((if ((w:Int)==13)=true then 1 else 0:Nat):Int))=z at *
  simp[i,-beq_iff_eq]at this ⊢;exact this
 by_cases h:((w:Int)==13)=true
 .rw[if_pos h]at d
  exact⟨q,_,pick e (by simp) d rfl,.inr rfl⟩
 .rw[if_neg h]at d
  exact⟨c,_,pick e (by simp) d rfl,.inl rfl⟩
def bdy:SM:=aq (aK 4 (mN (aH O2) (aa (af 0) (aa (m2 (aw .Add) (ae (.int 2)) (af 3)) ag)))) (aq (aK 5 (mN (bJ F0) (aa (af 4) (aa (ae (.int 1)) (aa (ae (.int 50)) ag))))) (aq (aK 6 wD) (aq (aK 7 wG) rest)))
theorem zq:d8=aq (aK 1 (mN (aH O3) (aa (mN (aH O2) (aa (af 0) (aa (ae (.int 0)) ag))) (aa (m2 (aw .Add) (ae (.int 2)) (mN (bJ F0) (aa (mN (aH O2) (aa (af 0) (aa (ae (.int 1)) ag))) (aa (ae (.int 0)) (aa (ae (.int 6)) ag))))) ag)))) (aq (aK 2 wx) (aq (cS (bD 3) (bp (aa (ae (.int 16)) ag)) bdy) (aq (a_ (ae (.bl true))) au))):=rfl
theorem wJ{a4 a5 a6 a7 a8 a9 a10:Option Mir.D}(h:et μ F0)(E:w<16)(B:Ω[q]?=some (.lst (xs.map .str)))(F:0<xs.length)(i:xs.length<=900)(G:Ω[c]?=some (.lst ds))(H:∀x∈ds,kr x)(I:ds.length<=900) :
  ∃J K L M j p e az,bdy [some (SC ns),some (.ref q),some (.ref c),some (.int w),a4,a5,a6,a7,a8,a9,a10] Ω=.nx [some (SC ns),some (.ref q),some (.ref c),some (.int w),J,K,L,M,j,p,e] az/\aC [] Ω az:=by
 have N:=cellQ (Ω:=Ω) (ns:=ns) (ρ:=[some (SC ns),some (.ref q),some (.ref c),some (.int w),a4,a5,a6,a7,a8,a9,a10]) (me:=m2 (aw .Add) (ae (.int 2)) (af 3)) (k:=2+w) rfl (by simp)
 generalize ns.getD (2+w) 0=v at *;have O:=wu (Ω:=Ω) (ρ:=[some (SC ns),some (.ref q),some (.ref c),some (.int w),some (.int v),a5,a6,a7,a8,a9,a10]) (me:=af 4) (c:=v) (t:=1) (m:=50) h rfl (by omega) (by omega) (by omega)
 generalize μ v 1 50=n at *;obtain⟨d,l,P,r⟩:=wF (ρ:=[some (SC ns),some (.ref q),some (.ref c),some (.int w),some (.int v),some (.int n),a6,a7,a8,a9,a10]) (v:=v) (n:=n) h rfl rfl rfl B F i;have Q:aC [] Ω (Ω++[Cell.lst l]):=aC.app;generalize Ω++[Cell.lst l]=a at *;obtain⟨o,C,R,S⟩:=wH (Ω:=a) (ρ:=[some (SC ns),some (.ref q),some (.ref c),some (.int w),some (.int v),some (.int n),some d,a7,a8,a9,a10]) (q:=q) (c:=c) (w:=w) rfl rfl rfl;have T:aC [] a (a++[Cell.lst C]):=aC.app;generalize a++[Cell.lst C]=u at *;have f:=Q.trans T
 obtain⟨b,g,y,z⟩:∃b,u[o]?=some (.lst b)/\(∀x∈b,kr x)/\b.length<=900:=by
  rcases S with rfl|rfl
  .exact⟨ds,f.get _ _ G (by simp),H,I⟩
  .exact⟨_,f.get _ _ B (by simp),λx U=>by obtain⟨s,_,rfl⟩:=List.mem_map.mp U;exact .inl rfl,by rw[List.length_map];exact i⟩
 obtain⟨j,p,e,A,V,X⟩:=ud (a0:=some (SC ns)) (a1:=some (.ref q)) (a2:=some (.ref c)) (a4:=some (.int v)) (a5:=some (.int n)) (a8:=a8) (a9:=a9) (a10:=a10) E r y z g;refine⟨some (.int v),some (.int n),some d,some (.ref o),j,p,e,A,?_,f.trans X⟩;unfold bdy;rw[bc,gc,N];generalize rest=Y,wD=Z,wG=ot,mN (bJ F0) (aa (af 4) (aa (ae (.int 1)) (aa (ae (.int 50)) ag)))=mm at *;simp[O,P,R,V]
end
theorem qB(ns:List Int)(L:ns.length<=63):∃az,O8 [.lst (ns.map .int)] []=.ok (.bl true) az:=by
 obtain⟨p,d⟩:=tW;rw[←D7]at d;have s:yZ O3:=by rw[o3];exact y4 d
 have u:O8 [SC ns] []=bX (d8 [some (SC ns),none,none,none,none,none,none,none,none,none,none] []):=rfl
 show ∃az,O8 [SC ns] []=.ok (.bl true) az
 rw[u,zq];have c0:=cellQ (Ω:=[]) (ns:=ns) (ρ:=[some (SC ns),none,none,none,none,none,none,none,none,none,none]) (me:=ae (.int 0)) (k:=0) rfl rfl;have c1:=wu (t:=0) (m:=6) d (cellQ (Ω:=[]) (ns:=ns) (ρ:=[some (SC ns),none,none,none,none,none,none,none,none,none,none]) (me:=ae (.int 1)) (k:=1) rfl rfl) (by omega) (by omega) (by omega)
 obtain⟨M,m1,_⟩:=d (ns.getD 1 0) 0 6 (by omega) (by omega) (by omega)
 generalize p (ns.getD 1 0) 0 6=z at *;generalize ns.getD 0 0=v at *;obtain⟨m,w⟩:∃m:Nat,(m:Int)=2+z:=⟨(2+z).toNat,by omega⟩
 obtain⟨N,q,a,_,O,l,n,P⟩:=s [] v m (by omega) (by omega)
 rw[w]at l;obtain⟨ds,y,A,B⟩:=wy (ρ:=[some (SC ns),some (.ref q),none,none,none,none,none,none,none,none,none]) rfl n (by omega)
 have C:aC [] a (a++[Cell.lst ds]):=aC.app;have D:(a++[Cell.lst ds])[a.length]?=some (.lst ds):=aP;generalize a.length=c at *;generalize a++[Cell.lst ds]=b at *
 have g:∃f az,cS (bD 3) (bp (aa (ae (.int 16)) ag)) bdy [some (SC ns),some (.ref q),some (.ref c),none,none,none,none,none,none,none,none] b=.nx f az:=by
  have e:bp (aa (ae (.int 16)) ag) [some (SC ns),some (.ref q),some (.ref c),none,none,none,none,none,none,none,none] b=.ok (.ints 0 16) b:=rfl;rw[gd,e]
  show ∃f az,cR (bD 3) (.ints 0 16) bdy fuel 0 _ b=_
  refine dY (R:=λr=>∃f az,r=.nx f az) (ds:=intsFrom 0 16)
   (λ_ ρ a=>∃o a4 a5 a6 a7 a8 a9 a10,ρ=[some (SC ns),some (.ref q),some (.ref c),o,a4,a5,a6,a7,a8,a9,a10]/\aC [] b a) (λ_ _ _ _=>rfl) ?_ (λρ a _=>⟨ρ,a,rfl⟩) fuel 0 _ b (by rw[bS];decide) (by simp) ⟨none,none,none,none,none,none,none,none,rfl,aC.refl⟩
  rintro i x ρ E h ⟨o,a4,a5,a6,a7,a8,a9,a10,rfl,K⟩;obtain⟨rfl,j⟩:=c3 h;rw[show(0:Int)+(i:Int)=(i:Int)by omega]
  refine⟨[some (SC ns),some (.ref q),some (.ref c),some (.int i),a4,a5,a6,a7,a8,a9,a10],rfl,?_⟩;obtain⟨Q,S,T,U,V,X,F,G,H,I⟩:=wJ (ns:=ns) (a4:=a4) (a5:=a5) (a6:=a6) (a7:=a7) (a8:=a8) (a9:=a9) (a10:=a10) d j (K.get _ _ (C.get _ _ n (by simp)) (by simp)) (by omega) (by omega) (K.get _ _ D (by simp)) A B
  rw[H];exact⟨_,_,_,_,_,_,_,_,rfl,K.trans I⟩
 obtain⟨f,az,g⟩:=g;refine⟨az,?_⟩
 have J:mN (aH O3) (aa (mN (aH O2) (aa (af 0) (aa (ae (.int 0)) ag))) (aa (m2 (aw .Add) (ae (.int 2)) (mN (bJ F0) (aa (mN (aH O2) (aa (af 0) (aa (ae (.int 1)) ag))) (aa (ae (.int 0)) (aa (ae (.int 6)) ag))))) ag)) [some (SC ns),none,none,none,none,none,none,none,none,none,none] []=.ok (.ref q) a:=by
  generalize mN (bJ F0) (aa (mN (aH O2) (aa (af 0) (aa (ae (.int 1)) ag))) (aa (ae (.int 0)) (aa (ae (.int 6)) ag)))=x1 at *;generalize mN (aH O2) (aa (af 0) (aa (ae (.int 0)) ag))=x0 at *;generalize O3=o3 at *;simp[c0,c1,l]
 generalize mN (aH O3) (aa (mN (aH O2) (aa (af 0) (aa (ae (.int 0)) ag))) (aa (m2 (aw .Add) (ae (.int 2)) (mN (bJ F0) (aa (mN (aH O2) (aa (af 0) (aa (ae (.int 1)) ag))) (aa (ae (.int 0)) (aa (ae (.int 6)) ag))))) ag))=x0 at *;generalize cS (bD 3) (bp (aa (ae (.int 16)) ag)) bdy=Y,wx=Z at *;simp[J,y,g]
open PySem.Spec PyProof.Rows
def zr:Stmt:=inClass (top 4) 0
def zt:Stmt:=inClass (top 5) 0
def zu:Stmt:=inClass (top 6) 0
def zv:Stmt:=inClass (top 7) 0
def zw:Stmt:=inClass (top 12) 0
def zx:Stmt:=inClass (top 13) 0
def zy:Stmt:=inClass (top 14) 0
def zz:Stmt:=inClass (top 15) 0
def zA:Stmt:=inClass (top 16) 0
def zB:Stmt:=inClass (top 17) 0
def uI:Stmt:=inClass (top 19) 0
def uJ:Stmt:=inClass (top 18) 0
def uK:Stmt:=inClass (top 8) 0
def uL:Stmt:=inClass (top 9) 0
def uM:Stmt:=inClass (top 10) 0
def uN:Stmt:=inClass (top 11) 0
theorem ah{A:Type}{p:A->Prop}{a:A}{l:List A}(h:p a)(t:∀x∈l,p x):∀x∈a::l,p x:=λx b=>by
 rcases List.mem_cons.mp b with e|e
 .rw[e];exact h
 .exact t x e
theorem ay{A:Type}{p:A->Prop}:∀x∈([]:List A),p x:=λ_ h=>nomatch h
theorem cC{K:PySem.W.Frag}{L:List (Str×Addr)}{fl:List (Str×List Str)}{f C:Str}{b:List Str}{a:Addr}(h:B8 K L fl=true)(c:fl.lookup f=some b)(d:b.contains C=true)(e:L.lookup C=some a):PySem.W.findIn K (.ref a) f=some none:=by
 have q:=List.all_eq_true.mp (List.all_eq_true.mp h (f,b) (b_ c)) C (by simpa using d)
 rw[e]at q;exact eq_of_beq q
set_option maxHeartbeats 4000000 in
theorem all_mk{P:Program}{w:World}{K:PySem.W.Frag}{h:Heap}{a:Str->Option Value}{fa:Addr}(X:K.In h)(G:h.Ns mainGlobals a)(K1:a "law"=some (.ref fa))
  (nb:lX K=true)
  {q0:Tok} (z0:PySem.W.nsIn K mainGlobals "DEEPEST"=some (some (.int 8 q0)))
  {f0:Addr}{M1:FuncData} (a0:fN K "_law_mix" (top 22) f0 M1)
  {Y T1:Addr}{Q0:Obj}{y0:Tok}{n1:Nat}{R0 Z:Option Addr}{S0:Array (Option Value)}{T0 d0 e0 g0 H h0:Value} (g:PySem.W.nsIn K mainGlobals "own_copy"=some (some (.ref Y))) (N1:K.lookup Y=some ⟨T0,R0,.func (PySem.W.fnOf "own_copy" "own_copy" (bu (top 2)) (aY (top 2)) (ai (top 2)) (.ref T1) d0 e0 g0 Z H h0),S0⟩) (O1:PySem.W.codeIn K H "own_copy"=true) (c:PySem.W.keepIn K (.ref Y)=true) (W0:K.lookup T1=some Q0) (b1:Q0.data=.seq #[.int 0 y0] n1)
  {C0:Addr} (I:dH K "NoName" "NoName.__init__" zr C0)
  {C1:Addr} (J:dH K "Twice" "Twice.__init__" zt C1)
  {C2:Addr} (M:dH K "NoKind" "NoKind.__init__" zu C2)
  {C3:Addr} (O:dH K "TooMany" "TooMany.__init__" zv C3)
  {C4:Addr} (Q:dH K "NoStrength" "NoStrength.__init__" zw C4)
  {C5:Addr} (R:dH K "NotThere" "NotThere.__init__" zx C5)
  {C6:Addr} (S:dH K "NoRoom" "NoRoom.__init__" zy C6)
  {C7:Addr} (T:dH K "NoThing" "NoThing.__init__" zz C7)
  {C8:Addr} (U:dH K "NoOwn" "NoOwn.__init__" zA C8)
  {C9:Addr} (V:dH K "NoSite" "NoSite.__init__" zB C9)
  {j0:Addr} (j:dH K "NoRow" "NoRow.__init__" uI j0)
  {l0:Addr} (k:dH K "NothingBack" "NothingBack.__init__" uJ l0)
  {m0:Addr} (l:dH K "Heired" "Heired.__init__" uK m0)
  {n0:Addr} (m:dH K "Loop" "Loop.__init__" uL n0)
  {o0:Addr} (n:dH K "Ring" "Ring.__init__" uM o0)
  {p0:Addr} (o:dH K "Tangled" "Tangled.__init__" uN p0)
  {B0:Addr} (aB:PySem.W.nsIn K mainGlobals "LookError"=some (some (.ref B0))) (gB:PySem.W.specialIn K (.ref B0) "__getattribute__"=some (some (.builtin "type.__getattribute__"))) (rB:PySem.W.readsIn K B0 (.type "type")=true) (iB:PySem.W.findCls K (.ref B0) (.type "type") "__init__"=some (.val (.builtin "ValueError.__init__"))) (e5:PySem.W.nsIn K mainGlobals "ValueError"=some none)
  (q:B8 K [("NoName",C0),("Twice",C1),("NoKind",C2),("TooMany",C3),("NoStrength",C4),("NotThere",C5),("NoRoom",C6),("NoThing",C7),("NoOwn",C8),("NoSite",C9),("NoRow",j0),("NothingBack",l0),("Heired",m0),("Loop",n0),("Ring",o0),("Tangled",p0)] XS.fl=true) (ib:CU K [("NoName",C0),("Twice",C1),("NoKind",C2),("TooMany",C3),("NoStrength",C4),("NotThere",C5),("NoRoom",C6),("NoThing",C7),("NoOwn",C8),("NoSite",C9),("NoRow",j0),("NothingBack",l0),("Heired",m0),("Loop",n0),("Ring",o0),("Tangled",p0)] [("NoName",.ref C0),("Twice",.ref C1),("NoKind",.ref C2),("TooMany",.ref C3),("NoStrength",.ref C4),("NotThere",.ref C5),("NoRoom",.ref C6),("NoThing",.ref C7),("NoOwn",.ref C8),("NoSite",.ref C9),("NoRow",.ref j0),("NothingBack",.ref l0),("Heired",.ref m0),("Loop",.ref n0),("Ring",.ref o0),("Tangled",.ref p0),("LookError",.ref B0),("ValueError",.type "ValueError")] XS.is=true)
  {P1:Addr}{e1:FuncData} (f1:fN K "_law_cell" (top 21) P1 e1)
  {Q1:Addr}{g1:FuncData} (h1:fN K "_law_names" (top 23) Q1 g1)
  {R1:Addr}{i1:FuncData} (j1:fN K "_law_made" (top 24) R1 i1)
  {S1:Addr}{l1:FuncData} (o1:fN K "_law_classes" (top 25) S1 l1)
  {W1:Addr}{q1:FuncData} (r1:fN K "_law_kept" (top 26) W1 q1)
  {Z1:Addr}{t1:FuncData} (u1:fN K "_law_due" (top 27) Z1 t1)
  {A0:Addr}{w1 s0:Option Addr}{y1:Array (Option Value)}{z1 t0 u0 v0 i0 w0:Value} (b2:PySem.W.nsIn K mainGlobals "law"=some (some (.ref A0))) (e2:K.lookup A0=some ⟨z1,w1,.func (PySem.W.fnOf "law" "law" (bu (top 28)) (aY (top 28)) (ai (top 28)) .none t0 u0 v0 s0 i0 w0),y1⟩) (f2:PySem.W.codeIn K i0 "law"=true) (g2:PySem.W.keepIn K (.ref A0)=true)
  : ∃fd:FuncData,(∀(s:Shared) (v:Value),BindsTo s fd ⟨[v],[]⟩ [("_law_script",v)])/\∀base:Heap,K.In base->base.Ns mainGlobals a->bO P w K a base dt 13 fa fd Cb (b8 (bf a) O8):=by
 have e:=K1.symm.trans (PySem.W.mg_of X G b2);cases e;have E0:=a0.fn;have b0:=E0.binds (ps:=CW) λ_ _ _ _ _ _=>qb λ_ _ _=>rfl
 have D0:yX K "own_copy" "own_copy" (top 2) (.ref T1) Y _:=⟨⟨_,_,_,_,_,_,_,_,_,rfl,N1,O1⟩,c⟩
 have G0:Binds K (PySem.W.fnOf "own_copy" "own_copy" (bu (top 2)) (aY (top 2)) (ai (top 2)) (.ref T1) d0 e0 g0 Z H h0) wh []:=λs us X hl=>by
  rw[List.append_nil]at hl ⊢;exact all2 (p:=λus=>BindsTo s _ ⟨us,[]⟩ (wh.zip us)) (λ_ _=>PySem.W.binds_K X rfl W0 b1 rfl rfl) us hl
 have b:Binds K (PySem.W.fnOf "own_copy" "own_copy" (bu (top 2)) (aY (top 2)) (ai (top 2)) (.ref T1) d0 e0 g0 Z H h0) wh [.int 0 y0]:=λs us X hl=>
  all1 (p:=λus=>BindsTo s _ ⟨us,[]⟩ (wh.zip (us++[.int 0 y0]))) (λ_=>PySem.W.binds_K X rfl W0 b1 rfl rfl) us (by simpa[wh]using hl)
 have I0:=f1.fn;have h2:=I0.binds (ps:=De) λ_ _ _ _ _ _=>all2 λ_ _=>rfl
 have J0:=h1.fn;have i2:=J0.binds (ps:=Dg) λ_ _ _ _ _ _=>all2 λ_ _=>rfl
 have K0:=j1.fn;have j2:=K0.binds (ps:=Di) λ_ _ _ _ _ _=>qb λ_ _ _=>rfl
 have L0:=o1.fn;have l2:=L0.binds (ps:=Dk) λ_ _ _ _ _ _=>all1 λ_=>rfl
 have M0:=r1.fn;have n2:=M0.binds (ps:=Dm) λ_ _ _ _ _ _=>all2 λ_ _=>rfl
 have P0:=u1.fn;have q2:=P0.binds (ps:=Dp) λ_ _ _ _ _ _=>qb λ_ _ _=>rfl
 have t2:=kK (st:=(top 28)) e2 f2 g2;refine⟨PySem.W.fnOf "law" "law" (bu (top 28)) (aY (top 28)) (ai (top 28)) .none t0 u0 v0 s0 i0 w0,λs v=>.of_eq rfl,λbase _ _=>?_⟩
 have V0:bP P w K a base ({}:aO) 0:=bP.start (oS X G nb);have V1:=V0.tj (x:="DEEPEST") (d:=.int 8) (v:=.int 8) (PySem.W.mg_of X G z0) ⟨_,rfl⟩ rfl;have Y0:bP P w K a base AN 0:=V1;have q0:=cZ Y0 E0 DL DM;have Y1:bP P w K a base CZ 1:=(Y0.mono (Nat.le_succ 0)).ti (x:="_law_mix") (PySem.W.mg_of X G a0.ns) E0.kp b0 (tm q0) (Nat.le_refl _);have X0:bP P w K a base U0 1:=Y1;have wA:=V1.dG (x:="own_copy") (PySem.W.mg_of X G g) c G0 wg;have rA:=jy wA D0 B9 (B_ _);have wB:=(V1.mono (Nat.le_succ 0)).dG (x:="own_copy") (PySem.W.mg_of X G g) c G0 rA;have u2:=jy wB D0 B9 (B_ _);have wC:=(V1.mono (by decide:0<=2)).dG (x:="own_copy") (PySem.W.mg_of X G g) c G0 u2
 have t:bO P w K a base dt 4 Y _ wh (b8 (bf a) O0):=jy wC D0 B9 (B_ _);have r:bP P w K a base U1 4:=X0.mono (by decide)
 have u:XBase K a "LookError" B0:=⟨PySem.W.mg_of X G aB,gB,rB,iB⟩;have w2:f7 P w K a base (bf a) 4 "NoName" y9:=bQ (st:=zr) (ps:=["name"]) (rs:=[⟨"name",_,_,_,_⟩]) (ms:=[d_ O0 1]) (L:=[("name",_,_)]) I (PySem.W.mg_of X G I.ns) u (by decide +kernel) (λ_ _ _ _ _ _=>all2 λ_ _=>rfl) (ah (cC (f:="name") (C:="NoName") q rfl rfl rfl) ay) (by decide) rfl (by decide) (by decide) rfl rfl rfl (ah (λ_=>rfl) ay) (λ_=>rfl) rfl rfl (λy z A B D e E F i=>(ah (cB r t b (PySem.W.mg_of X G g) c rfl rfl i) ay))
 have y2:f7 P w K a base (bf a) 4 "Twice" y_:=bQ (st:=zt) (ps:=["name"]) (rs:=[⟨"name",_,_,_,_⟩]) (ms:=[d_ O0 1]) (L:=[("name",_,_)]) J (PySem.W.mg_of X G J.ns) u (by decide +kernel) (λ_ _ _ _ _ _=>all2 λ_ _=>rfl) (ah (cC (f:="name") (C:="Twice") q rfl rfl rfl) ay) (by decide) rfl (by decide) (by decide) rfl rfl rfl (ah (λ_=>rfl) ay) (λ_=>rfl) rfl rfl (λy z A B D e E F i=>(ah (cB r t b (PySem.W.mg_of X G g) c rfl rfl i) ay))
 have z2:f7 P w K a base (bf a) 4 "NoKind" za:=bQ (st:=zu) (ps:=["name"]) (rs:=[⟨"name",_,_,_,_⟩]) (ms:=[d_ O0 1]) (L:=[("name",_,_)]) M (PySem.W.mg_of X G M.ns) u (by decide +kernel) (λ_ _ _ _ _ _=>all2 λ_ _=>rfl) (ah (cC (f:="name") (C:="NoKind") q rfl rfl rfl) ay) (by decide) rfl (by decide) (by decide) rfl rfl rfl (ah (λ_=>rfl) ay) (λ_=>rfl) rfl rfl (λy z A B D e E F i=>(ah (cB r t b (PySem.W.mg_of X G g) c rfl rfl i) ay))
 have A2:f7 P w K a base (bf a) 4 "TooMany" zb:=bQ (st:=zv) (ps:=["most"]) (rs:=[⟨"most",_,_,_,_⟩]) (ms:=[d_ O0 1]) (L:=[("most",_,_)]) O (PySem.W.mg_of X G O.ns) u (by decide +kernel) (λ_ _ _ _ _ _=>all2 λ_ _=>rfl) (ah (cC (f:="most") (C:="TooMany") q rfl rfl rfl) ay) (by decide) rfl (by decide) (by decide) rfl rfl rfl (ah (λ_=>rfl) ay) (λ_=>rfl) rfl rfl (λy z A B D e E F i=>(ah (cB r t b (PySem.W.mg_of X G g) c rfl rfl i) ay))
 have B2:f7 P w K a base (bf a) 4 "NoStrength" zc:=bQ (st:=zw) (ps:=["value"]) (rs:=[⟨"value",_,_,_,_⟩]) (ms:=[d_ O0 1]) (L:=[("value",_,_)]) Q (PySem.W.mg_of X G Q.ns) u (by decide +kernel) (λ_ _ _ _ _ _=>all2 λ_ _=>rfl) (ah (cC (f:="value") (C:="NoStrength") q rfl rfl rfl) ay) (by decide) rfl (by decide) (by decide) rfl rfl rfl (ah (λ_=>rfl) ay) (λ_=>rfl) rfl rfl (λy z A B D e E F i=>(ah (cB r t b (PySem.W.mg_of X G g) c rfl rfl i) ay))
 have D2:f7 P w K a base (bf a) 4 "NotThere" zd:=bQ (st:=zx) (ps:=["name"]) (rs:=[⟨"name",_,_,_,_⟩]) (ms:=[d_ O0 1]) (L:=[("name",_,_)]) R (PySem.W.mg_of X G R.ns) u (by decide +kernel) (λ_ _ _ _ _ _=>all2 λ_ _=>rfl) (ah (cC (f:="name") (C:="NotThere") q rfl rfl rfl) ay) (by decide) rfl (by decide) (by decide) rfl rfl rfl (ah (λ_=>rfl) ay) (λ_=>rfl) rfl rfl (λy z A B D e E F i=>(ah (cB r t b (PySem.W.mg_of X G g) c rfl rfl i) ay))
 have E2:f7 P w K a base (bf a) 4 "NoRoom" ze:=bQ (st:=zy) (ps:=["value"]) (rs:=[⟨"value",_,_,_,_⟩]) (ms:=[d_ O0 1]) (L:=[("value",_,_)]) S (PySem.W.mg_of X G S.ns) u (by decide +kernel) (λ_ _ _ _ _ _=>all2 λ_ _=>rfl) (ah (cC (f:="value") (C:="NoRoom") q rfl rfl rfl) ay) (by decide) rfl (by decide) (by decide) rfl rfl rfl (ah (λ_=>rfl) ay) (λ_=>rfl) rfl rfl (λy z A B D e E F i=>(ah (cB r t b (PySem.W.mg_of X G g) c rfl rfl i) ay))
 have F2:f7 P w K a base (bf a) 4 "NoThing" zf:=bQ (st:=zz) (ps:=["name"]) (rs:=[⟨"name",_,_,_,_⟩]) (ms:=[d_ O0 1]) (L:=[("name",_,_)]) T (PySem.W.mg_of X G T.ns) u (by decide +kernel) (λ_ _ _ _ _ _=>all2 λ_ _=>rfl) (ah (cC (f:="name") (C:="NoThing") q rfl rfl rfl) ay) (by decide) rfl (by decide) (by decide) rfl rfl rfl (ah (λ_=>rfl) ay) (λ_=>rfl) rfl rfl (λy z A B D e E F i=>(ah (cB r t b (PySem.W.mg_of X G g) c rfl rfl i) ay))
 have G2:f7 P w K a base (bf a) 4 "NoOwn" zg:=bQ (st:=zA) (ps:=["word"]) (rs:=[⟨"word",_,_,_,_⟩]) (ms:=[d_ O0 1]) (L:=[("word",_,_)]) U (PySem.W.mg_of X G U.ns) u (by decide +kernel) (λ_ _ _ _ _ _=>all2 λ_ _=>rfl) (ah (cC (f:="word") (C:="NoOwn") q rfl rfl rfl) ay) (by decide) rfl (by decide) (by decide) rfl rfl rfl (ah (λ_=>rfl) ay) (λ_=>rfl) rfl rfl (λy z A B D e E F i=>(ah (cB r t b (PySem.W.mg_of X G g) c rfl rfl i) ay))
 have I2:f7 P w K a base (bf a) 4 "NoSite" zh:=bQ (st:=zB) (ps:=["name"]) (rs:=[⟨"name",_,_,_,_⟩]) (ms:=[d_ O0 1]) (L:=[("name",_,_)]) V (PySem.W.mg_of X G V.ns) u (by decide +kernel) (λ_ _ _ _ _ _=>all2 λ_ _=>rfl) (ah (cC (f:="name") (C:="NoSite") q rfl rfl rfl) ay) (by decide) rfl (by decide) (by decide) rfl rfl rfl (ah (λ_=>rfl) ay) (λ_=>rfl) rfl rfl (λy z A B D e E F i=>(ah (cB r t b (PySem.W.mg_of X G g) c rfl rfl i) ay))
 have B1:f7 P w K a base (bf a) 4 "NoRow" ql:=bQ (st:=uI) (ps:=["place"]) (rs:=[⟨"place",_,_,_,_⟩]) (ms:=[d_ O0 1]) (L:=[("place",_,_)]) j (PySem.W.mg_of X G j.ns) u (by decide +kernel) (λ_ _ _ _ _ _=>all2 λ_ _=>rfl) (ah (cC (f:="place") (C:="NoRow") q rfl rfl rfl) ay) (by decide) rfl (by decide) (by decide) rfl rfl rfl (ah (λ_=>rfl) ay) (λ_=>rfl) rfl rfl (λy z A B D e E F i=>(ah (cB r t b (PySem.W.mg_of X G g) c rfl rfl i) ay))
 have D1:f7 P w K a base (bf a) 4 "NothingBack" qm:=bQ (st:=uJ) (ps:=[]) (rs:=[]) (ms:=[]) (L:=[]) k (PySem.W.mg_of X G k.ns) u (by decide +kernel) (λ_ _ _ _ _ _=>all1 λ_=>rfl) ay (by decide) rfl (by decide) (by decide) rfl rfl rfl ay (λ_=>rfl) rfl rfl (λy z A B D e E F i=>ay)
 have F1:f7 P w K a base (bf a) 4 "Heired" qo:=bQ (st:=uK) (ps:=["name","heir"]) (rs:=[⟨"name",_,_,_,_⟩,⟨"heir",_,_,_,_⟩]) (ms:=[d_ O0 1,d_ O0 2]) (L:=[("name",_,_),("heir",_,_)]) l (PySem.W.mg_of X G l.ns) u (by decide +kernel) (λ_ _ _ _ _ _=>qb λ_ _ _=>rfl) (ah (cC (f:="name") (C:="Heired") q rfl rfl rfl) (ah (cC (f:="heir") (C:="Heired") q rfl rfl rfl) ay)) (by decide) rfl (by decide) (by decide) rfl rfl rfl (ah (λ_=>rfl) (ah (λ_=>rfl) ay)) (λ_=>rfl) rfl rfl (λy z A B D e E F i=>(ah (cB r t b (PySem.W.mg_of X G g) c rfl rfl i) (ah (cB r t b (PySem.W.mg_of X G g) c rfl rfl i) ay)))
 have G1:f7 P w K a base (bf a) 4 "Loop" qq:=bQ (st:=uL) (ps:=["ring"]) (rs:=[⟨"ring",_,_,_,_⟩]) (ms:=[qG O0 1]) (L:=[("ring",_,_)]) m (PySem.W.mg_of X G m.ns) u (by decide +kernel) (λ_ _ _ _ _ _=>all2 λ_ _=>rfl) (ah (cC (f:="ring") (C:="Loop") q rfl rfl rfl) ay) (by decide) rfl (by decide) (by decide) rfl rfl rfl (ah (λ_=>rfl) ay) (λ_=>rfl) rfl rfl (λy z A B D e E F i=>(ah (cB r t b (PySem.W.mg_of X G g) c rfl rfl i) ay))
 have I1:f7 P w K a base (bf a) 4 "Ring" qr:=bQ (st:=uM) (ps:=["steps"]) (rs:=[⟨"steps",_,_,_,_⟩]) (ms:=[qG O0 1]) (L:=[("steps",_,_)]) n (PySem.W.mg_of X G n.ns) u (by decide +kernel) (λ_ _ _ _ _ _=>all2 λ_ _=>rfl) (ah (cC (f:="steps") (C:="Ring") q rfl rfl rfl) ay) (by decide) rfl (by decide) (by decide) rfl rfl rfl (ah (λ_=>rfl) ay) (λ_=>rfl) rfl rfl (λy z A B D e E F i=>(ah (cB r t b (PySem.W.mg_of X G g) c rfl rfl i) ay))
 have J1:f7 P w K a base (bf a) 4 "Tangled" qu:=bQ (st:=uN) (ps:=["name","steps"]) (rs:=[⟨"name",_,_,_,_⟩,⟨"steps",_,_,_,_⟩]) (ms:=[d_ O0 1,qG O0 2]) (L:=[("name",_,_),("steps",_,_)]) o (PySem.W.mg_of X G o.ns) u (by decide +kernel) (λ_ _ _ _ _ _=>qb λ_ _ _=>rfl) (ah (cC (f:="name") (C:="Tangled") q rfl rfl rfl) (ah (cC (f:="steps") (C:="Tangled") q rfl rfl rfl) ay)) (by decide) rfl (by decide) (by decide) rfl rfl rfl (ah (λ_=>rfl) (ah (λ_=>rfl) ay)) (λ_=>rfl) rfl rfl (λy z A B D e E F i=>(ah (cB r t b (PySem.W.mg_of X G g) c rfl rfl i) (ah (cB r t b (PySem.W.mg_of X G g) c rfl rfl i) ay)))
 have xg:fL P w K a base (bf a) 6 XS:=qj (ah ⟨PySem.W.mg_of X G I.ns,let ⟨N,f,_,_,h,_⟩:=I.ex;⟨N,f,h⟩,I.is⟩ (ah ⟨PySem.W.mg_of X G J.ns,let ⟨N,f,_,_,h,_⟩:=J.ex;⟨N,f,h⟩,J.is⟩ (ah ⟨PySem.W.mg_of X G M.ns,let ⟨N,f,_,_,h,_⟩:=M.ex;⟨N,f,h⟩,M.is⟩ (ah ⟨PySem.W.mg_of X G O.ns,let ⟨N,f,_,_,h,_⟩:=O.ex;⟨N,f,h⟩,O.is⟩ (ah ⟨PySem.W.mg_of X G Q.ns,let ⟨N,f,_,_,h,_⟩:=Q.ex;⟨N,f,h⟩,Q.is⟩ (ah ⟨PySem.W.mg_of X G R.ns,let ⟨N,f,_,_,h,_⟩:=R.ex;⟨N,f,h⟩,R.is⟩ (ah ⟨PySem.W.mg_of X G S.ns,let ⟨N,f,_,_,h,_⟩:=S.ex;⟨N,f,h⟩,S.is⟩ (ah ⟨PySem.W.mg_of X G T.ns,let ⟨N,f,_,_,h,_⟩:=T.ex;⟨N,f,h⟩,T.is⟩ (ah ⟨PySem.W.mg_of X G U.ns,let ⟨N,f,_,_,h,_⟩:=U.ex;⟨N,f,h⟩,U.is⟩ (ah ⟨PySem.W.mg_of X G V.ns,let ⟨N,f,_,_,h,_⟩:=V.ex;⟨N,f,h⟩,V.is⟩ (ah ⟨PySem.W.mg_of X G j.ns,let ⟨N,f,_,_,h,_⟩:=j.ex;⟨N,f,h⟩,j.is⟩ (ah ⟨PySem.W.mg_of X G k.ns,let ⟨N,f,_,_,h,_⟩:=k.ex;⟨N,f,h⟩,k.is⟩ (ah ⟨PySem.W.mg_of X G l.ns,let ⟨N,f,_,_,h,_⟩:=l.ex;⟨N,f,h⟩,l.is⟩ (ah ⟨PySem.W.mg_of X G m.ns,let ⟨N,f,_,_,h,_⟩:=m.ex;⟨N,f,h⟩,m.is⟩ (ah ⟨PySem.W.mg_of X G n.ns,let ⟨N,f,_,_,h,_⟩:=n.ex;⟨N,f,h⟩,n.is⟩ (ah ⟨PySem.W.mg_of X G o.ns,let ⟨N,f,_,_,h,_⟩:=o.ex;⟨N,f,h⟩,o.is⟩ ay)))))))))))))))) (ah (.inl (PySem.W.mg_of X G I.ns)) (ah (.inl (PySem.W.mg_of X G J.ns)) (ah (.inl (PySem.W.mg_of X G M.ns)) (ah (.inl (PySem.W.mg_of X G O.ns)) (ah (.inl (PySem.W.mg_of X G Q.ns)) (ah (.inl (PySem.W.mg_of X G R.ns)) (ah (.inl (PySem.W.mg_of X G S.ns)) (ah (.inl (PySem.W.mg_of X G T.ns)) (ah (.inl (PySem.W.mg_of X G U.ns)) (ah (.inl (PySem.W.mg_of X G V.ns)) (ah (.inl (PySem.W.mg_of X G j.ns)) (ah (.inl (PySem.W.mg_of X G k.ns)) (ah (.inl (PySem.W.mg_of X G l.ns)) (ah (.inl (PySem.W.mg_of X G m.ns)) (ah (.inl (PySem.W.mg_of X G n.ns)) (ah (.inl (PySem.W.mg_of X G o.ns)) (ah (.inl (PySem.W.mg_of X G aB)) (ah (.inr ⟨PySem.W.mg_none_of X G e5,rfl⟩) ay)))))))))))))))))) q ib (ah ⟨4,by decide,w2⟩ (ah ⟨4,by decide,y2⟩ (ah ⟨4,by decide,z2⟩ (ah ⟨4,by decide,A2⟩ (ah ⟨4,by decide,B2⟩ (ah ⟨4,by decide,D2⟩ (ah ⟨4,by decide,E2⟩ (ah ⟨4,by decide,F2⟩ (ah ⟨4,by decide,G2⟩ (ah ⟨4,by decide,I2⟩ (ah ⟨4,by decide,B1⟩ (ah ⟨4,by decide,D1⟩ (ah ⟨4,by decide,F1⟩ (ah ⟨4,by decide,G1⟩ (ah ⟨4,by decide,I1⟩ (ah ⟨4,by decide,J1⟩ ay))))))))))))))))
 have X2:bP P w K a base U2 6:=(r.mono (by decide)).Bq xg
 have r2:=cZ X2 I0 DP DQ;have X3:bP P w K a base U3 7:=X2.dG (PySem.W.mg_of X G f1.ns) I0.kp h2 r2;have r3:=cZ X3 J0 DR DS;have X4:bP P w K a base U4 8:=X3.dG (PySem.W.mg_of X G h1.ns) J0.kp i2 r3;have r4:=cZ X4 K0 DT DU;have X5:bP P w K a base U5 9:=X4.dG (PySem.W.mg_of X G j1.ns) K0.kp j2 r4;have r5:=cZ X5 L0 DV DW;have X6:bP P w K a base U6 10:=X5.dG (PySem.W.mg_of X G o1.ns) L0.kp l2 r5;have r6:=cZ X6 M0 DX DY;have X7:bP P w K a base U7 11:=X6.dG (PySem.W.mg_of X G r1.ns) M0.kp n2 r6;have r7:=cZ X7 P0 DZ D3;have X8:bP P w K a base U8 12:=X7.dG (PySem.W.mg_of X G u1.ns) P0.kp q2 r7;have r8:=cZ X8 t2 D4 D5;exact r8
theorem walk{l:PySem.W.OpenLaw}{q:Program}{i:List Str}{r:(Str->Option Value)->Heap->Prop}{p:World->Heap->Prop}{d:DefRec}{K:Params->PySem.W.Frag}(t:l.most=some 63)(o:d.params.defaults=[])
  (y:∀(w:World) (h:Heap),p w h->(K w.params).In h) (A:∀B,jW (K B)=true)
  (F:∀(w:World) (g:Str->Option Value) (j:Addr) (h:Heap),(K w.params).In h->h.Ns mainGlobals g->g d.name=some (.ref j) ->
   ∃m:FuncData,(∀(s:Shared) (u:Value),BindsTo s m ⟨[u],[]⟩ [("_law_script",u)])/\∀base:Heap,(K w.params).In base->base.Ns mainGlobals g->bO l.prog w (K w.params) g base dt 13 j m Cb (b8 (bf g) O8)) :
  PySem.W.WalkO q i r p l.row.toRowW d [] (λf vs=>PySem.call f vs):=
 L2.rf (n:=63) (k:=13) (x:="_law_script") (CX:=λ_=>dt) (sp:=λw=>yo O8) t (by decide) o ⟨rfl,by decide,by decide⟩ y (λw g j h a b c=>let ⟨m,C,D⟩:=F w g j h a b c;⟨m,C,λbase d e=>(D base d e).imp λvs H Q E z=>z (bf g)⟩) (λw H a G I _ J L=>tf (xZ (A w.params) J) (qB G I).choose_spec) λ_ _ _ _ _ z=>z
end eJ
def PySem.W.Fast.tw677429650446530683:PySem.Program:=PySem.Challenge.pw_taglook_k19_refusals_apart
theorem PySem.W.Fast.te677429650446530683:PySem.Challenge.pw_taglook_k19_refusals_apart=PySem.W.Fast.tw677429650446530683:=rfl
def PySem.W.Fast.tw1060590548929404396:Nat:=0
def PySem.W.Fast.tw2754757980627210231:Nat:=0
def PySem.W.Fast.tw5795722840568615316:Nat:=0
def PySem.W.Fast.tw9293451253306332812:Nat:=0
def PySem.W.Fast.tw531662178492247253:Nat:=0
def PySem.W.Fast.tw5543299798055921995:Nat:=0
def PySem.W.Fast.tw6290520855887210593:Nat:=0
def PySem.W.Fast.tw5241835068396117326:Nat:=0
def PySem.W.Fast.tw6798090362790600715:Nat:=0
def PySem.W.Fast.tw132833629670215797:Nat:=0
def PySem.W.Fast.tw6548958433498169454:Nat:=0
def PySem.W.Fast.tw13423699295035579674:Nat:=0
def PySem.W.Fast.tw15310558475266825856:Nat:=0
def PySem.W.Fast.tw3023656953541427545:Nat:=0
def PySem.W.Fast.tw18204680211711497440:Nat:=0
def PySem.W.Fast.tw16199572252010058338:Nat:=0
def PySem.W.Fast.tw6001219309323363632:Nat:=0
def PySem.W.Fast.tw12702066484738394446:Nat:=0
def PySem.W.Fast.tw7279971921053746984:Nat:=0
def PySem.W.Fast.tw7506870961163995107:Nat:=0
def PySem.W.Fast.tw875592445935264360:Nat:=0
def PySem.W.Fast.tw15920333307726039457:Nat:=0
def PySem.W.Fast.tw5618462406834190890:Nat:=0
def PySem.W.Fast.tw9739389564515166861:Nat:=0
def PySem.W.Fast.tw6891085572707688129:Nat:=0
def PySem.W.Fast.tw780058616218207536:Nat:=0
def PySem.W.Fast.tw8573633548206137905:Nat:=0
def PySem.W.Fast.tw6460796593684438657:Nat:=0
def PySem.W.Fast.tw13217149788933316318:Nat:=0
def PySem.W.Fast.tw10035729801354358013:Nat:=0
def PySem.W.Fast.tw1003259692515163673:Nat:=0
def PySem.W.Fast.tw11344788007978180855:Nat:=0
def PySem.W.Fast.tw14969673145982699184:Nat:=0
def PySem.W.Fast.tw2517841986027245005:Nat:=0
def PySem.W.Fast.tw5655040141332960974:Nat:=0
def PySem.W.Fast.tw2349241389929621162:Nat:=0
def PySem.W.Fast.tw9998018435926389669:Nat:=0
def PySem.W.Fast.tw2760981366753769963:Nat:=0
def PySem.W.Fast.tw11136520718096664803:Nat:=0
def PySem.W.Fast.tw10834976299564439593:Nat:=0
def PySem.W.Fast.tw13113384371978803278:Nat:=0
open PySem PySem.W PyProof.Rows
set_option maxRecDepth 100000 in
set_option maxHeartbeats 0 in
theorem PySem.Challenge.cw_taglook_k19_refusals_apart_holds : PySem.Challenge.rw_taglook_k19_refusals_apart.Holds := by
 w_on;o_law;k_head;(case hw=>w_witness2)
 k_fill
 refine eJ.walk (l:=PySem.Challenge.rw_taglook_k19_refusals_apart) rfl rfl (λw h Y=>PySem.W.kIn_of Y) ?hK ?F
 case hK=>intro pm;exact(Eq.refl true)
 case F=>
  intro w mg fa h KX G hmg;refine' eJ.all_mk KX G hmg ?nb ?z0 ?a0 ?D8 ?D9 ?D_ ?Ea ?Eb ?Ec ?Ed ?Ee ?Ef ?Eg ?Eh ?Ei ?Ej ?Ek ?El ?Em ?Cf ?Cg ?Ci ?Cj ?Ck ?Cm ?aB ?gB ?rB ?iB ?e5 ?fb ?ib ?En ?Eo ?Ep ?Er ?Es ?Et ?Eu ?Ew ?Ey ?Ez
  (case nb=>exact(Eq.refl true))
  (case z0=>k_is)
  (case a0=>refine' Mir.kq ?a ?l ?c ?k;(case a=>k_is);(case l=>k_is);(case c=>k_is);(case k=>k_is))
  (case D8 |D9 |D_ |Ea |Eb=>k_is)
  (case Ec=>exact rfl)
  (case Ed |Ee |Ef |Eg |Eh |Ei |Ej |Ek |El |Em |Cf |Cg |Ci |Cj |Ck |Cm=>refine' Mir.t7 ?a ?lC ?nC ?tC ?xb ?lI ?yI ?wI ?xi;(case a=>k_is);(case lC=>k_is);(case nC=>k_is);(case tC=>exact(Eq.refl true));(case xb=>exact(Eq.refl true));(case lI=>k_is);(case yI=>k_is);(case wI=>k_is);(case xi=>exact(Eq.refl true)))
  (case aB |gB |rB |iB |e5=>k_is)
  (case fb |ib=>exact(Eq.refl true))
  (case En |Eo |Ep |Er |Es |Et=>refine' Mir.kq ?a ?l ?c ?k;(case a=>k_is);(case l=>k_is);(case c=>k_is);(case k=>k_is))
  (case Eu |Ew |Ey |Ez=>k_is)
